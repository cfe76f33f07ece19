import PyProof.Rows.All
import Wide.All
import OpenK.AllK
import Wide.FinOn
import Lean
import PyProof.EqAt
import PyProof.EqKinds
import PyProof.TupleCall
import PyProof.ZipIter
import PyProof.Draws
import PyProof.StationsW
import PyProof.EnumStmt
import PyProof.EnumMake
import PyProof.CallType
import PyProof.Rows.CallKwBuiltin
import PyProof.EnumIter
import PyProof.Rows.SeqMore
import PySem.Challenge.RW_steadyhand_k86_whole_papers_of_rooms_tur
set_option Elab.async false
set_option linter.all false
set_option maxRecDepth 100000
set_option maxHeartbeats 0
namespace TT
open PySem PySem.W
def runT (tb:String->Option Builtin) (p:Program) (w:World) (k:Nat) (an:Option Value):Nat->SharedT->Thread->Option SharedT
 | 0,_,_=>none
 | j + 1,x,t=>match through t with
  | true=>some x
  | false=>match stepOk k an t with
   | false=>none
   | true=>match stepT (denote tb) p w x t with
    | none=>none
    | some y=>runT tb p w k an j y.1 y.2
theorem Qt {tb:String->Option Builtin} {p:Program} {w:World} {k:Nat} {an:Option Value}:∀ (j:Nat) (x y:SharedT) (t:Thread),runT tb p w k an j x t=some y->topRun tb p w k an j x.abs t=some y.abs
 | 0,_,_,_,e=>by cases e
 | j + 1,x,y,t,e=>by
  unfold runT at e
  unfold topRun
  cases e1:through t with
  | true=>
   rw [e1] at e
   cases e
   rfl
  | false=>
   rw [e1] at e
   cases e2:stepOk k an t with
   | false=>rw [e2] at e; cases e
   | true=>
    rw [e2] at e
    cases e3:stepT (denote tb) p w x t with
    | none=>rw [e3] at e; cases e
    | some z=>
     rw [e3] at e
     rw [stepT_spec e3]
     exact Qt j z.1 y z.2 e
theorem left_is {p q:Program} {lo:List Str} {xt:Shared->Bool} {α:Type} {Yf:Shared->α} {Ya:World->α} {N k n0:Nat} {an:Option Value} {tr:Params->BT} (op:∀ w:World,(fencedOpening treeTable p w N).map (λs=>(s.heap,s.gens,s.drawn,s.toks))=some (boot_heap w.params,Array.mk [],boot_drawn,boot_toks))
  (et:∀ P:Params,absHeap (tr P) n0 (boot_heap P).life=boot_heap P) (z1:∀ P:Params,(boot_heap P).isNs mainGlobals=true) (z2:∀ P:Params,(boot_heap P).objs.size=k) (z3:∀ P:Params,(boot_heap P).nsMap mainGlobals "__annotations__" = an)
  (h:∀ (w:World) (os:OsState),(runT treeTable p w k an N ⟨tr w.params,n0,(boot_heap w.params).life,Array.mk [],boot_drawn,boot_toks,os⟩ (topStub p)).map (λs=>((staticsOk (importedModules p.main.body) (boot_heap w.params) s.abs.heap && namesBound p s.abs.heap && gensDone s.abs && laidKept (boot_heap w.params) s.abs.heap),openSeen q lo (importedModules p.main.body) xt true s.abs,Yf s.abs))=some (true,openGood q lo,Ya w)) :
  LeftO p q lo xt Yf Ya N:=λw=>by
 obtain ⟨⟨hp,gs,d,tk,os⟩,e,e'⟩:=Option.map_eq_some_iff.mp (op w)
 injection e' with a1 e'
 injection e' with a2 e'
 injection e' with a3 a4
 subst a1 a2 a3 a4
 obtain ⟨y,ey,eo⟩:=Option.map_eq_some_iff.mp (h w os)
 injection eo with l1 eo
 injection eo with l2 l3
 have r:=Qt _ _ _ _ ey
 have r':topRun treeTable p w k an N ⟨boot_heap w.params,Array.mk [],boot_drawn,boot_toks,os⟩ (topStub p)=some y.abs:=by
  rw [<- r]
  unfold SharedT.abs
  rw [et]
 have f:topFrom treeTable p w N ⟨boot_heap w.params,Array.mk [],boot_drawn,boot_toks,os⟩=some y.abs:=by
  unfold topFrom
  show (match (boot_heap w.params).isNs mainGlobals && true with | true=>_ | false=>_)=_
  rw [z1,z2,z3,r']
  show (match (_ && _ && _ && _) with | true=>_ | false=>_)=_
  rw [l1]
 unfold openEnds
 rw [e]
 show (topFrom treeTable p w N _).map _=_
 rw [f]
 exact congrArg some (Prod.ext l2 l3)
end TT
namespace H86
open PySem PySem.W
set_option maxRecDepth 100000
def hT (i:Nat):Stmt:=PySem.Challenge.pw_steadyhand_k86_whole_papers_of_rooms_tur.main.body.getD i (.Pass ⟨0,0,0,0⟩)
def hI (i j:Nat):Stmt:=match hT i with
 | .ClassDef _ _ _ b _ _ _ _ _ _ _=>b.getD j (.Pass ⟨0,0,0,0⟩)
 | s=>s
def hA:Stmt->Arguments
 | .FunctionDef _ a _ _ _ _ _ _ _ _=>a
 | _=>⟨[],[],none,[],[],none,[]⟩
def hB:Stmt->List Stmt
 | .FunctionDef _ _ b _ _ _ _ _ _ _=>b
 | _=>[]
def hC:Stmt->Scope
 | .FunctionDef _ _ _ _ _ _ c _ _ _=>c
 | _=>{ kind:=.function,names:=[],isGenerator:=false,isCoroutine:=false }
abbrev hS (s:String) (n:Nat):Value:=.str (Str.ofString s) n
abbrev hE (P:Params) (s:String) (n:Nat) (v:Value):DictEntry:=⟨PyData.keyHash P (Str.ofString s),hS s n,v⟩
abbrev hU (x:Array Value):Obj:={ cls:=.type "tuple",data:=.seq x }
abbrev hD (s:String) (a:Nat) (s2:String) (b c:Nat) (i j f:Int) (r1 r2:Nat) (u v t r:Value) (y z:Int) (d:Nat):Obj:={ cls:=.type "code",data:=.fields #[hS s a,hS s2 b,hS "/claim/cut.py" c,.int i 0,.int j 0,.int 0 0,.int 0 0,.int f 0,.ref r1,.bool true,.int 181 0,.ref r2,u,v,t,r,.int y 0,.int z 0,hS "/claim/cut.py" d] }
abbrev hF (n q:String) (s:Stmt) (d k:Value) (m:String) (j c:Nat):Obj:={ cls:=.type "function",data:=.func { name:=n,qualname:=q,params:=hA s,body:=.stmts (hB s),scope:=hC s,globals:=3,closure:=[],defaults:=d,kwdefaults:=k,pyModule:=hS m j,code:=.ref c } }
noncomputable def KK:Params->Frag:=λP=>
 (nat_lit 2,{ cls:=.none,data:=.dict #[] })::(nat_lit 3,{ cls:=.type "dict",data:=.dict #[hE P "__name__" 165 (hS "law_steadyhand_k86_whole_papers_of_rooms_tur" 902),hE P "__doc__" 166 (.none),hE P "__package__" 167 (.none),hE P "__loader__" 168 (.builtin "__main__.__loader__#opaque"),hE P "__spec__" 169 (.none),hE P "__annotations__" 170 (.ref 6),hE P "__builtins__" 171 (.ref 4),hE P "__file__" 173 (hS "/claim/cut.py" 172),hE P "__cached__" 174 (.none),hE P "_wall" 193 (.ref 21),hE P "SteadyError" 213 (.ref 31),hE P "BadThing" 229 (.ref 44),hE P "TooMany" 245 (.ref 56),hE P "NotClosed" 261 (.ref 68),hE P "BadTurn" 277 (.ref 80),hE P "is_whole" 286 (.ref 89),hE P "is_numbers" 294 (.ref 94),hE P "is_table" 300 (.ref 99),hE P "copied" 307 (.ref 105),hE P "unit" 314 (.ref 111),hE P "scaled" 320 (.ref 116),hE P "mixed" 326 (.ref 121),hE P "paired" 332 (.ref 126),hE P "added_up" 338 (.ref 131),hE P "is_row" 346 (.ref 136),hE P "is_room" 352 (.ref 141),hE P "single" 362 (.ref 148),hE P "other_side" 368 (.ref 153),hE P "MOST_NUMBERS" 372 (.int 3 371),hE P "MOST_PUSHES" 374 (.int 6 373),hE P "MOST_MODES" 376 (.int 40 375),hE P "Mode" 415 (.ref 170),hE P "Thing" 475 (.ref 217),hE P "is_sound" 481 (.ref 226),hE P "is_push" 488 (.ref 233),hE P "is_mode" 497 (.ref 240),hE P "is_unsteered" 503 (.ref 245),hE P "ask_closed" 510 (.ref 252),hE P "turned_row" 520 (.ref 259),hE P "turned" 526 (.ref 264),hE P "is_turn" 532 (.ref 269),hE P "product" 538 (.ref 274),hE P "turned_mode" 544 (.ref 279),hE P "Claim" 566 (.ref 289),hE P "Settles" 596 (.ref 311),hE P "Comes" 625 (.ref 330),hE P "standing" 633 (.ref 337),hE P "reach" 644 (.ref 344),hE P "added" 655 (.ref 351),hE P "is_from_0_on" 662 (.ref 358),hE P "are_shares" 668 (.ref 363),hE P "shows" 674 (.ref 368),hE P "Paper" 696 (.ref 378),hE P "Rooms" 729 (.ref 399),hE P "Falls" 770 (.ref 418),hE P "lets_by" 779 (.ref 427),hE P "is_list_of" 787 (.ref 434),hE P "each_shown" 793 (.ref 439),hE P "settles_over" 801 (.ref 446),hE P "comes_over" 809 (.ref 453),hE P "lets_rooms_by" 818 (.ref 460),hE P "are_rooms" 824 (.ref 465),hE P "rooms_follow" 830 (.ref 470),hE P "leads" 836 (.ref 475),hE P "mode_leads" 842 (.ref 480),hE P "rooms_stay" 848 (.ref 485),hE P "lets_fall_by" 857 (.ref 492),hE P "height_at_most" 865 (.ref 499),hE P "height_from_0_on" 871 (.ref 504),hE P "fall_row" 883 (.ref 511),hE P "floors_hold" 889 (.ref 516),hE P "falls_hold" 895 (.ref 521),hE P "mode_falls" 901 (.ref 526),hE P "_law_cell_at" 911 (.ref 533),hE P "_law_stream" 923 (.ref 540),hE P "_law_number" 931 (.ref 547),hE P "_law_mode" 937 (.ref 552),hE P "_law_thing" 953 (.ref 559),hE P "_law_made" 959 (.ref 564),hE P "_law_box" 972 (.ref 571),hE P "_law_rows" 978 (.ref 576),hE P "_law_top" 989 (.ref 583),hE P "_law_beyond" 995 (.ref 588),hE P "_law_image" 1001 (.ref 593),hE P "_law_hull" 1007 (.ref 598),hE P "_law_kept" 1016 (.ref 605),hE P "_law_both" 1025 (.ref 612),hE P "_law_step_shares" 1031 (.ref 617),hE P "_law_box_steps" 1037 (.ref 622),hE P "_law_box_starts" 1046 (.ref 629),hE P "_law_boxes" 1058 (.ref 636),hE P "_law_claim_rows" 1064 (.ref 641),hE P "_law_parts" 1070 (.ref 646),hE P "_law_other" 1083 (.ref 653),hE P "_law_changed" 1092 (.ref 660),hE P "_law_turning" 1098 (.ref 665),hE P "_law_turned_row" 1104 (.ref 670),hE P "_law_turned_room" 1110 (.ref 675),hE P "_law_spoilt" 1124 (.ref 682),hE P "_law_told" 1133 (.ref 689),hE P "law" 1139 (.ref 694)] 101 })::(nat_lit 15,hU #[])::(nat_lit 17,hU #[hS "k" 190])::(nat_lit 18,hU #[])::(nat_lit 20,hD "_wall" 187 "_wall" 188 189 1 1 3 15 16 .none (.ref 17) (.ref 18) (.ref 19) 191 1 192)::(nat_lit 21,hF "_wall" "_wall" (hT 0) .none .none "__main__" 164 20)::(nat_lit 22,hU #[.type "ValueError"])::(nat_lit 29,hU #[])::(nat_lit 30,{ cls:=.type "dict",data:=.dict #[hE P "__module__" 203 (hS "steadyhand.errors" 194),hE P "__firstlineno__" 207 (.int 5 206),hE P "__static_attributes__" 208 (.ref 29),hE P "__weakref__" 210 (.ref 32),hE P "__doc__" 211 (.none)] 3 })::(nat_lit 31,{ cls:=.type "type",data:=.cls { name:="SteadyError",bases:=[.type "ValueError"],mro:=[.ref 31,.type "ValueError",.type "Exception",.type "BaseException",.type "object"],ns:=30,qualname:="SteadyError",subclasses:=[.ref 44,.ref 56,.ref 68,.ref 80] },slots:=#[some (.ref 22),none,some (hS "SteadyError" 196),some (hS "SteadyError" 204),some (.builtin "ValueError.__new__"),some (.bool true)] })::(nat_lit 32,{ cls:=.type "getset_descriptor",data:=.fields #[hS "__weakref__" 209,.ref 31,.builtin "ExceptionGroup.__weakref__",.none] })::(nat_lit 35,hU #[.ref 31])::(nat_lit 42,hU #[])::(nat_lit 43,{ cls:=.type "dict",data:=.dict #[hE P "__module__" 221 (hS "steadyhand.errors" 194),hE P "__firstlineno__" 225 (.int 7 224),hE P "__static_attributes__" 226 (.ref 42),hE P "__doc__" 227 (.none)] 2 })::(nat_lit 44,{ cls:=.type "type",data:=.cls { name:="BadThing",bases:=[.ref 31],mro:=[.ref 44,.ref 31,.type "ValueError",.type "Exception",.type "BaseException",.type "object"],ns:=43,qualname:="BadThing" },slots:=#[some (.ref 35),none,some (hS "BadThing" 214),some (hS "BadThing" 222),some (.builtin "ValueError.__new__"),some (.bool true)] })::(nat_lit 47,hU #[.ref 31])::(nat_lit 54,hU #[])::(nat_lit 55,{ cls:=.type "dict",data:=.dict #[hE P "__module__" 237 (hS "steadyhand.errors" 194),hE P "__firstlineno__" 241 (.int 9 240),hE P "__static_attributes__" 242 (.ref 54),hE P "__doc__" 243 (.none)] 2 })::(nat_lit 56,{ cls:=.type "type",data:=.cls { name:="TooMany",bases:=[.ref 31],mro:=[.ref 56,.ref 31,.type "ValueError",.type "Exception",.type "BaseException",.type "object"],ns:=55,qualname:="TooMany" },slots:=#[some (.ref 47),none,some (hS "TooMany" 230),some (hS "TooMany" 238),some (.builtin "ValueError.__new__"),some (.bool true)] })::(nat_lit 59,hU #[.ref 31])::(nat_lit 66,hU #[])::(nat_lit 67,{ cls:=.type "dict",data:=.dict #[hE P "__module__" 253 (hS "steadyhand.errors" 194),hE P "__firstlineno__" 257 (.int 11 256),hE P "__static_attributes__" 258 (.ref 66),hE P "__doc__" 259 (.none)] 2 })::(nat_lit 68,{ cls:=.type "type",data:=.cls { name:="NotClosed",bases:=[.ref 31],mro:=[.ref 68,.ref 31,.type "ValueError",.type "Exception",.type "BaseException",.type "object"],ns:=67,qualname:="NotClosed" },slots:=#[some (.ref 59),none,some (hS "NotClosed" 246),some (hS "NotClosed" 254),some (.builtin "ValueError.__new__"),some (.bool true)] })::(nat_lit 71,hU #[.ref 31])::(nat_lit 78,hU #[])::(nat_lit 79,{ cls:=.type "dict",data:=.dict #[hE P "__module__" 269 (hS "steadyhand.errors" 194),hE P "__firstlineno__" 273 (.int 13 272),hE P "__static_attributes__" 274 (.ref 78),hE P "__doc__" 275 (.none)] 2 })::(nat_lit 80,{ cls:=.type "type",data:=.cls { name:="BadTurn",bases:=[.ref 31],mro:=[.ref 80,.ref 31,.type "ValueError",.type "Exception",.type "BaseException",.type "object"],ns:=79,qualname:="BadTurn" },slots:=#[some (.ref 71),none,some (hS "BadTurn" 262),some (hS "BadTurn" 270),some (.builtin "ValueError.__new__"),some (.bool true)] })::(nat_lit 83,hU #[])::(nat_lit 85,hU #[hS "thing" 283])::(nat_lit 86,hU #[])::(nat_lit 88,hD "is_whole" 280 "is_whole" 281 282 16 1 3 83 84 .none (.ref 85) (.ref 86) (.ref 87) 284 16 285)::(nat_lit 89,hF "is_whole" "is_whole" (hT 8) .none .none "steadyhand.fractions" 278 88)::(nat_lit 90,hU #[])::(nat_lit 93,hD "is_numbers" 289 "is_numbers" 290 291 19 2 3 90 91 .none .none .none (.ref 92) 292 19 293)::(nat_lit 94,hF "is_numbers" "is_numbers" (hT 10) .none .none "steadyhand.tables" 287 93)::(nat_lit 95,hU #[])::(nat_lit 98,hD "is_table" 295 "is_table" 296 297 21 3 3 95 96 .none .none .none (.ref 97) 298 21 299)::(nat_lit 99,hF "is_table" "is_table" (hT 11) .none .none "steadyhand.tables" 287 98)::(nat_lit 100,hU #[.int 5 301])::(nat_lit 101,hU #[])::(nat_lit 104,hD "copied" 302 "copied" 303 304 23 2 3 101 102 .none .none .none (.ref 103) 305 23 306)::(nat_lit 105,hF "copied" "copied" (hT 12) (.ref 100) .none "steadyhand.tables" 287 104)::(nat_lit 106,hU #[.int 1 308])::(nat_lit 107,hU #[])::(nat_lit 110,hD "unit" 309 "unit" 310 311 31 3 3 107 108 .none .none .none (.ref 109) 312 31 313)::(nat_lit 111,hF "unit" "unit" (hT 13) (.ref 106) .none "steadyhand.tables" 287 110)::(nat_lit 112,hU #[])::(nat_lit 115,hD "scaled" 315 "scaled" 316 317 33 2 3 112 113 .none .none .none (.ref 114) 318 33 319)::(nat_lit 116,hF "scaled" "scaled" (hT 14) .none .none "steadyhand.tables" 287 115)::(nat_lit 117,hU #[])::(nat_lit 120,hD "mixed" 321 "mixed" 322 323 35 4 3 117 118 .none .none .none (.ref 119) 324 35 325)::(nat_lit 121,hF "mixed" "mixed" (hT 15) .none .none "steadyhand.tables" 287 120)::(nat_lit 122,hU #[])::(nat_lit 125,hD "paired" 327 "paired" 328 329 37 2 3 122 123 .none .none .none (.ref 124) 330 37 331)::(nat_lit 126,hF "paired" "paired" (hT 16) .none .none "steadyhand.tables" 287 125)::(nat_lit 127,hU #[])::(nat_lit 130,hD "added_up" 333 "added_up" 334 335 39 3 3 127 128 .none .none .none (.ref 129) 336 39 337)::(nat_lit 131,hF "added_up" "added_up" (hT 17) .none .none "steadyhand.tables" 287 130)::(nat_lit 132,hU #[])::(nat_lit 135,hD "is_row" 341 "is_row" 342 343 42 2 3 132 133 .none .none .none (.ref 134) 344 42 345)::(nat_lit 136,hF "is_row" "is_row" (hT 19) .none .none "steadyhand.rows" 339 135)::(nat_lit 137,hU #[])::(nat_lit 140,hD "is_room" 347 "is_room" 348 349 44 2 3 137 138 .none .none .none (.ref 139) 350 44 351)::(nat_lit 141,hF "is_room" "is_room" (hT 20) .none .none "steadyhand.rows" 339 140)::(nat_lit 142,hU #[])::(nat_lit 144,hU #[hS "place" 356,hS "many" 357,hS "number" 358,hS "bound" 359])::(nat_lit 145,hU #[])::(nat_lit 147,hD "single" 353 "single" 354 355 46 4 3 142 143 .none (.ref 144) (.ref 145) (.ref 146) 360 46 361)::(nat_lit 148,hF "single" "single" (hT 21) .none .none "steadyhand.rows" 339 147)::(nat_lit 149,hU #[])::(nat_lit 152,hD "other_side" 363 "other_side" 364 365 48 1 3 149 150 .none .none .none (.ref 151) 366 48 367)::(nat_lit 153,hF "other_side" "other_side" (hT 22) .none .none "steadyhand.rows" 339 152)::(nat_lit 161,hU #[])::(nat_lit 163,hU #[hS "self" 392,hS "rows" 393,hS "nexts" 394,hS "steer" 395,hS "push" 396,hS "add" 397,hS "divisor" 398])::(nat_lit 164,hU #[])::(nat_lit 166,hD "__init__" 389 "Mode.__init__" 390 391 56 7 3 161 162 .none (.ref 163) (.ref 164) (.ref 165) 399 56 400)::(nat_lit 167,hF "__init__" "Mode.__init__" (hI 27 0) .none .none "steadyhand.things" 369 166)::(nat_lit 168,hU #[hS "add" 402,hS "divisor" 403,hS "nexts" 404,hS "push" 405,hS "rows" 406,hS "steer" 407])::(nat_lit 169,{ cls:=.type "dict",data:=.dict #[hE P "__module__" 384 (hS "steadyhand.things" 369),hE P "__firstlineno__" 388 (.int 54 387),hE P "__init__" 401 (.ref 167),hE P "__static_attributes__" 408 (.ref 168),hE P "__dict__" 410 (.ref 171),hE P "__weakref__" 412 (.ref 172),hE P "__doc__" 413 (.none)] 4 })::(nat_lit 170,{ cls:=.type "type",data:=.cls { name:="Mode",bases:=[.type "object"],mro:=[.ref 170,.type "object"],ns:=169,qualname:="Mode" },slots:=#[none,none,some (hS "Mode" 377),some (hS "Mode" 385),some (.builtin "object.__new__"),some (.bool true)] })::(nat_lit 171,{ cls:=.type "getset_descriptor",data:=.fields #[hS "__dict__" 409,.ref 170,.builtin "function.__dict__",.builtin "function.__dict__#set"] })::(nat_lit 172,{ cls:=.type "getset_descriptor",data:=.fields #[hS "__weakref__" 411,.ref 170,.builtin "ExceptionGroup.__weakref__",.none] })::(nat_lit 182,hU #[])::(nat_lit 184,hU #[hS "self" 431,hS "many" 432,hS "pushes" 433,hS "modes" 434])::(nat_lit 185,hU #[])::(nat_lit 187,hD "__init__" 428 "Thing.__init__" 429 430 65 4 3 182 183 .none (.ref 184) (.ref 185) (.ref 186) 435 65 436)::(nat_lit 188,hF "__init__" "Thing.__init__" (hI 28 0) .none .none "steadyhand.things" 369 187)::(nat_lit 189,hU #[])::(nat_lit 191,hU #[hS "self" 441])::(nat_lit 192,hU #[])::(nat_lit 194,hD "pushes" 438 "Thing.pushes" 439 440 74 1 3 189 190 .none (.ref 191) (.ref 192) (.ref 193) 442 74 443)::(nat_lit 195,hF "pushes" "Thing.pushes" (hI 28 1) .none .none "steadyhand.things" 369 194)::(nat_lit 196,hU #[])::(nat_lit 198,hU #[hS "self" 448])::(nat_lit 199,hU #[])::(nat_lit 201,hD "modes" 445 "Thing.modes" 446 447 77 1 3 196 197 .none (.ref 198) (.ref 199) (.ref 200) 449 77 450)::(nat_lit 202,hF "modes" "Thing.modes" (hI 28 2) .none .none "steadyhand.things" 369 201)::(nat_lit 203,hU #[])::(nat_lit 206,hD "is_closed" 452 "Thing.is_closed" 453 454 80 1 3 203 204 .none .none .none (.ref 205) 455 80 456)::(nat_lit 207,hF "is_closed" "Thing.is_closed" (hI 28 3) .none .none "steadyhand.things" 369 206)::(nat_lit 208,hU #[])::(nat_lit 210,hU #[hS "self" 461])::(nat_lit 211,hU #[])::(nat_lit 213,hD "is_plain" 458 "Thing.is_plain" 459 460 83 1 3 208 209 .none (.ref 210) (.ref 211) (.ref 212) 462 83 463)::(nat_lit 214,hF "is_plain" "Thing.is_plain" (hI 28 4) .none .none "steadyhand.things" 369 213)::(nat_lit 215,hU #[hS "kept_modes" 465,hS "kept_pushes" 466,hS "many" 467])::(nat_lit 216,{ cls:=.type "dict",data:=.dict #[hE P "__module__" 423 (hS "steadyhand.things" 369),hE P "__firstlineno__" 427 (.int 63 426),hE P "__init__" 437 (.ref 188),hE P "pushes" 444 (.ref 195),hE P "modes" 451 (.ref 202),hE P "is_closed" 457 (.ref 207),hE P "is_plain" 464 (.ref 214),hE P "__static_attributes__" 468 (.ref 215),hE P "__dict__" 470 (.ref 218),hE P "__weakref__" 472 (.ref 219),hE P "__doc__" 473 (.none)] 4 })::(nat_lit 217,{ cls:=.type "type",data:=.cls { name:="Thing",bases:=[.type "object"],mro:=[.ref 217,.type "object"],ns:=216,qualname:="Thing" },slots:=#[none,none,some (hS "Thing" 416),some (hS "Thing" 424),some (.builtin "object.__new__"),some (.bool true)] })::(nat_lit 218,{ cls:=.type "getset_descriptor",data:=.fields #[hS "__dict__" 469,.ref 217,.builtin "function.__dict__",.builtin "function.__dict__#set"] })::(nat_lit 219,{ cls:=.type "getset_descriptor",data:=.fields #[hS "__weakref__" 471,.ref 217,.builtin "ExceptionGroup.__weakref__",.none] })::(nat_lit 222,hU #[])::(nat_lit 225,hD "is_sound" 476 "is_sound" 477 478 85 3 3 222 223 .none .none .none (.ref 224) 479 85 480)::(nat_lit 226,hF "is_sound" "is_sound" (hT 29) .none .none "steadyhand.things" 369 225)::(nat_lit 227,hU #[])::(nat_lit 229,hU #[hS "value" 485])::(nat_lit 230,hU #[])::(nat_lit 232,hD "is_push" 482 "is_push" 483 484 93 1 3 227 228 .none (.ref 229) (.ref 230) (.ref 231) 486 93 487)::(nat_lit 233,hF "is_push" "is_push" (hT 30) .none .none "steadyhand.things" 369 232)::(nat_lit 234,hU #[])::(nat_lit 236,hU #[hS "value" 492,hS "many" 493,hS "wide" 494])::(nat_lit 237,hU #[])::(nat_lit 239,hD "is_mode" 489 "is_mode" 490 491 97 3 3 234 235 .none (.ref 236) (.ref 237) (.ref 238) 495 97 496)::(nat_lit 240,hF "is_mode" "is_mode" (hT 31) .none .none "steadyhand.things" 369 239)::(nat_lit 241,hU #[])::(nat_lit 244,hD "is_unsteered" 498 "is_unsteered" 499 500 105 1 3 241 242 .none .none .none (.ref 243) 501 105 502)::(nat_lit 245,hF "is_unsteered" "is_unsteered" (hT 32) .none .none "steadyhand.things" 369 244)::(nat_lit 246,hU #[])::(nat_lit 248,hU #[hS "thing" 507])::(nat_lit 249,hU #[])::(nat_lit 251,hD "ask_closed" 504 "ask_closed" 505 506 107 1 3 246 247 .none (.ref 248) (.ref 249) (.ref 250) 508 107 509)::(nat_lit 252,hF "ask_closed" "ask_closed" (hT 33) .none .none "steadyhand.things" 369 251)::(nat_lit 253,hU #[])::(nat_lit 255,hU #[hS "back" 516,hS "row" 517])::(nat_lit 256,hU #[])::(nat_lit 258,hD "turned_row" 513 "turned_row" 514 515 111 2 3 253 254 .none (.ref 255) (.ref 256) (.ref 257) 518 111 519)::(nat_lit 259,hF "turned_row" "turned_row" (hT 35) .none .none "steadyhand.turning" 511 258)::(nat_lit 260,hU #[])::(nat_lit 263,hD "turned" 521 "turned" 522 523 113 3 3 260 261 .none .none .none (.ref 262) 524 113 525)::(nat_lit 264,hF "turned" "turned" (hT 36) .none .none "steadyhand.turning" 511 263)::(nat_lit 265,hU #[])::(nat_lit 268,hD "is_turn" 527 "is_turn" 528 529 118 3 3 265 266 .none .none .none (.ref 267) 530 118 531)::(nat_lit 269,hF "is_turn" "is_turn" (hT 37) .none .none "steadyhand.turning" 511 268)::(nat_lit 270,hU #[])::(nat_lit 273,hD "product" 533 "product" 534 535 122 3 3 270 271 .none .none .none (.ref 272) 536 122 537)::(nat_lit 274,hF "product" "product" (hT 38) .none .none "steadyhand.turning" 511 273)::(nat_lit 275,hU #[])::(nat_lit 278,hD "turned_mode" 539 "turned_mode" 540 541 124 4 3 275 276 .none .none .none (.ref 277) 542 124 543)::(nat_lit 279,hF "turned_mode" "turned_mode" (hT 39) .none .none "steadyhand.turning" 511 278)::(nat_lit 287,hU #[])::(nat_lit 288,{ cls:=.type "dict",data:=.dict #[hE P "__module__" 554 (hS "steadyhand.claims" 545),hE P "__firstlineno__" 558 (.int 128 557),hE P "__static_attributes__" 559 (.ref 287),hE P "__dict__" 561 (.ref 290),hE P "__weakref__" 563 (.ref 291),hE P "__doc__" 564 (.none)] 4 })::(nat_lit 289,{ cls:=.type "type",data:=.cls { name:="Claim",bases:=[.type "object"],mro:=[.ref 289,.type "object"],ns:=288,qualname:="Claim",subclasses:=[.ref 311,.ref 330] },slots:=#[none,none,some (hS "Claim" 547),some (hS "Claim" 555),some (.builtin "object.__new__"),some (.bool true)] })::(nat_lit 290,{ cls:=.type "getset_descriptor",data:=.fields #[hS "__dict__" 560,.ref 289,.builtin "function.__dict__",.builtin "function.__dict__#set"] })::(nat_lit 291,{ cls:=.type "getset_descriptor",data:=.fields #[hS "__weakref__" 562,.ref 289,.builtin "ExceptionGroup.__weakref__",.none] })::(nat_lit 294,hU #[.ref 289])::(nat_lit 301,hU #[.int 0 579])::(nat_lit 302,hU #[])::(nat_lit 304,hU #[hS "self" 583,hS "start" 584,hS "rows" 585,hS "turn" 586])::(nat_lit 305,hU #[])::(nat_lit 307,hD "__init__" 580 "Settles.__init__" 581 582 132 4 3 302 303 .none (.ref 304) (.ref 305) (.ref 306) 587 132 588)::(nat_lit 308,hF "__init__" "Settles.__init__" (hI 42 0) (.ref 301) .none "steadyhand.claims" 545 307)::(nat_lit 309,hU #[hS "rows" 590,hS "start" 591,hS "turn" 592])::(nat_lit 310,{ cls:=.type "dict",data:=.dict #[hE P "__module__" 574 (hS "steadyhand.claims" 545),hE P "__firstlineno__" 578 (.int 130 577),hE P "__init__" 589 (.ref 308),hE P "__static_attributes__" 593 (.ref 309),hE P "__doc__" 594 (.none)] 2 })::(nat_lit 311,{ cls:=.type "type",data:=.cls { name:="Settles",bases:=[.ref 289],mro:=[.ref 311,.ref 289,.type "object"],ns:=310,qualname:="Settles" },slots:=#[some (.ref 294),none,some (hS "Settles" 567),some (hS "Settles" 575),some (.builtin "object.__new__"),some (.bool true)] })::(nat_lit 314,hU #[.ref 289])::(nat_lit 321,hU #[])::(nat_lit 323,hU #[hS "self" 612,hS "start" 613,hS "goal" 614,hS "turns" 615])::(nat_lit 324,hU #[])::(nat_lit 326,hD "__init__" 609 "Comes.__init__" 610 611 138 4 3 321 322 .none (.ref 323) (.ref 324) (.ref 325) 616 138 617)::(nat_lit 327,hF "__init__" "Comes.__init__" (hI 43 0) .none .none "steadyhand.claims" 545 326)::(nat_lit 328,hU #[hS "goal" 619,hS "start" 620,hS "turns" 621])::(nat_lit 329,{ cls:=.type "dict",data:=.dict #[hE P "__module__" 604 (hS "steadyhand.claims" 545),hE P "__firstlineno__" 608 (.int 136 607),hE P "__init__" 618 (.ref 327),hE P "__static_attributes__" 622 (.ref 328),hE P "__doc__" 623 (.none)] 2 })::(nat_lit 330,{ cls:=.type "type",data:=.cls { name:="Comes",bases:=[.ref 289],mro:=[.ref 330,.ref 289,.type "object"],ns:=329,qualname:="Comes" },slots:=#[some (.ref 314),none,some (hS "Comes" 597),some (hS "Comes" 605),some (.builtin "object.__new__"),some (.bool true)] })::(nat_lit 333,hU #[])::(nat_lit 336,hD "standing" 628 "standing" 629 630 143 2 3 333 334 .none .none .none (.ref 335) 631 143 632)::(nat_lit 337,hF "standing" "standing" (hT 45) .none .none "steadyhand.reach" 626 336)::(nat_lit 338,hU #[])::(nat_lit 340,hU #[hS "thing" 637,hS "mode" 638,hS "row" 639,hS "numbers" 640,hS "ahead" 641])::(nat_lit 341,hU #[])::(nat_lit 343,hD "reach" 634 "reach" 635 636 152 3 3 338 339 .none (.ref 340) (.ref 341) (.ref 342) 642 152 643)::(nat_lit 344,hF "reach" "reach" (hT 46) .none .none "steadyhand.reach" 626 343)::(nat_lit 345,hU #[])::(nat_lit 347,hU #[hS "rows" 650,hS "numbers" 651,hS "many" 652])::(nat_lit 348,hU #[])::(nat_lit 350,hD "added" 647 "added" 648 649 157 3 3 345 346 .none (.ref 347) (.ref 348) (.ref 349) 653 157 654)::(nat_lit 351,hF "added" "added" (hT 48) .none .none "steadyhand.shares" 645 350)::(nat_lit 352,hU #[])::(nat_lit 354,hU #[hS "value" 659])::(nat_lit 355,hU #[])::(nat_lit 357,hD "is_from_0_on" 656 "is_from_0_on" 657 658 159 1 3 352 353 .none (.ref 354) (.ref 355) (.ref 356) 660 159 661)::(nat_lit 358,hF "is_from_0_on" "is_from_0_on" (hT 49) .none .none "steadyhand.shares" 645 357)::(nat_lit 359,hU #[])::(nat_lit 362,hD "are_shares" 663 "are_shares" 664 665 161 2 3 359 360 .none .none .none (.ref 361) 666 161 667)::(nat_lit 363,hF "are_shares" "are_shares" (hT 50) .none .none "steadyhand.shares" 645 362)::(nat_lit 364,hU #[])::(nat_lit 367,hD "shows" 669 "shows" 670 671 167 3 3 364 365 .none .none .none (.ref 366) 672 167 673)::(nat_lit 368,hF "shows" "shows" (hT 51) .none .none "steadyhand.shares" 645 367)::(nat_lit 376,hU #[])::(nat_lit 377,{ cls:=.type "dict",data:=.dict #[hE P "__module__" 684 (hS "steadyhand.papers" 675),hE P "__firstlineno__" 688 (.int 176 687),hE P "__static_attributes__" 689 (.ref 376),hE P "__dict__" 691 (.ref 379),hE P "__weakref__" 693 (.ref 380),hE P "__doc__" 694 (.none)] 4 })::(nat_lit 378,{ cls:=.type "type",data:=.cls { name:="Paper",bases:=[.type "object"],mro:=[.ref 378,.type "object"],ns:=377,qualname:="Paper",subclasses:=[.ref 399,.ref 418] },slots:=#[none,none,some (hS "Paper" 677),some (hS "Paper" 685),some (.builtin "object.__new__"),some (.bool true)] })::(nat_lit 379,{ cls:=.type "getset_descriptor",data:=.fields #[hS "__dict__" 690,.ref 378,.builtin "function.__dict__",.builtin "function.__dict__#set"] })::(nat_lit 380,{ cls:=.type "getset_descriptor",data:=.fields #[hS "__weakref__" 692,.ref 378,.builtin "ExceptionGroup.__weakref__",.none] })::(nat_lit 383,hU #[.ref 378])::(nat_lit 390,hU #[])::(nat_lit 392,hU #[hS "self" 712,hS "rooms" 713,hS "back" 714,hS "starts" 715,hS "steps" 716,hS "stays" 717])::(nat_lit 393,hU #[])::(nat_lit 395,hD "__init__" 709 "Rooms.__init__" 710 711 180 6 3 390 391 .none (.ref 392) (.ref 393) (.ref 394) 718 180 719)::(nat_lit 396,hF "__init__" "Rooms.__init__" (hI 54 0) .none .none "steadyhand.papers" 675 395)::(nat_lit 397,hU #[hS "back" 721,hS "rooms" 722,hS "starts" 723,hS "stays" 724,hS "steps" 725])::(nat_lit 398,{ cls:=.type "dict",data:=.dict #[hE P "__module__" 704 (hS "steadyhand.papers" 675),hE P "__firstlineno__" 708 (.int 178 707),hE P "__init__" 720 (.ref 396),hE P "__static_attributes__" 726 (.ref 397),hE P "__doc__" 727 (.none)] 2 })::(nat_lit 399,{ cls:=.type "type",data:=.cls { name:="Rooms",bases:=[.ref 378],mro:=[.ref 399,.ref 378,.type "object"],ns:=398,qualname:="Rooms" },slots:=#[some (.ref 383),none,some (hS "Rooms" 697),some (hS "Rooms" 705),some (.builtin "object.__new__"),some (.bool true)] })::(nat_lit 402,hU #[.ref 378])::(nat_lit 409,hU #[])::(nat_lit 411,hU #[hS "self" 745,hS "room" 746,hS "starts" 747,hS "steps" 748,hS "measure" 749,hS "step" 750,hS "top" 751,hS "falls" 752,hS "floors" 753,hS "tops" 754])::(nat_lit 412,hU #[])::(nat_lit 414,hD "__init__" 742 "Falls.__init__" 743 744 188 10 3 409 410 .none (.ref 411) (.ref 412) (.ref 413) 755 188 756)::(nat_lit 415,hF "__init__" "Falls.__init__" (hI 55 0) .none .none "steadyhand.papers" 675 414)::(nat_lit 416,hU #[hS "falls" 758,hS "floors" 759,hS "measure" 760,hS "room" 761,hS "starts" 762,hS "step" 763,hS "steps" 764,hS "top" 765,hS "tops" 766])::(nat_lit 417,{ cls:=.type "dict",data:=.dict #[hE P "__module__" 737 (hS "steadyhand.papers" 675),hE P "__firstlineno__" 741 (.int 186 740),hE P "__init__" 757 (.ref 415),hE P "__static_attributes__" 767 (.ref 416),hE P "__doc__" 768 (.none)] 2 })::(nat_lit 418,{ cls:=.type "type",data:=.cls { name:="Falls",bases:=[.ref 378],mro:=[.ref 418,.ref 378,.type "object"],ns:=417,qualname:="Falls" },slots:=#[some (.ref 402),none,some (hS "Falls" 730),some (hS "Falls" 738),some (.builtin "object.__new__"),some (.bool true)] })::(nat_lit 421,hU #[])::(nat_lit 423,hU #[hS "thing" 774,hS "claim" 775,hS "paper" 776])::(nat_lit 424,hU #[])::(nat_lit 426,hD "lets_by" 771 "lets_by" 772 773 198 3 3 421 422 .none (.ref 423) (.ref 424) (.ref 425) 777 198 778)::(nat_lit 427,hF "lets_by" "lets_by" (hT 56) .none .none "steadyhand.papers" 675 426)::(nat_lit 428,hU #[])::(nat_lit 430,hU #[hS "value" 783,hS "count" 784])::(nat_lit 431,hU #[])::(nat_lit 433,hD "is_list_of" 780 "is_list_of" 781 782 205 2 3 428 429 .none (.ref 430) (.ref 431) (.ref 432) 785 205 786)::(nat_lit 434,hF "is_list_of" "is_list_of" (hT 57) .none .none "steadyhand.papers" 675 433)::(nat_lit 435,hU #[])::(nat_lit 438,hD "each_shown" 788 "each_shown" 789 790 207 3 3 435 436 .none .none .none (.ref 437) 791 207 792)::(nat_lit 439,hF "each_shown" "each_shown" (hT 58) .none .none "steadyhand.papers" 675 438)::(nat_lit 440,hU #[])::(nat_lit 442,hU #[hS "claim" 797,hS "many" 798])::(nat_lit 443,hU #[])::(nat_lit 445,hD "settles_over" 794 "settles_over" 795 796 211 2 3 440 441 .none (.ref 442) (.ref 443) (.ref 444) 799 211 800)::(nat_lit 446,hF "settles_over" "settles_over" (hT 59) .none .none "steadyhand.papers" 675 445)::(nat_lit 447,hU #[])::(nat_lit 449,hU #[hS "claim" 805,hS "many" 806])::(nat_lit 450,hU #[])::(nat_lit 452,hD "comes_over" 802 "comes_over" 803 804 213 2 3 447 448 .none (.ref 449) (.ref 450) (.ref 451) 807 213 808)::(nat_lit 453,hF "comes_over" "comes_over" (hT 60) .none .none "steadyhand.papers" 675 452)::(nat_lit 454,hU #[])::(nat_lit 456,hU #[hS "thing" 813,hS "claim" 814,hS "paper" 815])::(nat_lit 457,hU #[])::(nat_lit 459,hD "lets_rooms_by" 810 "lets_rooms_by" 811 812 215 3 3 454 455 .none (.ref 456) (.ref 457) (.ref 458) 816 215 817)::(nat_lit 460,hF "lets_rooms_by" "lets_rooms_by" (hT 61) .none .none "steadyhand.papers" 675 459)::(nat_lit 461,hU #[])::(nat_lit 464,hD "are_rooms" 819 "are_rooms" 820 821 223 2 3 461 462 .none .none .none (.ref 463) 822 223 823)::(nat_lit 465,hF "are_rooms" "are_rooms" (hT 62) .none .none "steadyhand.papers" 675 464)::(nat_lit 466,hU #[])::(nat_lit 469,hD "rooms_follow" 825 "rooms_follow" 826 827 225 2 3 466 467 .none .none .none (.ref 468) 828 225 829)::(nat_lit 470,hF "rooms_follow" "rooms_follow" (hT 63) .none .none "steadyhand.papers" 675 469)::(nat_lit 471,hU #[])::(nat_lit 474,hD "leads" 831 "leads" 832 833 230 4 3 471 472 .none .none .none (.ref 473) 834 230 835)::(nat_lit 475,hF "leads" "leads" (hT 64) .none .none "steadyhand.papers" 675 474)::(nat_lit 476,hU #[])::(nat_lit 479,hD "mode_leads" 837 "mode_leads" 838 839 235 5 3 476 477 .none .none .none (.ref 478) 840 235 841)::(nat_lit 480,hF "mode_leads" "mode_leads" (hT 65) .none .none "steadyhand.papers" 675 479)::(nat_lit 481,hU #[])::(nat_lit 484,hD "rooms_stay" 843 "rooms_stay" 844 845 237 2 3 481 482 .none .none .none (.ref 483) 846 237 847)::(nat_lit 485,hF "rooms_stay" "rooms_stay" (hT 66) .none .none "steadyhand.papers" 675 484)::(nat_lit 486,hU #[])::(nat_lit 488,hU #[hS "thing" 852,hS "claim" 853,hS "paper" 854])::(nat_lit 489,hU #[])::(nat_lit 491,hD "lets_fall_by" 849 "lets_fall_by" 850 851 242 3 3 486 487 .none (.ref 488) (.ref 489) (.ref 490) 855 242 856)::(nat_lit 492,hF "lets_fall_by" "lets_fall_by" (hT 67) .none .none "steadyhand.papers" 675 491)::(nat_lit 493,hU #[])::(nat_lit 495,hU #[hS "measure" 861,hS "top" 862])::(nat_lit 496,hU #[])::(nat_lit 498,hD "height_at_most" 858 "height_at_most" 859 860 256 2 3 493 494 .none (.ref 495) (.ref 496) (.ref 497) 863 256 864)::(nat_lit 499,hF "height_at_most" "height_at_most" (hT 68) .none .none "steadyhand.papers" 675 498)::(nat_lit 500,hU #[])::(nat_lit 503,hD "height_from_0_on" 866 "height_from_0_on" 867 868 258 1 3 500 501 .none .none .none (.ref 502) 869 258 870)::(nat_lit 504,hF "height_from_0_on" "height_from_0_on" (hT 69) .none .none "steadyhand.papers" 675 503)::(nat_lit 505,hU #[])::(nat_lit 507,hU #[hS "thing" 875,hS "mode" 876,hS "measure" 877,hS "step" 878,hS "ahead" 879,hS "less" 880])::(nat_lit 508,hU #[])::(nat_lit 510,hD "fall_row" 872 "fall_row" 873 874 260 4 3 505 506 .none (.ref 507) (.ref 508) (.ref 509) 881 260 882)::(nat_lit 511,hF "fall_row" "fall_row" (hT 70) .none .none "steadyhand.papers" 675 510)::(nat_lit 512,hU #[])::(nat_lit 515,hD "floors_hold" 884 "floors_hold" 885 886 264 2 3 512 513 .none .none .none (.ref 514) 887 264 888)::(nat_lit 516,hF "floors_hold" "floors_hold" (hT 71) .none .none "steadyhand.papers" 675 515)::(nat_lit 517,hU #[])::(nat_lit 520,hD "falls_hold" 890 "falls_hold" 891 892 269 3 3 517 518 .none .none .none (.ref 519) 893 269 894)::(nat_lit 521,hF "falls_hold" "falls_hold" (hT 72) .none .none "steadyhand.papers" 675 520)::(nat_lit 522,hU #[])::(nat_lit 525,hD "mode_falls" 896 "mode_falls" 897 898 274 5 3 522 523 .none .none .none (.ref 524) 899 274 900)::(nat_lit 526,hF "mode_falls" "mode_falls" (hT 73) .none .none "steadyhand.papers" 675 525)::(nat_lit 527,hU #[])::(nat_lit 529,hU #[hS "_law_script" 907,hS "_law_k" 908])::(nat_lit 530,hU #[])::(nat_lit 532,hD "_law_cell_at" 904 "_law_cell_at" 905 906 281 2 3 527 528 .none (.ref 529) (.ref 530) (.ref 531) 909 281 910)::(nat_lit 533,hF "_law_cell_at" "_law_cell_at" (hT 75) .none .none "law_steadyhand_k86_whole_papers_of_rooms_tur" 902 532)::(nat_lit 534,hU #[])::(nat_lit 536,hU #[hS "_law_cell" 915,hS "_law_many" 916,hS "_law_found" 917,hS "_law_rest" 918,hS "_law_k" 919,hS "_law_number_here" 920])::(nat_lit 537,hU #[])::(nat_lit 539,hD "_law_stream" 912 "_law_stream" 913 914 285 2 3 534 535 .none (.ref 536) (.ref 537) (.ref 538) 921 285 922)::(nat_lit 540,hF "_law_stream" "_law_stream" (hT 76) .none .none "law_steadyhand_k86_whole_papers_of_rooms_tur" 902 539)::(nat_lit 541,hU #[])::(nat_lit 543,hU #[hS "_law_x" 927,hS "_law_far" 928])::(nat_lit 544,hU #[])::(nat_lit 546,hD "_law_number" 924 "_law_number" 925 926 298 2 3 541 542 .none (.ref 543) (.ref 544) (.ref 545) 929 298 930)::(nat_lit 547,hF "_law_number" "_law_number" (hT 77) .none .none "law_steadyhand_k86_whole_papers_of_rooms_tur" 902 546)::(nat_lit 548,hU #[])::(nat_lit 551,hD "_law_mode" 932 "_law_mode" 933 934 300 5 3 548 549 .none .none .none (.ref 550) 935 300 936)::(nat_lit 552,hF "_law_mode" "_law_mode" (hT 78) .none .none "law_steadyhand_k86_whole_papers_of_rooms_tur" 902 551)::(nat_lit 553,hU #[])::(nat_lit 555,hU #[hS "_law_script" 941,hS "_law_first" 942,hS "_law_second" 943,hS "_law_unit" 944,hS "_law_many" 945,hS "_law_pushes" 946,hS "_law_k" 947,hS "_law_x" 948,hS "_law_modes" 949,hS "_law_cell" 950])::(nat_lit 556,hU #[])::(nat_lit 558,hD "_law_thing" 938 "_law_thing" 939 940 314 1 3 553 554 .none (.ref 555) (.ref 556) (.ref 557) 951 314 952)::(nat_lit 559,hF "_law_thing" "_law_thing" (hT 79) .none .none "law_steadyhand_k86_whole_papers_of_rooms_tur" 902 558)::(nat_lit 560,hU #[])::(nat_lit 563,hD "_law_made" 954 "_law_made" 955 956 328 1 3 560 561 .none .none .none (.ref 562) 957 328 958)::(nat_lit 564,hF "_law_made" "_law_made" (hT 80) .none .none "law_steadyhand_k86_whole_papers_of_rooms_tur" 902 563)::(nat_lit 565,hU #[])::(nat_lit 567,hU #[hS "_law_cell" 963,hS "_law_many" 964,hS "_law_unit" 965,hS "_law_xs" 966,hS "_law_box_here" 967,hS "_law_i" 968,hS "_law_low" 969])::(nat_lit 568,hU #[])::(nat_lit 570,hD "_law_box" 960 "_law_box" 961 962 335 3 3 565 566 .none (.ref 567) (.ref 568) (.ref 569) 970 335 971)::(nat_lit 571,hF "_law_box" "_law_box" (hT 81) .none .none "law_steadyhand_k86_whole_papers_of_rooms_tur" 902 570)::(nat_lit 572,hU #[])::(nat_lit 575,hD "_law_rows" 973 "_law_rows" 974 975 342 1 3 572 573 .none .none .none (.ref 574) 976 342 977)::(nat_lit 576,hF "_law_rows" "_law_rows" (hT 82) .none .none "law_steadyhand_k86_whole_papers_of_rooms_tur" 902 575)::(nat_lit 577,hU #[])::(nat_lit 579,hU #[hS "_law_numbers" 982,hS "_law_box_here" 983,hS "_law_found" 984,hS "_law_number_here" 985,hS "_law_bounds" 986])::(nat_lit 580,hU #[])::(nat_lit 582,hD "_law_top" 979 "_law_top" 980 981 349 2 3 577 578 .none (.ref 579) (.ref 580) (.ref 581) 987 349 988)::(nat_lit 583,hF "_law_top" "_law_top" (hT 83) .none .none "law_steadyhand_k86_whole_papers_of_rooms_tur" 902 582)::(nat_lit 584,hU #[])::(nat_lit 587,hD "_law_beyond" 990 "_law_beyond" 991 992 354 2 3 584 585 .none .none .none (.ref 586) 993 354 994)::(nat_lit 588,hF "_law_beyond" "_law_beyond" (hT 84) .none .none "law_steadyhand_k86_whole_papers_of_rooms_tur" 902 587)::(nat_lit 589,hU #[])::(nat_lit 592,hD "_law_image" 996 "_law_image" 997 998 359 2 3 589 590 .none .none .none (.ref 591) 999 359 1000)::(nat_lit 593,hF "_law_image" "_law_image" (hT 85) .none .none "law_steadyhand_k86_whole_papers_of_rooms_tur" 902 592)::(nat_lit 594,hU #[])::(nat_lit 597,hD "_law_hull" 1002 "_law_hull" 1003 1004 380 2 3 594 595 .none .none .none (.ref 596) 1005 380 1006)::(nat_lit 598,hF "_law_hull" "_law_hull" (hT 86) .none .none "law_steadyhand_k86_whole_papers_of_rooms_tur" 902 597)::(nat_lit 599,hU #[])::(nat_lit 601,hU #[hS "_law_spec" 1011,hS "_law_box_here" 1012,hS "_law_turn" 1013])::(nat_lit 602,hU #[])::(nat_lit 604,hD "_law_kept" 1008 "_law_kept" 1009 1010 382 2 3 599 600 .none (.ref 601) (.ref 602) (.ref 603) 1014 382 1015)::(nat_lit 605,hF "_law_kept" "_law_kept" (hT 87) .none .none "law_steadyhand_k86_whole_papers_of_rooms_tur" 902 604)::(nat_lit 606,hU #[])::(nat_lit 608,hU #[hS "_law_numbers" 1020,hS "_law_found" 1021,hS "_law_number_here" 1022])::(nat_lit 609,hU #[])::(nat_lit 611,hD "_law_both" 1017 "_law_both" 1018 1019 386 1 3 606 607 .none (.ref 608) (.ref 609) (.ref 610) 1023 386 1024)::(nat_lit 612,hF "_law_both" "_law_both" (hT 88) .none .none "law_steadyhand_k86_whole_papers_of_rooms_tur" 902 611)::(nat_lit 613,hU #[])::(nat_lit 616,hD "_law_step_shares" 1026 "_law_step_shares" 1027 1028 391 4 3 613 614 .none .none .none (.ref 615) 1029 391 1030)::(nat_lit 617,hF "_law_step_shares" "_law_step_shares" (hT 89) .none .none "law_steadyhand_k86_whole_papers_of_rooms_tur" 902 616)::(nat_lit 618,hU #[])::(nat_lit 621,hD "_law_box_steps" 1032 "_law_box_steps" 1033 1034 398 3 3 618 619 .none .none .none (.ref 620) 1035 398 1036)::(nat_lit 622,hF "_law_box_steps" "_law_box_steps" (hT 90) .none .none "law_steadyhand_k86_whole_papers_of_rooms_tur" 902 621)::(nat_lit 623,hU #[])::(nat_lit 625,hU #[hS "_law_box_here" 1041,hS "_law_some" 1042,hS "_law_row" 1043])::(nat_lit 626,hU #[])::(nat_lit 628,hD "_law_box_starts" 1038 "_law_box_starts" 1039 1040 403 1 3 623 624 .none (.ref 625) (.ref 626) (.ref 627) 1044 403 1045)::(nat_lit 629,hF "_law_box_starts" "_law_box_starts" (hT 91) .none .none "law_steadyhand_k86_whole_papers_of_rooms_tur" 902 628)::(nat_lit 630,hU #[])::(nat_lit 632,hU #[hS "_law_spec" 1050,hS "_law_cell" 1051,hS "_law_xs" 1052,hS "_law_inner" 1053,hS "_law_boxes_here" 1054,hS "_law_k" 1055])::(nat_lit 633,hU #[])::(nat_lit 635,hD "_law_boxes" 1047 "_law_boxes" 1048 1049 408 2 3 630 631 .none (.ref 632) (.ref 633) (.ref 634) 1056 408 1057)::(nat_lit 636,hF "_law_boxes" "_law_boxes" (hT 92) .none .none "law_steadyhand_k86_whole_papers_of_rooms_tur" 902 635)::(nat_lit 637,hU #[])::(nat_lit 640,hD "_law_claim_rows" 1059 "_law_claim_rows" 1060 1061 415 3 3 637 638 .none .none .none (.ref 639) 1062 415 1063)::(nat_lit 641,hF "_law_claim_rows" "_law_claim_rows" (hT 93) .none .none "law_steadyhand_k86_whole_papers_of_rooms_tur" 902 640)::(nat_lit 642,hU #[])::(nat_lit 645,hD "_law_parts" 1065 "_law_parts" 1066 1067 424 2 3 642 643 .none .none .none (.ref 644) 1068 424 1069)::(nat_lit 646,hF "_law_parts" "_law_parts" (hT 94) .none .none "law_steadyhand_k86_whole_papers_of_rooms_tur" 902 645)::(nat_lit 647,hU #[])::(nat_lit 649,hU #[hS "_law_shares" 1074,hS "_law_cell" 1075,hS "_law_often" 1076,hS "_law_numbers" 1077,hS "_law_way" 1078,hS "_law_at" 1079,hS "_law_other_here" 1080])::(nat_lit 650,hU #[])::(nat_lit 652,hD "_law_other" 1071 "_law_other" 1072 1073 436 2 3 647 648 .none (.ref 649) (.ref 650) (.ref 651) 1081 436 1082)::(nat_lit 653,hF "_law_other" "_law_other" (hT 95) .none .none "law_steadyhand_k86_whole_papers_of_rooms_tur" 902 652)::(nat_lit 654,hU #[])::(nat_lit 656,hU #[hS "_law_some" 1087,hS "_law_cell" 1088,hS "_law_at" 1089])::(nat_lit 657,hU #[])::(nat_lit 659,hD "_law_changed" 1084 "_law_changed" 1085 1086 444 2 3 654 655 .none (.ref 656) (.ref 657) (.ref 658) 1090 444 1091)::(nat_lit 660,hF "_law_changed" "_law_changed" (hT 96) .none .none "law_steadyhand_k86_whole_papers_of_rooms_tur" 902 659)::(nat_lit 661,hU #[])::(nat_lit 664,hD "_law_turning" 1093 "_law_turning" 1094 1095 458 2 3 661 662 .none .none .none (.ref 663) 1096 458 1097)::(nat_lit 665,hF "_law_turning" "_law_turning" (hT 97) .none .none "law_steadyhand_k86_whole_papers_of_rooms_tur" 902 664)::(nat_lit 666,hU #[])::(nat_lit 669,hD "_law_turned_row" 1099 "_law_turned_row" 1100 1101 475 2 3 666 667 .none .none .none (.ref 668) 1102 475 1103)::(nat_lit 670,hF "_law_turned_row" "_law_turned_row" (hT 98) .none .none "law_steadyhand_k86_whole_papers_of_rooms_tur" 902 669)::(nat_lit 671,hU #[])::(nat_lit 674,hD "_law_turned_room" 1105 "_law_turned_room" 1106 1107 478 2 3 671 672 .none .none .none (.ref 673) 1108 478 1109)::(nat_lit 675,hF "_law_turned_room" "_law_turned_room" (hT 99) .none .none "law_steadyhand_k86_whole_papers_of_rooms_tur" 902 674)::(nat_lit 676,hU #[])::(nat_lit 678,hU #[hS "_law_parts_here" 1114,hS "_law_cell" 1115,hS "_law_rooms" 1116,hS "_law_back" 1117,hS "_law_starts" 1118,hS "_law_steps" 1119,hS "_law_stays" 1120,hS "_law_way" 1121])::(nat_lit 679,hU #[])::(nat_lit 681,hD "_law_spoilt" 1111 "_law_spoilt" 1112 1113 480 2 3 676 677 .none (.ref 678) (.ref 679) (.ref 680) 1122 480 1123)::(nat_lit 682,hF "_law_spoilt" "_law_spoilt" (hT 100) .none .none "law_steadyhand_k86_whole_papers_of_rooms_tur" 902 681)::(nat_lit 683,hU #[])::(nat_lit 685,hU #[hS "_law_thing_here" 1128,hS "_law_found" 1129,hS "_law_mode_here" 1130])::(nat_lit 686,hU #[])::(nat_lit 688,hD "_law_told" 1125 "_law_told" 1126 1127 491 1 3 683 684 .none (.ref 685) (.ref 686) (.ref 687) 1131 491 1132)::(nat_lit 689,hF "_law_told" "_law_told" (hT 101) .none .none "law_steadyhand_k86_whole_papers_of_rooms_tur" 902 688)::(nat_lit 690,hU #[])::(nat_lit 693,hD "law" 1134 "law" 1135 1136 496 1 3 690 691 .none .none .none (.ref 692) 1137 496 1138)::(nat_lit 694,hF "law" "law" (hT 102) .none .none "law_steadyhand_k86_whole_papers_of_rooms_tur" 902 693) :: []
noncomputable def ks:List Addr:=[2,3,15,17,18,20,21,22,29,30,31,32,35,42,43,44,47,54,55,56,59,66,67,68,71,78,79,80,83,85,86,88,89,90,93,94,95,98,99,100,101,104,105,106,107,110,111,112,115,116,117,120,121,122,125,126,127,130,131,132,135,136,137,140,141,142,144,145,147,148,149,152,153,161,163,164,166,167,168,169,170,171,172,182,184,185,187,188,189,191,192,194,195,196,198,199,201,202,203,206,207,208,210,211,213,214,215,216,217,218,219,222,225,226,227,229,230,232,233,234,236,237,239,240,241,244,245,246,248,249,251,252,253,255,256,258,259,260,263,264,265,268,269,270,273,274,275,278,279,287,288,289,290,291,294,301,302,304,305,307,308,309,310,311,314,321,323,324,326,327,328,329,330,333,336,337,338,340,341,343,344,345,347,348,350,351,352,354,355,357,358,359,362,363,364,367,368,376,377,378,379,380,383,390,392,393,395,396,397,398,399,402,409,411,412,414,415,416,417,418,421,423,424,426,427,428,430,431,433,434,435,438,439,440,442,443,445,446,447,449,450,452,453,454,456,457,459,460,461,464,465,466,469,470,471,474,475,476,479,480,481,484,485,486,488,489,491,492,493,495,496,498,499,500,503,504,505,507,508,510,511,512,515,516,517,520,521,522,525,526,527,529,530,532,533,534,536,537,539,540,541,543,544,546,547,548,551,552,553,555,556,558,559,560,563,564,565,567,568,570,571,572,575,576,577,579,580,582,583,584,587,588,589,592,593,594,597,598,599,601,602,604,605,606,608,609,611,612,613,616,617,618,621,622,623,625,626,628,629,630,632,633,635,636,637,640,641,642,645,646,647,649,650,652,653,654,656,657,659,660,661,664,665,666,669,670,671,674,675,676,678,679,681,682,683,685,686,688,689,690,693,694]
theorem ke:∀ P:Params,ks=(KK P).map (·.1):=λ_=>by
 kernel_rfl
noncomputable def vw:Program:={ PySem.Challenge.pw_steadyhand_k86_whole_papers_of_rooms_tur with main:={ PySem.Challenge.pw_steadyhand_k86_whole_papers_of_rooms_tur.main with body:=[hT 0,hT 2,hT 3,hT 4,hT 5,hT 6,hT 8,hT 10,hT 11,hT 14,hT 15,hT 16,hT 17,hT 19,hT 20,hT 21,hT 22,hT 24,hT 25,hT 26,hT 27,hT 28,hT 29,hT 30,hT 31,hT 32,hT 33,hT 35,hT 36,hT 37,hT 38,hT 39,hT 41,hT 42,hT 43,hT 45,hT 46,hT 48,hT 49,hT 50,hT 51,hT 53,hT 54,hT 55,hT 56,hT 57,hT 58,hT 59,hT 60,hT 61,hT 62,hT 63,hT 64,hT 65,hT 66,hT 67,hT 68,hT 69,hT 70,hT 71,hT 72,hT 73,hT 75,hT 76,hT 77,hT 78,hT 79,hT 80,hT 81,hT 82,hT 83,hT 84,hT 85,hT 86,hT 87,hT 88,hT 89,hT 90,hT 91,hT 92,hT 93,hT 94,hT 95,hT 96,hT 97,hT 98,hT 99,hT 100,hT 101,hT 102] } }
noncomputable def lo:List Str:=[Str.ofString "copied",Str.ofString "unit",Str.ofString "Settles"]
abbrev rr:RowW:=(OpenLaw.row PySem.Challenge.rw_steadyhand_k86_whole_papers_of_rooms_tur).toRowW
noncomputable abbrev xt:Shared->Bool:=λs=>xlAt vw [] s && recOk rr.records s
noncomputable def bt:Params->BT:=λP=>(.node (boot_o_0 P) (.node (boot_o_1 P) (.node (boot_o_3 P) (.node (boot_o_7 P) .nil .nil) .nil) (.node (boot_o_5 P) (.node (boot_o_9 P) .nil .nil) .nil)) (.node (boot_o_2 P) (.node (boot_o_4 P) (.node (boot_o_8 P) .nil .nil) .nil) (.node (boot_o_6 P) (.node (boot_o_10 P) .nil .nil) .nil)))
noncomputable def lhs (T:Params->BT) (h:Params->Heap) (d:Drawn) (k:Nat) (w:World) (os:OsState):=(TT.runT treeTable PySem.Challenge.pw_steadyhand_k86_whole_papers_of_rooms_tur w 11 (some (.ref 6)) 10714 ⟨T w.params,11,(h w.params).life,Array.mk [],d,k,os⟩ (topStub PySem.Challenge.pw_steadyhand_k86_whole_papers_of_rooms_tur)).map (λs=>((staticsOk (importedModules PySem.Challenge.pw_steadyhand_k86_whole_papers_of_rooms_tur.main.body) (h w.params) s.abs.heap && namesBound PySem.Challenge.pw_steadyhand_k86_whole_papers_of_rooms_tur s.abs.heap && gensDone s.abs && laidKept (h w.params) s.abs.heap),ks.map s.abs.heap.get?))
noncomputable def lhs2 (T:Params->BT) (h:Params->Heap) (d:Drawn) (k:Nat) (w:World) (os:OsState):=(TT.runT treeTable PySem.Challenge.pw_steadyhand_k86_whole_papers_of_rooms_tur w 11 (some (.ref 6)) 10714 ⟨T w.params,11,(h w.params).life,Array.mk [],d,k,os⟩ (topStub PySem.Challenge.pw_steadyhand_k86_whole_papers_of_rooms_tur)).map (λs=>(openSeen vw lo (importedModules PySem.Challenge.pw_steadyhand_k86_whole_papers_of_rooms_tur.main.body) xt true s.abs).1)
noncomputable def lhs3 (T:Params->BT) (h:Params->Heap) (d:Drawn) (k:Nat) (w:World) (os:OsState):=(TT.runT treeTable PySem.Challenge.pw_steadyhand_k86_whole_papers_of_rooms_tur w 11 (some (.ref 6)) 10714 ⟨T w.params,11,(h w.params).life,Array.mk [],d,k,os⟩ (topStub PySem.Challenge.pw_steadyhand_k86_whole_papers_of_rooms_tur)).map (λs=>(openSeen vw lo (importedModules PySem.Challenge.pw_steadyhand_k86_whole_papers_of_rooms_tur.main.body) xt true s.abs).2)
noncomputable def rhs (F:Params->Frag) (w:World) (_:OsState):=some (true,(F w.params).map λp=>some p.2)
noncomputable def rhs2 (_:Params->Frag) (w:World) (_:OsState):=some (openGood vw lo).1
noncomputable def rhs3 (_:Params->Frag) (w:World) (_:OsState):=some (openGood vw lo).2
lay_quick lhs rhs
lay_quick lhs2 rhs2
lay_quick lhs3 rhs3
theorem same (w:World) (os:OsState):PySem.W.Fast.tw15113401021581413283 bt boot_heap boot_drawn boot_toks w os=PySem.W.Fast.tw15730555676570913384 KK w os:=by
 kernel_rfl
theorem gz (w:World) (os:OsState):PySem.W.Fast.tw14962320697859522603 bt boot_heap boot_drawn boot_toks w os=PySem.W.Fast.tw16366249687046691662 KK w os:=by
 kernel_rfl
theorem kA (w:World) (os:OsState):PySem.W.Fast.tw7425230351305267602 bt boot_heap boot_drawn boot_toks w os=PySem.W.Fast.tw4206539805474199076 KK w os:=by
 kernel_rfl
theorem two {α β γ ε δ:Type} {o:Option α} {f:α->β} {g:α->γ × ε} {e:α->δ} {b:β} {c:γ × ε} {d:δ} (h1:o.map (λs=>(f s,e s))=some (b,d)) (h2:o.map (λs=>(g s).1)=some c.1) (h3:o.map (λs=>(g s).2)=some c.2):o.map (λs=>(f s,g s,e s))=some (b,c,d):=by
 cases o with
 | none=>cases h1
 | some a=>
  injection h1 with h1
  injection h2 with h2
  injection h3 with h3
  injection h1 with h1 h4
  have h2:(g a).1=c.1:=h2
  have h3:(g a).2=c.2:=h3
  have h4:e a=d:=h4
  show some (f a,((g a).1,(g a).2),e a)=_
  rw [h1,h2,h3,h4]
theorem left:LeftO rr.prog vw lo xt (kHook KK ks ke).obs (kHook KK ks ke).val 10714:=
 TT.left_is (boot_open (by kernel_rfl) (by decide) (λ_=>by kernel_rfl)) (λ_=>by kernel_rfl) (λ_=>by kernel_rfl) (λ_=>by kernel_rfl) (λ_=>by kernel_rfl)
  λw os=>two ((congrArg (λf=>f bt boot_heap boot_drawn boot_toks w os) PySem.W.Fast.te15113401021581413283).trans ((same w os).trans (congrFun (congrFun (congrFun PySem.W.Fast.te15730555676570913384 KK) w) os).symm)) ((congrArg (λf=>f bt boot_heap boot_drawn boot_toks w os) PySem.W.Fast.te14962320697859522603).trans ((gz w os).trans (congrFun (congrFun (congrFun PySem.W.Fast.te16366249687046691662 KK) w) os).symm)) ((congrArg (λf=>f bt boot_heap boot_drawn boot_toks w os) PySem.W.Fast.te7425230351305267602).trans ((kA w os).trans (congrFun (congrFun (congrFun PySem.W.Fast.te4206539805474199076 KK) w) os).symm))
end H86
namespace L2
open PySem PySem.Spec PyProof.Rows
abbrev wC:=Sum Int Str
def Qu:wC->Value->Bool
 | .inl k,v=>Value.isInt k v
 | .inr x,v=>Value.isStrOf x v
def Wy (w:World):wC->Int
 | .inl k=>hashInt k
 | .inr x=>hashStr w x
theorem uu:∀ {k:wC} {v:Value},Qu k v=true->(∃ i t,k=Sum.inl i/\v=Value.int i t)\/(∃ x t,k=Sum.inr x/\v=Value.str x t)
 | .inl i,v,h=>by
  obtain ⟨t,e⟩:=Value.isInt_shape (k:=i) (v:=v) h
  exact .inl ⟨i,t,rfl,e⟩
 | .inr x,v,h=>by
  obtain ⟨t,e⟩:=Value.isStrOf_shape (x:=x) (v:=v) h
  exact .inr ⟨x,t,rfl,e⟩
theorem zRI (a b:Int):decide ((Sum.inl a:wC)=Sum.inl b)=(a == b):=by
 by_cases e:a=b
 ·subst e; simp
 ·have h:¬ (Sum.inl a:wC)=Sum.inl b:=λq=>e (Sum.inl.inj q)
  rw [decide_eq_false h]
  exact (beq_eq_false_iff_ne.mpr e).symm
theorem zRF (a b:Str):decide ((Sum.inr a:wC)=Sum.inr b)=decide (a=b):=by
 by_cases e:a=b
 ·subst e; simp
 ·have h:¬ (Sum.inr a:wC)=Sum.inr b:=λq=>e (Sum.inr.inj q)
  rw [decide_eq_false h,decide_eq_false e]
theorem zRH (a:Int) (b:Str):decide ((Sum.inl a:wC)=Sum.inr b)=false:=decide_eq_false (λq=>nomatch q)
theorem zRG (a:Str) (b:Int):decide ((Sum.inr a:wC)=Sum.inl b)=false:=decide_eq_false (λq=>nomatch q)
def Qv (prog:Program) (w:World):PySem.KeyKind prog w wC where
 is:=Qu
 hash:=Wy w
 inj:=λv a b ha hb=>by
  rcases uu ha with ⟨i,t,rfl,rfl⟩ | ⟨x,t,rfl,rfl⟩
  ·rcases uu hb with ⟨j,u,rfl,e⟩ | ⟨y,u,rfl,e⟩
   ·injection e with e1 _; rw [e1]
   ·exact nomatch e
  ·rcases uu hb with ⟨j,u,rfl,e⟩ | ⟨y,u,rfl,e⟩
   ·exact nomatch e
   ·injection e with e1 _; rw [e1]
 byValue:=λk v h=>by
  rcases uu h with ⟨i,t,rfl,rfl⟩ | ⟨x,t,rfl,rfl⟩ <;> rfl
 pyHash:=λhv h=>by
  rcases uu hv with ⟨i,t,rfl,rfl⟩ | ⟨x,t,rfl,rfl⟩
  ·exact wpAny_pyHash_int h
  ·exact wpAny_pyHash_str h
 eqBool:=λhu hv h=>by
  rcases uu hu with ⟨i,t,rfl,rfl⟩ | ⟨x,t,rfl,rfl⟩
  ·rcases uu hv with ⟨j,u,rfl,rfl⟩ | ⟨y,u,rfl,rfl⟩
   ·rw [zRI] at h; exact wpAny_eqBool_int h
   ·rw [zRH] at h; exact SeqAt.EqAt.int_str i t y u _ _ _ _ h
  ·rcases uu hv with ⟨j,u,rfl,rfl⟩ | ⟨y,u,rfl,rfl⟩
   ·rw [zRG] at h; exact SeqAt.EqAt.str_int x t j u _ _ _ _ h
   ·rw [zRF] at h; exact wpAny_eqBool_str h
 «strs»:=λk x t v h=>by
  rcases uu h with ⟨i,u,rfl,e⟩ | ⟨y,u,rfl,e⟩
  ·exact nomatch e
  ·injection e with e1 _
   subst e1
   cases v <;> rfl
end L2
namespace L2
open PySem PySem.Spec PyProof.Rows
inductive V where
 | non | bl (b:Bool) | int (i:Int) | str (x:Str) | byt (b:Array UInt8) | flt (b:UInt64) | ref (a:Addr) | ty (n:String)
 deriving DecidableEq
def zU:V->Value->Prop
 | .non,u=>u=Value.none
 | .bl b,u=>u=Value.bool b
 | .int i,u=>∃ t,u=Value.int i t
 | .str x,u=>∃ t,u=Value.str x t
 | .byt b,u=>∃ t,u=Value.bytes b t
 | .flt b,u=>∃ t,u=Value.float b t
 | .ref a,u=>u=Value.ref a
 | .ty n,u=>u=Value.type n
abbrev zM:List V->List Value->Prop:=Paired zU
theorem zM.length {xs:List V} {us:List Value} (r:zM xs us):xs.length=us.length:=Paired.length r
theorem zM.get:∀ {xs:List V} {us:List Value} {i:Nat} {x:V},zM xs us->xs[i]? = some x->∃ u,us[i]? = some u/\zU x u
 | _,_,_,_,.nil,e=>by simp at e
 | _,_,0,_,.cons r _,e=>by simp at e; subst e; exact ⟨_,rfl,r⟩
 | _,_,i + 1,x,.cons _ t,e=>by
  obtain ⟨u,h1,h2⟩:=zM.get (i:=i) (x:=x) t (by simpa using e)
  exact ⟨u,by simpa using h1,h2⟩
theorem zM.set {x:V} {u:Value} (r:zU x u):∀ {xs:List V} {us:List Value} (i:Nat),zM xs us->zM (xs.set i x) (us.set i u)
 | _,_,_,.nil=>.nil
 | _,_,0,.cons _ t=>.cons r t
 | _,_,i + 1,.cons q t=>.cons q (zM.set r i t)
theorem zM.append:∀ {xs ys:List V} {us ws:List Value},zM xs us->zM ys ws->zM (xs++ys) (us++ws)
 | _,_,_,_,.nil,s=>s
 | _,_,_,_,.cons r t,s=>.cons r (zM.append t s)
theorem zM.take:∀ {xs:List V} {us:List Value} (n:Nat),zM xs us->zM (xs.take n) (us.take n)
 | _,_,0,_=>.nil
 | _,_,_ + 1,.nil=>.nil
 | _,_,n + 1,.cons r t=>.cons r (zM.take n t)
theorem zM.drop:∀ {xs:List V} {us:List Value} (n:Nat),zM xs us->zM (xs.drop n) (us.drop n)
 | _,_,0,r=>r
 | _,_,_ + 1,.nil=>.nil
 | _,_,n + 1,.cons _ t=>zM.drop n t
def xw:Option V->Option Value->Prop
 | some v,some u=>zU v u
 | none,none=>True
 | _,_=>False
def KV {κ:Type}:List (κ × V)->List (κ × Value)->Prop:=Paired λ(p:κ × V) (q:κ × Value)=>p.1=q.1/\zU p.2 q.2
def kV:wC->V
 | .inl i=>.int i
 | .inr x=>.str x
inductive HO where
 | lst (xs:List V)
 | tup (xs:List V)
 | dK (kvs:List (wC × V)) | dT (kvs:List (List wC × V))
 | set (S:Int->Bool) (n:Nat)
 | ins (C dx:Addr) (fs:List (Str × V))
 | own (x:Addr)
 | xd (fs:List (Str × V))
 | met (f x:Addr)
 | rng (lo hi:Int)
 | frz (o:Obj) (u:HO)
 | tbl (ps:Array Value)
 | ext (φ:Heap->Prop)
abbrev Hp:=Addr->Option HO
def zW (H:Hp) (a:Addr) (o:HO):Hp:=λb=>if b=a then some o else H b
theorem xI {H:Hp} {a:Addr} {o:HO}:zW H a o a=some o:=by unfold zW; rw [if_pos rfl]
theorem zt {H:Hp} {a b:Addr} {o:HO} (h:b≠a):zW H a o b=H b:=by unfold zW; rw [if_neg h]
theorem xn {H:Hp} {a b:Addr} {o:HO} (h:H a=some o) (h':H b=none):a≠b:=by
 intro e; subst e; rw [h] at h'; cases h'
section
variable (P:Program) (w:World)
def wD (H:Hp) (h:Heap) (a:Addr):HO->Prop
 | .lst xs=>xs.length<=sizeLine/\∃ (its:List Value) (n:Nat),zM xs its/\h.get? a=some { cls:=.type "list",data:=.seq its.toArray n }
 | .tup xs=>xs.length<=sizeLine/\∃ its:List Value,zM xs its/\IsTup h a its.toArray
 | .dK kvs=>kvs.length<=sizeLine/\(a == sysModules)=false/\∃ vs,KV kvs vs/\h.DictOf (Qv P w) a vs
 | .dT kvs=>kvs.length<=sizeLine/\(a == sysModules)=false/\∃ xs:List (List wC × Addr × Value),
   Paired (λ(p:List wC × V) (q:List wC × Addr × Value)=>p.1=q.1/\H q.2.1=some (.tup (p.1.map kV))/\zU p.2 q.2.2) kvs xs∧
   ∃ o es ep,h.get? a=some o/\o.ExactDict/\o.data=.dict es ep/\es.toList=xs.map (entryOfKey (tupleKind (Qv P w)))/\(xs.map (·.1)).Nodup
 | .set S n=>h.SetOf (intKind P w) a S n
 | .ins C dx fs=>H dx=some (.own a)/\fs.length<=1000/\dx≠a/\h.get? a=some (PySem.W.instObj C dx)∧
   ∃ mA,h.Ns1 dx mA/\(∀ f,xw (fs.lookup f) (mA f))/\PySem.Within mA (fs.map (·.1))
 | .own _=>∃ o,h.get? a=some o
 | .xd fs=>∃ mA,h.Ns1 a mA/\∀ f,xw (fs.lookup f) (mA f)
 | .rng lo hi=>∃ t u v,h.get? a=some { cls:=.type "range",data:=.fields #[.int lo t,.int hi u,.int 1 v] }
 | .frz o u=>h.get? a=some o/\wD H h a u
 | .tbl ps=>h.get? a=some { cls:=.none,data:=.fields ps }
 | .met f x=>h.get? a=some (PySem.W.methodObj (.ref f) (.ref x))
 | .ext φ=>φ h/\(∃ o,h.get? a=some o)/\∀ h1 h2:Heap,φ h1->(∀ o,h1.get? a=some o->h2.get? a=some o)->φ h2
def xL (H:Hp) (h:Heap):Prop:=∀ a o,H a=some o->wD P w H h a o
end
section
variable {P:Program} {w:World} {H H':Hp} {h h':Heap} {a:Addr} {o:HO}
theorem wD.lt (x:wD P w H h a o):a < h.objs.size:=by
 cases o with
 | lst xs=>obtain ⟨_,_,_,_,e⟩:=x; exact Heap.lt_size e
 | tup xs=>obtain ⟨_,_,_,p⟩:=x; exact p.lt
 | dK kvs=>obtain ⟨_,_,_,_,o,_,_,e,_⟩:=x; exact Heap.lt_size e
 | dT kvs=>obtain ⟨_,_,_,_,o,_,_,e,_⟩:=x; exact Heap.lt_size e
 | set S n=>obtain ⟨o,_,_,_,e,_⟩:=x; exact Heap.lt_size e
 | ins C dx fs=>obtain ⟨_,_,_,e,_⟩:=x; exact Heap.lt_size e
 | own y=>obtain ⟨_,e⟩:=x; exact Heap.lt_size e
 | xd fs=>obtain ⟨_,⟨_,_,_,e,_⟩,_⟩:=x; exact Heap.lt_size e
 | rng lo hi=>obtain ⟨_,_,_,e⟩:=x; exact Heap.lt_size e
 | frz ob u=>obtain ⟨e,_⟩:=x; exact Heap.lt_size e
 | tbl ps=>exact Heap.lt_size (show h.get? a=some _ from x)
 | met f y=>exact Heap.lt_size (show h.get? a=some _ from x)
 | ext φ=>obtain ⟨_,⟨_,e⟩,_⟩:=x; exact Heap.lt_size e
theorem Paired.mapP {α β:Type} {F G:α->β->Prop}:∀ {l₁:List α} {l₂:List β},Paired F l₁ l₂->(∀ a b,F a b->G a b)->Paired G l₁ l₂
 | _,_,.nil,_=>.nil
 | _,_,.cons r t,f=>.cons (f _ _ r) (Paired.mapP t f)
theorem wD.stay (x:wD P w H h a o) (k:∀ b u,(b=a\/H b=some (.own a))->h.get? b=some u->h'.get? b=some u)
  (ho:∀ b,H b=some (.own a)->H' b=some (.own a)) (ht:∀ b xs,H b=some (.tup xs)->H' b=some (.tup xs)):wD P w H' h' a o:=by
 induction o with
 | lst xs=>obtain ⟨z,its,n,r,e⟩:=x; exact ⟨z,its,n,r,k _ _ (.inl rfl) e⟩
 | tup xs=>obtain ⟨z,its,r,ob,e,c⟩:=x; exact ⟨z,its,r,ob,k _ _ (.inl rfl) e,c⟩
 | dK kvs=>obtain ⟨z,y,vs,r,ob,es,ep,e,c⟩:=x; exact ⟨z,y,vs,r,ob,es,ep,k _ _ (.inl rfl) e,c⟩
 | dT kvs=>
  obtain ⟨z,y,xs,r,ob,es,ep,e,c⟩:=x
  exact ⟨z,y,xs,Paired.mapP r λp q z=>⟨z.1,ht _ _ z.2.1,z.2.2⟩,ob,es,ep,k _ _ (.inl rfl) e,c⟩
 | set S n=>obtain ⟨ob,es,ep,t,e,c⟩:=x; exact ⟨ob,es,ep,t,k _ _ (.inl rfl) e,c⟩
 | ins C dx fs=>
  obtain ⟨d,z,ne,e,mA,⟨od,es,ep,e2,c⟩,r⟩:=x
  exact ⟨ho _ d,z,ne,k _ _ (.inl rfl) e,mA,⟨od,es,ep,k _ _ (.inr d) e2,c⟩,r⟩
 | own y=>obtain ⟨ob,e⟩:=x; exact ⟨ob,k _ _ (.inl rfl) e⟩
 | xd fs=>obtain ⟨mA,⟨od,es,ep,e,c⟩,r⟩:=x; exact ⟨mA,⟨od,es,ep,k _ _ (.inl rfl) e,c⟩,r⟩
 | rng lo hi=>obtain ⟨t,u,v,e⟩:=x; exact ⟨t,u,v,k _ _ (.inl rfl) e⟩
 | frz ob u ih=>obtain ⟨e,q⟩:=x; exact ⟨k _ _ (.inl rfl) e,ih q⟩
 | tbl ps=>
  have e:h.get? a=some { cls:=.none,data:=.fields ps }:=x
  show h'.get? a=some { cls:=.none,data:=.fields ps }
  exact k a _ (.inl rfl) e
 | met f y=>
  have e:h.get? a=some (PySem.W.methodObj (.ref f) (.ref y)):=x
  show h'.get? a=some (PySem.W.methodObj (.ref f) (.ref y))
  exact k a _ (.inl rfl) e
 | ext φ=>obtain ⟨p,⟨o,e⟩,st⟩:=x; exact ⟨st _ _ p λo q=>k _ _ (.inl rfl) q,⟨o,k _ _ (.inl rfl) e⟩,st⟩
theorem xL.lt (x:xL P w H h) (e:H a=some o):a < h.objs.size:=(x a o e).lt
theorem xL.fresh (x:xL P w H h) (e:h.objs.size<=a):H a=none:=by
 cases q:H a with
 | none=>rfl
 | some u=>exact absurd (Nat.lt_of_lt_of_le (x.lt q) e) (Nat.lt_irrefl _)
theorem xL.kept (x:xL P w H h) (k:∀ b u,h.get? b=some u->h'.get? b=some u):xL P w H h':=λa o e=>
 (x a o e).stay (λb u _ q=>k b u q) (λ_ q=>q) λ_ _ q=>q
theorem xL.laid (x:xL P w H h) (k:∀ b u,h.get? b=some u->h'.get? b=some u) (hp:h.objs.size<=a) (new:wD P w (zW H a o) h' a o):xL P w (zW H a o) h':=λb u e=>by
 have hn:=x.fresh hp
 by_cases hb:b=a
 ·subst hb; rw [xI] at e; cases e; exact new
 ·rw [zt hb] at e
  exact (x b u e).stay (λc v _ q=>k c v q) (λc q=>by rw [zt (xn q hn)]; exact q) λc xs q=>by rw [zt (xn q hn)]; exact q
end
def Rd (H:Hp) (a:Addr) (u:HO):Prop:=H a=some u\/∃ o,H a=some (.frz o u)
theorem Rd.ok {P:Program} {w:World} {H:Hp} {h:Heap} {a:Addr} {u:HO} (r:Rd H a u) (x:xL P w H h):wD P w H h a u:=by
 rcases r with r | ⟨o,r⟩
 ·exact x a u r
 ·obtain ⟨_,q⟩:=x a _ r
  exact q
def Y6:Option HO->Prop
 | some (.lst _)=>True
 | some (.dK _)=>True
 | some (.dT _)=>True
 | some (.set _ _)=>True
 | some (.ins _ _ _)=>True
 | some (.ext _)=>True
 | _=>False
section
variable {P:Program} {w:World} {H:Hp} {h h':Heap} {x e:Addr} {o':HO}
theorem xL.write (ok:xL P w H h) (mu:Y6 (H x)) (he:e=x\/H e=some (.own x)) (k:∀ b u,b≠e->h.get? b=some u->h'.get? b=some u) (heo:∃ u,h'.get? e=some u)
  (new:wD P w (zW H x o') h' x o'):xL P w (zW H x o') h':=λb u q=>by
 have nown:∀ c y,H c=some (.own y)->c≠x:=λc y r z=>by subst z; rw [r] at mu; exact mu
 have ntup:∀ c xs,H c=some (.tup xs)->c≠x:=λc xs r z=>by subst z; rw [r] at mu; exact mu
 by_cases hb:b=x
 ·subst hb; rw [xI] at q; cases q; exact new
 ·rw [zt hb] at q
  by_cases hbe:b=e
  ·have q':H b=some (.own x):=by
    rcases he with z | z
    ·exact absurd (hbe.trans z) hb
    ·rw [hbe]; exact z
   rw [q] at q'; cases q'
   obtain ⟨v,hv⟩:=heo
   exact ⟨v,by rw [hbe]; exact hv⟩
  ·refine (ok b u q).stay (λc v hc r=>k c v ?_ r) (λc r=>by rw [zt (nown c b r)]; exact r) λc xs r=>by rw [zt (ntup c xs r)]; exact r
   rcases hc with rfl | hc
   ·exact hbe
   ·rintro rfl
    rcases he with z | z
    ·exact nown c b hc z
    ·rw [hc] at z; cases z; exact hb rfl
end
structure Un (fs ex:List Addr) (H H':Hp) (h h':Heap):Prop where
 keep:∀ b o,h.get? b=some o->H b=none->b∉fs->b∉ex->h'.get? b=some o
 slot:∀ b o,h.get? b=some o->H b=none->b∈fs->b∉ex->∃ sl,h'.get? b=some { o with slots:=sl }
 free:∀ b o,h.get? b=some o->H b=none->b∉ex->H' b=none
 there:∀ b o,h.get? b=some o->b∉ex->∃ o',h'.get? b=some o'
 tups:∀ b xs,H b=some (.tup xs)->H' b=some (.tup xs)
 frzs:∀ b o u,H b=some (.frz o u)->H' b=some (.frz o u)
 tbls:∀ b ps,H b=some (.tbl ps)->∃ more,H' b=some (.tbl (ps++more))
section
variable {fs fs' ex ex':List Addr} {H H1 H2:Hp} {h h1 h2 h':Heap} {a x e:Addr} {o:HO}
theorem Un.any (u:Un fs ex H H1 h h1) {b:Addr} {ob:Obj} (q:h.get? b=some ob) (n:H b=none) (hx:b∉ex):∃ sl,h1.get? b=some { ob with slots:=sl }:=by
 by_cases hb:b∈fs
 ·exact u.slot b ob q n hb hx
 ·exact ⟨ob.slots,u.keep b ob q n hb hx⟩
theorem Un.kept (k:∀ b u,h.get? b=some u->h'.get? b=some u):Un fs ex H H h h':=
 ⟨λb ob q _ _ _=>k b ob q,λb ob q _ _ _=>⟨ob.slots,k b ob q⟩,λ_ _ _ n _=>n,λb ob q _=>⟨ob,k b ob q⟩,λ_ _ q=>q,λ_ _ _ q=>q,λ_ ps q=>⟨#[],by rw [q]; simp⟩⟩
theorem Un.refl:Un fs ex H H h h:=Un.kept λ_ _ q=>q
theorem Un.laid (k:∀ b u,h.get? b=some u->h'.get? b=some u) (hp:h.objs.size<=a) (hn:H a=none):Un fs ex H (zW H a o) h h' where
 keep:=λb u q _ _ _=>k b u q
 slot:=λb u q _ _ _=>⟨u.slots,k b u q⟩
 free:=λb u q n _=>by rw [zt (Nat.ne_of_lt (Nat.lt_of_lt_of_le (Heap.lt_size q) hp))]; exact n
 there:=λb u q _=>⟨u,k b u q⟩
 tups:=λb xs q=>by rw [zt (xn q hn)]; exact q
 frzs:=λb u xs q=>by rw [zt (xn q hn)]; exact q
 tbls:=λb ps q=>⟨#[],by rw [zt (xn q hn),q]; simp⟩
theorem Un.write (mu:Y6 (H x)) (he:e=x\/H e=some (.own x)) (k:∀ b u,b≠e->h.get? b=some u->h'.get? b=some u) (heo:∃ u,h'.get? e=some u):Un fs ex H (zW H x o) h h':=by
 have hx:∀ b,H b=none->b≠x:=λb n z=>by subst z; rw [n] at mu; exact mu
 have hb:∀ b,H b=none->b≠e:=λb n z=>by
  subst z
  rcases he with r | r
  ·exact hx b n r
  ·rw [n] at r; cases r
 have hm:∀ b u,H b=some u->¬ Y6 (some u)->b≠x:=λb u q nm z=>by subst z; rw [q] at mu; exact nm mu
 refine ⟨λb u q n _ _=>k b u (hb b n) q,λb u q n _ _=>⟨u.slots,k b u (hb b n) q⟩,λb u q n _=>by rw [zt (hx b n)]; exact n,λb u q _=>?_,
  λb xs q=>by rw [zt (hm b _ q λz=>z)]; exact q,λb u xs q=>by rw [zt (hm b _ q λz=>z)]; exact q,λb ps q=>⟨#[],by rw [zt (hm b _ q λz=>z),q]; simp⟩⟩
 by_cases hbe:b=e
 ·subst hbe; exact heo
 ·exact ⟨u,k b u hbe q⟩
end
def vv (h:Heap) (H:Hp):List Addr:=(List.range h.objs.size).filter λa=>(H a).isSome
def wP (h:Heap) (H:Hp):Heap:=PySem.W.hideAll h (vv h H)
theorem zMX (h:Heap) (H:Hp):(wP h H).objs.size=h.objs.size:=PySem.W.hideAll_size _ _
theorem zOI {h:Heap} {H:Hp} {b:Addr} {o:Obj} (e:h.get? b=some o) (n:H b=none):(wP h H).get? b=some o:=
 PySem.W.hideAll_get _ e λhm=>by
  have q:(H b).isSome=true:=(List.mem_filter.mp hm).2
  rw [n] at q; simp at q
theorem zPm {h:Heap} {H:Hp} {b:Addr} {o:Obj} (e:(wP h H).get? b=some o):h.get? b=some o/\H b=none:=by
 have e':h.get? b=some o:=PySem.W.of_hideAll (vv h H) e
 refine ⟨e',?_⟩
 cases q:H b with
 | none=>rfl
 | some x=>
  have hm:b∈vv h H:=List.mem_filter.mpr ⟨List.mem_range.mpr (Heap.lt_size e'),by simp [q]⟩
  have z:(wP h H).get? b=none:=PySem.W.hideAll_none (vv h H) hm
  rw [z] at e; cases e
def zP8 (g h:Heap) (L:Addr):List (Addr × Obj):=(List.range h.objs.size).filterMap λa=>if a=L\/(g.get? a).isSome=true then none else (h.get? a).map λo=>(a,o)
def ya (g h:Heap) (L d:Addr):List (Addr × Obj):=(zP8 g h L).filter λp=>decide (p.1≠d)
end L2
namespace L2
open PySem PySem.Spec PyProof.Rows
structure Mod (K:PySem.W.Frag) (mg:Str->Option Value) (base:Heap):Prop where
 kin:K.In base
 glob:base.Ns mainGlobals mg
 blt:∃ mb,base.Ns builtinsNs mb/\∀ x:Str,x≠"__name__"->mb x=bootBuiltins x
 nolimit:base.NoLimit
structure Cx where
 prog:Program
 w:World
 K:PySem.W.Frag
 mg:Str->Option Value
 base:Heap
 A:Around
 N:List Str
 s₀:Shared
 H₀:Hp
 env:Env
 outer:List Env
 stack:List Env
 ex:List Addr
 fn:Str->Bool
 calm:Bool
 pn:List (Addr × Obj)
 xe:Value->Shared->Prop
def vG (l:List Env):List Addr:=l.filterMap (·.frame)
abbrev Cx.fs (X:Cx):List Addr:=vG X.outer
def jp (sc:Scope) (x:Str):Prop:=sc.names.lookup x=some .local\/sc.names.lookup x=some .cell\/sc.names.lookup x=some .free
def jP (sc:Scope) (x:Str):Prop:=sc.names.lookup x=some .local\/sc.names.lookup x=some .cell
def Wz (env:Env) (h:Heap) (m:Str->Option Value) (x:Str) (u:Value):Prop:=
 (env.kindOf x=some .local/\m x=some u)\/((env.kindOf x=some .cell\/env.kindOf x=some .free)/\∃ c,env.cells.lookup x=some c/\h.IsCell c (some u))
structure Cx.Ok (X:Cx):Prop where
 mod:Mod X.K X.mg X.base
 kind:X.env.scope.kind=.function
 glob:X.env.globals=mainGlobals
 blt:X.env.builtins=builtinsNs
 above:X.s₀.heap.objs.size<=X.env.locals
 inj:∀ x y c,X.env.cells.lookup x=some c->X.env.cells.lookup y=some c->x=y
 has:∀ x,(X.env.kindOf x=some .cell\/X.env.kindOf x=some .free)->∃ c,X.env.cells.lookup x=some c
 cab:∀ x c,X.fn x=true->X.env.cells.lookup x=some c->X.s₀.heap.objs.size<=c
 hd:X.calm=true->X.A.handled=none
 frames:X.A.frames=some X.stack
 stk:X.stack=X.outer\/(X.stack=X.env :: X.outer/\X.env.frame=some X.env.locals)
 exf:∀ b∈X.ex,b≠X.env.locals/\∀ x c,X.env.cells.lookup x=some c->c≠b
 bs:∀ b o,X.base.get? b=some o->X.s₀.heap.get? b=some o/\X.H₀ b=none
 bsz:X.base.objs.size<=X.s₀.heap.objs.size
 noex:∀ b o,X.base.get? b=some o->b∉X.ex
 exfs:∀ b∈X.ex,b∉X.fs
 funs:X.s₀.heap.FunFrames X.base X.outer
 frf:∀ b∈X.fs,X.H₀ b=none
structure zH (X:Cx) (pins:List (Addr × Obj)) (σ:List (Option V)) (H:Hp) (s:Shared):Prop where
 ok:X.Ok
 os:s.os=X.s₀.os
 bare:AllBare s.gens
 base:Un X.fs X.ex X.H₀ H X.s₀.heap s.heap
 loc:∃ m,s.heap.Ns X.env.locals m/\∀ (i:Nat) (x:Str) (v:V),X.N[i]? = some x->σ[i]? = some (some v)->jp X.env.scope x->∃ u,zU v u/\Wz X.env s.heap m x u
 cell:∀ x c,X.env.cells.lookup x=some c->∃ v,s.heap.IsCell c v
 free:H X.env.locals=none
 freeC:∀ x c,X.env.cells.lookup x=some c->H c=none
 pin:∀ p∈X.pn++pins,s.heap.get? p.1=some p.2/\H p.1=none/\p.1≠X.env.locals/\p.1∉X.fs/\∀ v,p.2.data≠.cell v
 hok:xL X.prog X.w H s.heap
 len:σ.length=X.N.length
section
variable {X:Cx} {pins:List (Addr × Obj)} {σ:List (Option V)} {H H':Hp} {s:Shared} {h':Heap}
theorem Cx.Ok.nofr (ok:X.Ok) {b:Addr} {o:Obj} (e:X.base.get? b=some o):b∉X.fs:=λhb=>by
 have:=(ok.funs.mem hb).1
 rw [e] at this; cases this
theorem zH.bs (I:zH X pins σ H s):∀ b o,X.base.get? b=some o->s.heap.get? b=some o/\H b=none:=λb o e=>
 ⟨I.base.keep b o (I.ok.bs b o e).1 (I.ok.bs b o e).2 (I.ok.nofr e) (I.ok.noex b o e),I.base.free b o (I.ok.bs b o e).1 (I.ok.bs b o e).2 (I.ok.noex b o e)⟩
theorem zH.bk (I:zH X pins σ H s):∀ b o,X.base.get? b=some o->s.heap.get? b=some o:=λb o e=>(I.bs b o e).1
theorem zH.mod (I:zH X pins σ H s):Mod X.K X.mg X.base:=I.ok.mod
theorem zH.kIn (I:zH X pins σ H s):X.K.In s.heap:=I.ok.mod.kin.keeps I.bk
theorem zH.lt (I:zH X pins σ H s):X.env.locals < s.heap.objs.size:=let ⟨_,hn,_⟩:=I.loc; hn.lt
theorem zH.sz (I:zH X pins σ H s):X.s₀.heap.objs.size<=s.heap.objs.size:=Nat.le_trans I.ok.above (Nat.le_of_lt I.lt)
theorem zH.nofs (I:zH X pins σ H s) {a:Addr} (h:s.heap.objs.size<=a):a∉X.fs:=λhb=>by
 obtain ⟨_,o,ho,_⟩:=I.ok.funs.mem hb
 exact absurd (Nat.lt_of_lt_of_le (Heap.lt_size ho) (Nat.le_trans I.sz h)) (Nat.lt_irrefl _)
theorem zH.cne (I:zH X pins σ H s):∀ x c,X.env.cells.lookup x=some c->c≠X.env.locals:=λx c e z=>by
 obtain ⟨v,o,ho,hd⟩:=I.cell x c e
 obtain ⟨m,⟨o',es,ep,ho',hd',_⟩,_⟩:=I.loc
 rw [z,ho'] at ho; cases ho; rw [hd'] at hd; cases hd
theorem zH.funs (I:zH X pins σ H s):s.heap.FunFrames X.base X.outer:=by
 have all:∀ (l:List Env),(∀ b∈vG l,b∈X.fs)->X.s₀.heap.FunFrames X.base l->s.heap.FunFrames X.base l:=by
  intro l
  induction l with
  | nil=>intro _ _; trivial
  | cons env r ih=>
   intro hs hl
   obtain ⟨hk,⟨L,o,hf,hn,ho,hd⟩,hr⟩:=hl
   have hL:L∈X.fs:=hs L (by unfold vG; rw [List.filterMap_cons,hf]; exact List.mem_cons_self)
   obtain ⟨sl,e⟩:=I.base.slot L o ho (I.ok.frf L hL) hL λz=>I.ok.exfs L z hL
   exact ⟨hk,⟨L,_,hf,hn,e,hd⟩,ih (λb hb=>hs b (by unfold vG; rw [List.filterMap_cons,hf]; exact List.mem_cons_of_mem _ hb)) hr⟩
 exact all X.outer (λ_ hb=>hb) I.ok.funs
theorem zH.stack (I:zH X pins σ H s):s.heap.FunFrames X.base X.stack:=by
 rcases I.ok.stk with e | ⟨e,hf⟩
 ·rw [e]; exact I.funs
 ·rw [e]
  obtain ⟨m,hn,_⟩:=I.loc
  refine .cons (by rw [I.ok.kind]; decide) hf hn ?_ I.funs
  exact Heap.get?_none_of_le (Nat.le_trans I.ok.bsz I.ok.above)
theorem zH.stkSub (I:zH X pins σ H s):∀ b∈vG X.stack,b∈X.env.locals :: X.fs:=λb hb=>by
 rcases I.ok.stk with e | ⟨e,hf⟩
 ·rw [e] at hb; exact List.mem_cons_of_mem _ hb
 ·rw [e] at hb
  unfold vG at hb
  rw [List.filterMap_cons,hf] at hb
  exact hb
theorem zH.stkFree (I:zH X pins σ H s):∀ b∈vG X.stack,H b=none:=λb hb=>by
 rcases List.mem_cons.mp (I.stkSub b hb) with e | hb
 ·rw [e]; exact I.free
 ·obtain ⟨_,o,ho,_⟩:=I.ok.funs.mem hb
  exact I.base.free b o ho (I.ok.frf b hb) λz=>I.ok.exfs b z hb
theorem zH.step {g':Array GenState} {t':Nat} {d':Drawn} {ch:List Addr} (I:zH X pins σ H s)
  (hch:∀ b∈ch,(b∈X.ex\/X.s₀.heap.objs.size<=b)/\b≠X.env.locals/\(∀ x c,X.env.cells.lookup x=some c->c≠b)/\∀ p∈X.pn++pins,p.1≠b)
  (keep:∀ b o,b≠X.env.locals->b∉X.fs->b∉ch->s.heap.get? b=some o->H b=none->h'.get? b=some o)
  (slot:∀ b o,b≠X.env.locals->b∈X.fs->b∉ch->s.heap.get? b=some o->H b=none->∃ sl,h'.get? b=some { o with slots:=sl }) (free:∀ b o,b∉ch->s.heap.get? b=some o->H b=none->H' b=none)
  (there:∀ b o,b∉ch->s.heap.get? b=some o->∃ o',h'.get? b=some o')
  (tups:∀ b xs,H b=some (.tup xs)->H' b=some (.tup xs)) (frzs:∀ b o u,H b=some (.frz o u)->H' b=some (.frz o u)) (tbls:∀ b ps,H b=some (.tbl ps)->∃ more,H' b=some (.tbl (ps++more)))
  (ns:∀ m,s.heap.Ns X.env.locals m->h'.Ns X.env.locals m) (hok:xL X.prog X.w H' h') (hg:AllBare g') :
  zH X pins σ H' { s with heap:=h',gens:=g',drawn:=d',toks:=t' }:=by
 have neL:∀ b o,X.s₀.heap.get? b=some o->b≠X.env.locals:=λb o e=>Nat.ne_of_lt (Nat.lt_of_lt_of_le (Heap.lt_size e) I.ok.above)
 have neC:∀ b o,X.s₀.heap.get? b=some o->b∉X.ex->b∉ch:=λb o e hx hb=>by
  rcases (hch b hb).1 with z | z
  ·exact hx z
  ·exact absurd (Nat.lt_of_lt_of_le (Heap.lt_size e) z) (Nat.lt_irrefl _)
 have cellK:∀ x c,X.env.cells.lookup x=some c->∀ v,s.heap.IsCell c v->h'.IsCell c v:=λx c e v ⟨o,ho,hd⟩=>by
  have nch:c∉ch:=λz=>(hch c z).2.2.1 x c e rfl
  by_cases hc:c∈X.fs
  ·obtain ⟨sl,q⟩:=slot c o (I.cne x c e) hc nch ho (I.freeC x c e)
   exact ⟨_,q,hd⟩
  ·exact ⟨o,keep c o (I.cne x c e) hc nch ho (I.freeC x c e),hd⟩
 refine ⟨I.ok,I.os,hg,⟨λb o e n hb hx=>?_,λb o e n hb hx=>?_,λb o e n hx=>?_,λb o e hx=>?_,λb xs e=>tups b xs (I.base.tups b xs e),λb o xs e=>frzs b o xs (I.base.frzs b o xs e),λb ps e=>?_⟩,?_,λx c e=>?_,?_,λx c e=>?_,λp hp=>?_,hok,I.len⟩
 ·exact keep b o (neL b o e) hb (neC b o e hx) (I.base.keep b o e n hb hx) (I.base.free b o e n hx)
 ·obtain ⟨sl,e1⟩:=I.base.slot b o e n hb hx
  obtain ⟨sl',e2⟩:=slot b _ (neL b o e) hb (neC b o e hx) e1 (I.base.free b o e n hx)
  exact ⟨sl',e2⟩
 ·obtain ⟨o',e1⟩:=I.base.there b o e hx
  exact free b o' (neC b o e hx) e1 (I.base.free b o e n hx)
 ·obtain ⟨o',e1⟩:=I.base.there b o e hx
  exact there b o' (neC b o e hx) e1
 ·obtain ⟨m1,e1⟩:=I.base.tbls b ps e
  obtain ⟨m2,e2⟩:=tbls b _ e1
  exact ⟨m1++m2,by rw [e2,Array.append_assoc]⟩
 ·obtain ⟨m,hn,hl⟩:=I.loc
  refine ⟨m,ns m hn,λi x v e1 e2 e3=>?_⟩
  obtain ⟨u,r,l⟩:=hl i x v e1 e2 e3
  refine ⟨u,r,?_⟩
  rcases l with l | ⟨k,c,e,z⟩
  ·exact .inl l
  ·exact .inr ⟨k,c,e,cellK x c e _ z⟩
 ·obtain ⟨v,z⟩:=I.cell x c e
  exact ⟨v,cellK x c e v z⟩
 ·obtain ⟨m,⟨o,_,_,ho,_⟩,_⟩:=I.loc
  exact free _ o (λz=>(hch _ z).2.1 rfl) ho I.free
 ·obtain ⟨v,o,ho,hd⟩:=I.cell x c e
  exact free c o (λz=>(hch c z).2.2.1 x c e rfl) ho (I.freeC x c e)
 ·obtain ⟨e,n,ne,nf,d⟩:=I.pin p hp
  have nch:p.1∉ch:=λz=>(hch p.1 z).2.2.2 p hp rfl
  exact ⟨keep p.1 p.2 ne nf nch e n,free p.1 p.2 nch e n,ne,nf,d⟩
theorem zH.un {t':Nat} (I:zH X pins σ H s) (u:Un X.fs [] H H' s.heap h') (hok:xL X.prog X.w H' h'):zH X pins σ H' { s with heap:=h',toks:=t' }:=by
 obtain ⟨m,⟨o,es,ep,ho,r⟩,_⟩:=id I.loc
 obtain ⟨sl,hL⟩:=u.any ho I.free (by simp)
 exact I.step (g':=s.gens) (d':=s.drawn) (ch:=[]) (λ_ z=>nomatch z) (λb o _ hb _ e n=>u.keep b o e n hb (by simp)) (λb o _ hb _ e n=>u.slot b o e n hb (by simp)) (λb o _ e n=>u.free b o e n (by simp)) (λb o _ e=>u.there b o e (by simp)) u.tups u.frzs u.tbls (λm' hm=>by
  obtain ⟨o',es',ep',ho',r'⟩:=hm
  rw [ho] at ho'; cases ho'
  exact ⟨_,es',ep',hL,r'⟩) hok I.bare
theorem zH.call {g':Array GenState} {t':Nat} {d':Drawn} {ch:List Addr} (I:zH X pins σ H s) (u:Un (vG X.stack) ch H H' s.heap h') (hok:xL X.prog X.w H' h') (hg:AllBare g')
  (hch:∀ b∈ch,(b∈X.ex\/X.s₀.heap.objs.size<=b)/\b≠X.env.locals/\(∀ x c,X.env.cells.lookup x=some c->c≠b)/\∀ p∈X.pn++pins,p.1≠b) :
  zH X pins σ H' { s with heap:=h',gens:=g',drawn:=d',toks:=t' }:=by
 obtain ⟨m,⟨o,es,ep,ho,r⟩,_⟩:=id I.loc
 obtain ⟨sl,hL⟩:=u.any ho I.free λz=>(hch _ z).2.1 rfl
 exact I.step (ch:=ch) hch (λb o hL hb hc e n=>u.keep b o e n (λz=>(List.mem_cons.mp (I.stkSub b z)).elim hL hb) hc) (λb o _ _ hc e n=>u.any e n hc) (λb o hc e n=>u.free b o e n hc) (λb o hc e=>u.there b o e hc) u.tups u.frzs u.tbls (λm' hm=>by
  obtain ⟨o',es',ep',ho',r'⟩:=hm
  rw [ho] at ho'; cases ho'
  exact ⟨_,es',ep',hL,r'⟩) hok hg
theorem zH.turned {t':Nat} {it:Addr} (I:zH X pins σ H s) (k:∀ b o,b≠it->s.heap.get? b=some o->h'.get? b=some o) (hn:H it=none) (hL:it≠X.env.locals)
  (h1:it∈X.ex\/X.s₀.heap.objs.size<=it) (h2:∀ x c,X.env.cells.lookup x=some c->c≠it) (h3:∀ p∈X.pn++pins,p.1≠it):zH X pins σ H { s with heap:=h',toks:=t' }:=by
 have nit:∀ b u,H b=some u->b≠it:=λb u e z=>by rw [z,hn] at e; cases e
 refine I.step (g':=s.gens) (d':=s.drawn) (ch:=[it]) (λb hb=>?_) (λb o _ _ hc e _=>k b o (λz=>hc (by simp [z])) e) (λb o _ _ hc e _=>⟨o.slots,k b o (λz=>hc (by simp [z])) e⟩) (λ_ _ _ _ n=>n)
  (λb o hc e=>⟨o,k b o (λz=>hc (by simp [z])) e⟩) (λ_ _ e=>e) (λ_ _ _ e=>e) (λb ps e=>⟨#[],by rw [e]; simp⟩) (λm hm=>?_) (λb u e=>?_) I.bare
 ·have e:b=it:=by simpa using hb
  subst e
  exact ⟨h1,hL,h2,h3⟩
 ·obtain ⟨o,es,ep,ho,r⟩:=hm
  exact ⟨o,es,ep,k _ o (Ne.symm hL) ho,r⟩
 ·refine (I.hok b u e).stay (λc v hc q=>k c v ?_ q) (λ_ q=>q) λ_ _ q=>q
  rcases hc with z | z
  ·rw [z]; exact nit b u e
  ·exact nit c _ z
theorem zH.tok (I:zH X pins σ H s) (t:Nat):zH X pins σ H { s with toks:=t }:=I.un (h':=s.heap) (t':=t) Un.refl I.hok
theorem zH.kept {t':Nat} (I:zH X pins σ H s) (k:∀ b u,s.heap.get? b=some u->h'.get? b=some u):zH X pins σ H { s with heap:=h',toks:=t' }:=I.un (Un.kept k) (I.hok.kept k)
theorem zH.laid {a:Addr} {o:HO} {t':Nat} (I:zH X pins σ H s) (k:∀ b u,s.heap.get? b=some u->h'.get? b=some u) (hp:s.heap.objs.size<=a) (new:wD X.prog X.w (zW H a o) h' a o) :
  zH X pins σ (zW H a o) { s with heap:=h',toks:=t' }:=I.un (Un.laid k hp (I.hok.fresh hp)) (I.hok.laid k hp new)
theorem zH.write {x e:Addr} {o:HO} {t':Nat} (I:zH X pins σ H s) (mu:Y6 (H x)) (he:e=x\/H e=some (.own x)) (k:∀ b u,b≠e->s.heap.get? b=some u->h'.get? b=some u) (heo:∃ u,h'.get? e=some u)
  (new:wD X.prog X.w (zW H x o) h' x o):zH X pins σ (zW H x o) { s with heap:=h',toks:=t' }:=I.un (Un.write mu he k heo) (I.hok.write mu he k heo new)
theorem zH.pins_of {pins':List (Addr × Obj)} (I:zH X pins σ H s) (h:∀ p∈pins',s.heap.get? p.1=some p.2/\H p.1=none/\p.1≠X.env.locals/\p.1∉X.fs/\∀ v,p.2.data≠.cell v):zH X pins' σ H s:=
 ⟨I.ok,I.os,I.bare,I.base,I.loc,I.cell,I.free,I.freeC,λp hp=>(List.mem_append.mp hp).elim (λz=>I.pin p (List.mem_append_left _ z)) (h p),I.hok,I.len⟩
theorem Qw {N:List Str} (hN:N.Nodup) {i j:Nat} {x:Str} (a:N[i]? = some x) (b:N[j]? = some x):i=j:=by
 obtain ⟨h1,e1⟩:=List.getElem?_eq_some_iff.mp a
 obtain ⟨h2,e2⟩:=List.getElem?_eq_some_iff.mp b
 exact (List.getElem_inj hN).mp (e1.trans e2.symm)
theorem W0 {M:Model} {A:Around} {E:Value->Shared->Prop} {i:Nat} {x:Str} {v:V} {u:Value} {Q:Unit->Shared->Prop} (I:zH X pins σ H s) (hN:X.N.Nodup) (hi:X.N[i]? = some x) (hx:jP X.env.scope x) (r:zU v u)
  (h:∀ s',zH X pins (σ.set i (some v)) H s'->(∃ a,Heap.SameBut a s.heap s'.heap/\(a=X.env.locals\/X.env.cells.lookup x=some a))->Q () s') (hf:X.fn x=true\/X.env.scope.names.lookup x=some .local:=by first | exact .inl rfl | exact .inr rfl | assumption):wpAny M A (storeName X.env x u) Q E s:=by
 obtain ⟨m,hn,hl⟩:=id I.loc
 have hcls:(X.env.scope.kind == .class || (X.env.scope.kind == .module && X.env.locals != X.env.globals))=false:=by rw [I.ok.kind]; rfl
 have hiσ:i < σ.length:=by rw [I.len]; exact (List.getElem?_eq_some_iff.mp hi).1
 have cne:=I.cne
 have tracked:∀ {a:Addr} {h':Heap},(∃ o,s.heap.get? a=some o/\H a=none)->Heap.SameBut a s.heap h'->xL X.prog X.w H h':=λ{a h'} ha hs b ob e=>by
  obtain ⟨_,_,hfree⟩:=ha
  refine (I.hok b ob e).stay (λc w' hc q=>(hs.2 c ?_).trans q) (λ_ q=>q) λ_ _ q=>q
  rintro rfl
  rcases hc with rfl | hc
  ·rw [hfree] at e; cases e
  ·rw [hfree] at hc; cases hc
 rcases hx with hk | hk
 ·refine wpAny_storeName_local hk hn (λh' hn' hs=>?_) hcls
  obtain ⟨oL,_,_,hoL,_⟩:=id hn
  refine h _ ⟨I.ok,I.os,I.bare,⟨λb o e n hb hx=>?_,λb o e n hb hx=>?_,I.base.free,λb o e hx=>?_,I.base.tups,I.base.frzs,I.base.tbls⟩,⟨_,hn',λj y v' e1 e2 e3=>?_⟩,λy c e=>?_,I.free,I.freeC,λp hp=>?_,tracked ⟨oL,hoL,I.free⟩ hs,by simpa using I.len⟩ ⟨_,hs,.inl rfl⟩
  ·exact (hs.2 b (Nat.ne_of_lt (Nat.lt_of_lt_of_le (Heap.lt_size e) I.ok.above))).trans (I.base.keep b o e n hb hx)
  ·obtain ⟨sl,e1⟩:=I.base.slot b o e n hb hx
   exact ⟨sl,(hs.2 b (Nat.ne_of_lt (Nat.lt_of_lt_of_le (Heap.lt_size e) I.ok.above))).trans e1⟩
  ·obtain ⟨o',e1⟩:=I.base.there b o e hx
   exact ⟨o',(hs.2 b (Nat.ne_of_lt (Nat.lt_of_lt_of_le (Heap.lt_size e) I.ok.above))).trans e1⟩
  ·by_cases hj:j=i
   ·subst hj
    rw [hi] at e1; cases e1
    rw [List.getElem?_set_self hiσ] at e2
    cases e2
    exact ⟨u,r,.inl ⟨hk,by simp⟩⟩
   ·rw [List.getElem?_set_ne (Ne.symm hj)] at e2
    obtain ⟨u',r',q⟩:=hl j y v' e1 e2 e3
    refine ⟨u',r',?_⟩
    rcases q with ⟨k,e⟩ | ⟨k,c,e,z⟩
    ·refine .inl ⟨k,?_⟩
     have:y≠x:=λe=>hj (Qw hN e1 (e ▸ hi))
     simp [this,e]
    ·exact .inr ⟨k,c,e,z.sameBut hs (cne y c e)⟩
  ·obtain ⟨w',z⟩:=I.cell y c e
   exact ⟨w',z.sameBut hs (cne y c e)⟩
  ·obtain ⟨e,n,ne,nf,d⟩:=I.pin p hp
   exact ⟨(hs.2 p.1 ne).trans e,n,ne,nf,d⟩
 ·have hfn:X.fn x=true:=by
   rcases hf with z | z
   ·exact z
   ·rw [z] at hk; cases hk
  obtain ⟨c,hc⟩:=I.ok.has x (.inl hk)
  obtain ⟨w',z⟩:=I.cell x c hc
  refine wpAny_storeName_cell I.ok.kind hk hc z (λh' hc' hs=>?_)
  obtain ⟨oc,hoc,hocd⟩:=id z
  refine h { s with heap:=h' } ⟨I.ok,I.os,I.bare,⟨λb o e n hb hx=>?_,λb o e n hb hx=>?_,I.base.free,λb o e hx=>?_,I.base.tups,I.base.frzs,I.base.tbls⟩,⟨m,hn.sameBut hs (Ne.symm (cne x c hc)),λj y v' e1 e2 e3=>?_⟩,λy c' e=>?_,I.free,I.freeC,λp hp=>?_,tracked ⟨oc,hoc,I.freeC x c hc⟩ hs,by simpa using I.len⟩ ⟨c,hs,.inr hc⟩
  ·exact (hs.2 b (Nat.ne_of_lt (Nat.lt_of_lt_of_le (Heap.lt_size e) (I.ok.cab x c hfn hc)))).trans (I.base.keep b o e n hb hx)
  ·obtain ⟨sl,e1⟩:=I.base.slot b o e n hb hx
   exact ⟨sl,(hs.2 b (Nat.ne_of_lt (Nat.lt_of_lt_of_le (Heap.lt_size e) (I.ok.cab x c hfn hc)))).trans e1⟩
  ·obtain ⟨o',e1⟩:=I.base.there b o e hx
   exact ⟨o',(hs.2 b (Nat.ne_of_lt (Nat.lt_of_lt_of_le (Heap.lt_size e) (I.ok.cab x c hfn hc)))).trans e1⟩
  ·by_cases hj:j=i
   ·subst hj
    rw [hi] at e1; cases e1
    rw [List.getElem?_set_self hiσ] at e2
    cases e2
    exact ⟨u,r,.inr ⟨.inl hk,c,hc,hc'⟩⟩
   ·rw [List.getElem?_set_ne (Ne.symm hj)] at e2
    obtain ⟨u',r',q⟩:=hl j y v' e1 e2 e3
    refine ⟨u',r',?_⟩
    rcases q with q | ⟨k,c',e,z'⟩
    ·exact .inl q
    ·refine .inr ⟨k,c',e,z'.sameBut hs ?_⟩
     rintro rfl
     exact hj (Qw hN e1 (I.ok.inj _ _ _ e hc ▸ hi))
  ·by_cases hcc:c'=c
   ·subst hcc; exact ⟨_,hc'⟩
   ·obtain ⟨w2,z2⟩:=I.cell y c' e
    exact ⟨w2,z2.sameBut hs hcc⟩
  ·obtain ⟨e,n,ne,nf,d⟩:=I.pin p hp
   refine ⟨(hs.2 p.1 ?_).trans e,n,ne,nf,d⟩
   intro q
   rw [q,hoc] at e
   have q':oc=p.2:=Option.some.inj e
   exact d w' (by rw [<- q']; exact hocd)
theorem Qx {M:Model} {A:Around} {E:Value->Shared->Prop} {i:Nat} {x:Str} {v:V} {u:Value} {Q:Unit->Shared->Prop} (I:zH X pins σ H s) (hN:X.N.Nodup) (hi:X.N[i]? = some x) (hx:jP X.env.scope x) (r:zU v u)
  (h:∀ s',zH X pins (σ.set i (some v)) H s'->Q () s') (hf:X.fn x=true\/X.env.scope.names.lookup x=some .local:=by first | exact .inl rfl | exact .inr rfl | assumption):wpAny M A (storeName X.env x u) Q E s:=
 W0 I hN hi hx r (λs' I' _=>h s' I') hf
theorem zH.call' {s':Shared} {ch:List Addr} (I:zH X pins σ H s) (ho:s'.os=s.os) (u:Un (vG X.stack) ch H H' s.heap s'.heap) (hok:xL X.prog X.w H' s'.heap) (hg:AllBare s'.gens)
  (hch:∀ b∈ch,(b∈X.ex\/X.s₀.heap.objs.size<=b)/\b≠X.env.locals/\(∀ x c,X.env.cells.lookup x=some c->c≠b)/\∀ p∈X.pn++pins,p.1≠b):zH X pins σ H' s':=by
 obtain ⟨h',g',d',t',o'⟩:=s'
 have e:o'=s.os:=ho
 subst e
 exact I.call (g':=g') (t':=t') (d':=d') u hok hg hch
end
abbrev XK:=Value->Option Addr->Hp->Prop
abbrev St:=List (Option V)
abbrev VK:=V->Hp->Prop
abbrev TE:=St->Hp->VK->Prop
abbrev TT:=St->Hp->(Bool->Hp->Prop)->Prop
abbrev TA:=St->Hp->(List V->Hp->Prop)->Prop
structure xg where
 nx:St->Hp->Prop
 rt:VK
 bk:St->Hp->Prop:=λ_ _=>False
 ct:St->Hp->Prop:=λ_ _=>False
abbrev TS:=xg->St->Hp->Prop
def EP (X:Cx) (pins:List (Addr × Obj)) (σ:St) (Q:VK) (u:Value) (s':Shared):Prop:=∃ v H',zH X pins σ H' s'/\zU v u/\Q v H'
def TP (X:Cx) (pins:List (Addr × Obj)) (σ:St) (Q:Bool->Hp->Prop) (b:Bool) (s':Shared):Prop:=∃ H',zH X pins σ H' s'/\Q b H'
def AP (X:Cx) (pins:List (Addr × Obj)) (σ:St) (Q:List V->Hp->Prop) (us:List Value) (s':Shared):Prop:=∃ vs H',zH X pins σ H' s'/\zM vs us/\Q vs H'
def SP (X:Cx) (pins:List (Addr × Obj)) (D:xg) (f:Flow) (s':Shared):Prop:=
 match f with
 | .next=>∃ σ' H',zH X pins σ' H' s'/\D.nx σ' H'
 | .brk=>∃ σ' H',zH X pins σ' H' s'/\D.bk σ' H'
 | .cont=>∃ σ' H',zH X pins σ' H' s'/\D.ct σ' H'
 | .ret u=>∃ v σ' H',zH X pins σ' H' s'/\zU v u/\D.rt v H'
def PE (X:Cx) (e:Expr) (t:TE):Prop:=
 ∀ (pins:List (Addr × Obj)) (s:Shared) (σ:St) (H:Hp) (Q:VK),zH X pins σ H s->t σ H Q->wpAny (model X.prog X.w) X.A (eval e X.env) (EP X pins σ Q) X.xe s
def PT (X:Cx) (e:Expr) (t:TT):Prop:=
 ∀ (pins:List (Addr × Obj)) (s:Shared) (σ:St) (H:Hp) (Q:Bool->Hp->Prop),zH X pins σ H s->t σ H Q->wpAny (model X.prog X.w) X.A (isTrue e X.env (eval e X.env)) (TP X pins σ Q) X.xe s
def PW (X:Cx) (e:Expr) (t:TT):Prop:=
 ∀ (whole:Sem Value) (pins:List (Addr × Obj)) (s:Shared) (σ:St) (H:Hp) (Q:Bool->Hp->Prop),zH X pins σ H s->t σ H Q->wpAny (model X.prog X.w) X.A (isTrue e X.env whole) (TP X pins σ Q) X.xe s
theorem PW.pt {X:Cx} {e:Expr} {t:TT} (h:PW X e t):PT X e t:=h _
def PA (X:Cx) (es:List Expr) (t:TA):Prop:=
 ∀ (pos:Pos) (pins:List (Addr × Obj)) (s:Shared) (σ:St) (H:Hp) (Q:List V->Hp->Prop),zH X pins σ H s->t σ H Q->wpAny (model X.prog X.w) X.A (spliced (backTo pos (starEach es X.env))) (AP X pins σ Q) X.xe s
def PS (X:Cx) (st:Stmt) (t:TS):Prop:=
 ∀ (pins:List (Addr × Obj)) (s:Shared) (σ:St) (H:Hp) (D:xg),zH X pins σ H s->t D σ H->wpAny (model X.prog X.w) X.A (exec st X.env) (SP X pins D) X.xe s
def xJ (X:Cx) (st:List Stmt) (t:TS):Prop:=
 ∀ (pins:List (Addr × Obj)) (s:Shared) (σ:St) (H:Hp) (D:xg),zH X pins σ H s->t D σ H->wpAny (model X.prog X.w) X.A (execs st X.env) (SP X pins D) X.xe s
theorem zk {α:Type} {t:Sem α} {Q Q':α->Shared->Prop} {M:Model} {A:Around} {E:Value->Shared->Prop} {s:Shared} (h:wpAny M A t Q E s) (hQ:∀ a s,Q a s->Q' a s):wpAny M A t Q' E s:=wpAny_mono h hQ λ_ _ x=>x
end L2
namespace L2
open PySem PySem.Spec PyProof.Rows
section
variable {X:Cx}
def kB (i:Nat):TE:=λσ H Q=>∃ v,σ[i]? = some (some v)/\Q v H
def tC (v:V):TE:=λ_ H Q=>Q v H
theorem W1 {i:Nat} {x:Str} {pos:Pos} (hN:X.N[i]? = some x) (hv:jp X.env.scope x) (hd:(x == ("__debug__" : Str))=false:=by decide) (hcd:(x == ("__classdict__" : Str))=false:=by decide):PE X (.Name x pos) (kB i):=by
 intro pins s σ H Q I h
 obtain ⟨v,e,h⟩:=h
 obtain ⟨m,hn,hl⟩:=I.loc
 obtain ⟨u,r,l⟩:=hl i x v hN e hv
 have fin:EP X pins σ Q u s:=⟨v,H,I,r,h⟩
 rcases l with ⟨hk,hm⟩ | ⟨hk,c,hc,hcell⟩
 ·exact wpAny_Name (wpAny_loadName_local I.ok.kind hk hn hm fin) hd
 ·rcases hk with hk | hk
  ·exact wpAny_Name (wpAny_loadName_cell I.ok.kind hk hc hcell fin) hd
  ·exact wpAny_Name (wpAny_loadName_free I.ok.kind hk hc hcell fin hcd) hd
theorem vx {i j pos}:PE X (.Constant (.int i) j pos) (tC (.int i)):=λ_ _ _ H _ I h=>wpAny_Constant_int ⟨.int i,H,I.tok _,⟨_,rfl⟩,h⟩
theorem kC {b j pos}:PE X (.Constant (.bool b) j pos) (tC (.bl b)):=λ_ _ _ H _ I h=>Constant_bool ⟨.bl b,H,I,rfl,h⟩
theorem zQv {j pos}:PE X (.Constant .none j pos) (tC .non):=λ_ _ _ H _ I h=>Constant_none ⟨.non,H,I,rfl,h⟩
def Gl (X:Cx) (x:Str):Prop:=X.env.kindOf x=some .globalImplicit
theorem W2 {E:Value->Shared->Prop} {pins:List (Addr × Obj)} {s:Shared} {σ:St} {H:Hp} {x:Str} {u:Value} {pos:Pos} {Q:Value->Shared->Prop} (I:zH X pins σ H s) (hg:Gl X x) (hm:X.mg x=some u) (h:Q u s)
  (hd:(x == ("__debug__" : Str))=false:=by decide):wpAny (model X.prog X.w) X.A (eval (.Name x pos) X.env) Q E s:=
 Calls.Name_function_global I.ok.kind hg (Calls.loadGlobal_global (by rw [I.ok.glob]; exact I.mod.glob.keeps I.bk) hm h) hd
theorem jQ {E:Value->Shared->Prop} {pins:List (Addr × Obj)} {s:Shared} {σ:St} {H:Hp} {x:Str} {u:Value} {pos:Pos} {Q:Value->Shared->Prop} (I:zH X pins σ H s) (hg:Gl X x) (hm:X.mg x=none) (hv:bootBuiltins x=some u) (h:Q u s)
  (hn:x≠"__name__":=by decide) (hd:(x == ("__debug__" : Str))=false:=by decide):wpAny (model X.prog X.w) X.A (eval (.Name x pos) X.env) Q E s:=by
 obtain ⟨mb,h1,h2⟩:=I.mod.blt
 exact Calls.Name_function_global I.ok.kind hg (Calls.loadGlobal_builtin (by rw [I.ok.glob]; exact I.mod.glob.keeps I.bk) hm (by rw [I.ok.blt]; exact h1.keeps I.bk) ((h2 x hn).trans hv) h) hd
theorem Qy {x:Str} {v:V} {u:Value} {pos:Pos} (hg:Gl X x) (hm:X.mg x=some u) (r:zU v u) (hd:(x == ("__debug__" : Str))=false:=by decide):PE X (.Name x pos) (tC v):=
 λ_ _ _ H _ I h=>W2 I hg hm ⟨v,H,I,r,h⟩ hd
theorem wj {x:Str} {v:V} {u:Value} {pos:Pos} (hg:Gl X x) (hm:X.mg x=none) (hv:bootBuiltins x=some u) (r:zU v u) (hn:x≠"__name__":=by decide) (hd:(x == ("__debug__" : Str))=false:=by decide):PE X (.Name x pos) (tC v):=
 λ_ _ _ H _ I h=>jQ I hg hm hv ⟨v,H,I,r,h⟩ hn hd
variable {a b:Expr} {ta tb:TE} {pos:Pos}
def tB (t:TE):TT:=λσ H Q=>t σ H λx H1=>∃ c,x=.bl c/\Q c H1
theorem zQh {e:Expr} {t:TE} (h:PE X e t) (he:∀ whole,isTrue e X.env whole=(do let v <- whole; standAt e.pos; holding [v] (truthy v)):=by intro _; rfl):PT X e (tB t):=by
 intro pins s σ H Q I hw
 refine isTrue_plain (zk (h pins s σ H _ I hw) λv s1 ⟨x,H1,I1,r1,q1⟩=>?_) (he _)
 obtain ⟨d,rfl,q⟩:=q1
 cases r1
 exact wpAny_truthy_bool ⟨H1,I1,q⟩
variable {tA tB':TT} {ya:List Expr}
def W3 (t u:TT):TT:=λσ H Q=>t σ H λc H1=>if c=true then u σ H1 Q else Q false H1
def tOr (t u:TT):TT:=λσ H Q=>t σ H λc H1=>if c=true then Q true H1 else u σ H1 Q
def W4 (t:TT):TT:=λσ H Q=>t σ H λc H1=>Q (!c) H1
theorem zPQ (ha:PT X a tA):PW X (.BoolOp .And [a] pos) tA:=by
 intro wh pins s σ H Q I h
 refine isTrue_and (zk (ha pins s σ H Q I h) λc s1 e=>?_)
 cases c with
 | true=>exact isTrue_and_nil e
 | false=>exact e
theorem zQb (ha:PT X a tA):PW X (.BoolOp .Or [a] pos) tA:=by
 intro wh pins s σ H Q I h
 refine isTrue_or (zk (ha pins s σ H Q I h) λc s1 e=>?_)
 cases c with
 | false=>exact isTrue_or_nil e
 | true=>exact e
theorem zQc (ha:PT X a tA) (hb:PW X (.BoolOp .And (b :: ya) pos) tB'):PW X (.BoolOp .And (a :: b :: ya) pos) (W3 tA tB'):=by
 intro wh pins s σ H Q I h
 refine isTrue_and (zk (ha pins s σ H _ I h) λc s1 ⟨H1,I1,q1⟩=>?_)
 cases c with
 | true=>exact hb wh pins s1 σ H1 Q I1 q1
 | false=>exact ⟨H1,I1,q1⟩
theorem kD (ha:PT X a tA) (hb:PW X (.BoolOp .Or (b :: ya) pos) tB'):PW X (.BoolOp .Or (a :: b :: ya) pos) (tOr tA tB'):=by
 intro wh pins s σ H Q I h
 refine isTrue_or (zk (ha pins s σ H _ I h) λc s1 ⟨H1,I1,q1⟩=>?_)
 cases c with
 | true=>exact ⟨H1,I1,q1⟩
 | false=>exact hb wh pins s1 σ H1 Q I1 q1
theorem zQi (ha:PT X a tA):PT X (.UnaryOp .Not a pos) (W4 tA):=by
 intro pins s σ H Q I h
 exact isTrue_not (ha pins s σ H (λc H1=>Q (!c) H1) I h)
def kF (ta tb:TE):TE:=λσ H Q=>ta σ H λx H1=>∃ c,x=.bl c/\if c=true then tb σ H1 Q else Q (.bl false) H1
def kG (ta:TE):TE:=λσ H Q=>ta σ H λx H1=>∃ c,x=.bl c/\Q (.bl (!c)) H1
theorem zQt {op} {t:TE} (h:PE X a t):PE X (.BoolOp op [a] pos) t:=λpins s σ H Q I hw=>BoolOp_one (h pins s σ H Q I hw)
theorem zQx (ha:PE X a ta) (hb:PE X (.BoolOp .And (b :: ya) pos) tb):PE X (.BoolOp .And (a :: b :: ya) pos) (kF ta tb):=by
 intro pins s σ H Q I h
 refine BoolOp_and (zk (ha pins s σ H _ I h) λv s1 ⟨x,H1,I1,r1,q1⟩=>?_)
 obtain ⟨c,rfl,q1⟩:=q1
 cases r1
 refine wpAny_truthy_bool ?_
 cases c with
 | true=>exact hb pins s1 σ H1 Q I1 q1
 | false=>exact ⟨.bl false,H1,I1,rfl,q1⟩
theorem zQu (ha:PE X a ta):PE X (.UnaryOp .Not a pos) (kG ta):=by
 intro pins s σ H Q I h
 refine UnaryOp_ (zk (ha pins s σ H _ I h) λv s1 ⟨x,H1,I1,r1,q1⟩=>?_)
 obtain ⟨c,rfl,q1⟩:=q1
 cases r1
 exact not_of (wpAny_truthy_bool ⟨.bl (!c),H1,I1,rfl,q1⟩)
def tIf (t:TT) (ta tb:TE):TE:=λσ H Q=>t σ H λc H1=>if c=true then ta σ H1 Q else tb σ H1 Q
theorem zNw {c:Expr} (hc:PT X c tA) (ha:PE X a ta) (hb:PE X b tb):PE X (.IfExp c a b pos) (tIf tA ta tb):=by
 intro pins s σ H Q I h
 refine wpAny_IfExp (zk (hc pins s σ H _ I h) λd s1 ⟨H1,I1,q1⟩=>?_)
 cases d with
 | true=>exact ha pins s1 σ H1 Q I1 q1
 | false=>exact hb pins s1 σ H1 Q I1 q1
end
end L2
namespace L2
open PySem PySem.Spec PyProof.Rows
def zR (K:PySem.W.Frag) (H:Hp) (a:Addr) (xs:List V):Prop:=
 Rd H a (.lst xs)∨
  ∃ (o:Obj) (its:Array Value) (n:Nat),K.lookup a=some o/\o.cls=.type "list"/\o.dict=none/\o.data=.seq its n/\its.size<=sizeLine/\zM xs its.toList
def yS (K:PySem.W.Frag) (H:Hp) (a:Addr) (xs:List V):Prop:=
 Rd H a (.tup xs)∨
  ∃ (o:Obj) (its:Array Value) (n:Nat),K.lookup a=some o/\o.cls=.type "tuple"/\o.data=.seq its n/\its.size<=sizeLine/\zM xs its.toList
def W5:Value->Option V
 | .none=>some .non
 | .bool b=>some (.bl b)
 | .int i _=>some (.int i)
 | .str x _=>some (.str x)
 | .bytes b _=>some (.byt b)
 | .float b _=>some (.flt b)
 | .ref a=>some (.ref a)
 | .type n=>some (.ty n)
 | _=>none
theorem zU.abs {x:V} {u:Value} (r:zU x u):W5 u=some x:=by
 cases x with
 | non=>cases r; rfl
 | bl _=>cases r; rfl
 | int _=>obtain ⟨t,rfl⟩:=r; rfl
 | str _=>obtain ⟨t,rfl⟩:=r; rfl
 | byt _=>obtain ⟨t,rfl⟩:=r; rfl
 | flt _=>obtain ⟨t,rfl⟩:=r; rfl
 | ref _=>cases r; rfl
 | ty _=>cases r; rfl
theorem zU.inj {x y:V} {u:Value} (r:zU x u) (q:zU y u):x=y:=Option.some.inj (r.abs.symm.trans q.abs)
theorem zM.inj:∀ {xs ys:List V} {us:List Value},zM xs us->zM ys us->xs=ys
 | _,_,_,.nil,.nil=>rfl
 | _,_,_,.cons r t,.cons r' t'=>by rw [r.inj r',zM.inj t t']
section
variable {X:Cx} {pins:List (Addr × Obj)} {σ:St} {H:Hp} {s:Shared} {a:Addr} {xs ys:List V}
theorem zR.of {K:PySem.W.Frag} (h:H a=some (.lst xs)):zR K H a xs:=.inl (.inl h)
theorem yS.of {K:PySem.W.Frag} (h:H a=some (.tup xs)):yS K H a xs:=.inl (.inl h)
theorem zH.list (I:zH X pins σ H s) (h:zR X.K H a xs):∃ its:List Value,zM xs its/\PlainL s.heap a its.toArray/\xs.length<=sizeLine:=by
 rcases h with h | ⟨o,its,n,hk,hc,hd,hs,hz,r⟩
 ·obtain ⟨z,its,n,r,e⟩:=h.ok I.hok
  exact ⟨its,r,⟨_,n,e,rfl,rfl,rfl⟩,z⟩
 ·refine ⟨its.toList,r,⟨o,n,I.kIn a o hk,hc,hd,by simpa using hs⟩,?_⟩
  have e:=r.length
  simp only [Array.length_toList] at e
  omega
theorem zH.tuple (I:zH X pins σ H s) (h:yS X.K H a xs):∃ its:List Value,zM xs its/\IsTup s.heap a its.toArray/\xs.length<=sizeLine:=by
 rcases h with h | ⟨o,its,n,hk,hc,hs,hz,r⟩
 ·obtain ⟨z,its,r,p⟩:=h.ok I.hok
  exact ⟨its,r,p,z⟩
 ·refine ⟨its.toList,r,⟨o,I.kIn a o hk,hc,n,by simpa using hs⟩,?_⟩
  have e:=r.length
  simp only [Array.length_toList] at e
  omega
theorem zH.list_inj (I:zH X pins σ H s) (h:zR X.K H a xs) (h':zR X.K H a ys):xs=ys:=by
 obtain ⟨its,r,⟨o,n,e,_,_,d⟩,_⟩:=I.list h
 obtain ⟨its',r',⟨o',n',e',_,_,d'⟩,_⟩:=I.list h'
 rw [e] at e'; cases e'
 rw [d] at d'
 injection d' with d1 _
 have:its=its':=by simpa using congrArg Array.toList d1
 subst this
 exact r.inj r'
theorem zH.tuple_inj (I:zH X pins σ H s) (h:yS X.K H a xs) (h':yS X.K H a ys):xs=ys:=by
 obtain ⟨its,r,⟨o,e,_,n,d⟩,_⟩:=I.tuple h
 obtain ⟨its',r',⟨o',e',_,n',d'⟩,_⟩:=I.tuple h'
 rw [e] at e'; cases e'
 rw [d] at d'
 injection d' with d1 _
 have:its=its':=by simpa using congrArg Array.toList d1
 subst this
 exact r.inj r'
end
abbrev Cx.wish (X:Cx) (E:Value->Shared->Prop):Cx:={ X with xe:=E }
abbrev Cx.nox (X:Cx):Cx:=X.wish λ_ _=>False
theorem Cx.Ok.wish {X:Cx} (ok:X.Ok) (E:Value->Shared->Prop):(X.wish E).Ok:=
 ⟨ok.mod,ok.kind,ok.glob,ok.blt,ok.above,ok.inj,ok.has,ok.cab,ok.hd,ok.frames,ok.stk,ok.exf,ok.bs,ok.bsz,ok.noex,ok.exfs,ok.funs,ok.frf⟩
theorem Cx.Ok.unwish {X:Cx} {E:Value->Shared->Prop} (ok:(X.wish E).Ok):X.Ok:=
 ⟨ok.mod,ok.kind,ok.glob,ok.blt,ok.above,ok.inj,ok.has,ok.cab,ok.hd,ok.frames,ok.stk,ok.exf,ok.bs,ok.bsz,ok.noex,ok.exfs,ok.funs,ok.frf⟩
section
variable {X:Cx} {pins:List (Addr × Obj)} {σ:St} {H:Hp} {s:Shared} {E:Value->Shared->Prop}
theorem zH.wish (I:zH X pins σ H s) (E:Value->Shared->Prop):zH (X.wish E) pins σ H s:=⟨I.ok.wish E,I.os,I.bare,I.base,I.loc,I.cell,I.free,I.freeC,I.pin,I.hok,I.len⟩
theorem zH.unwish (I:zH (X.wish E) pins σ H s):zH X pins σ H s:=⟨I.ok.unwish,I.os,I.bare,I.base,I.loc,I.cell,I.free,I.freeC,I.pin,I.hok,I.len⟩
theorem SP.unwish {D:xg} {f:Flow} {s':Shared} (h:SP (X.wish E) pins D f s'):SP X pins D f s':=by
 cases f with
 | next=>obtain ⟨σ',H',I,q⟩:=h; exact ⟨σ',H',I.unwish,q⟩
 | brk=>obtain ⟨σ',H',I,q⟩:=h; exact ⟨σ',H',I.unwish,q⟩
 | cont=>obtain ⟨σ',H',I,q⟩:=h; exact ⟨σ',H',I.unwish,q⟩
 | ret u=>obtain ⟨v,σ',H',I,r,q⟩:=h; exact ⟨v,σ',H',I.unwish,r,q⟩
theorem xJ.nox {st:List Stmt} {t:TS} (h:xJ X.nox st t):xJ X st t:=λpins s σ H D I hw=>
 wpAny_mono (h pins s σ H D (I.wish _) hw) (λ_ _ q=>q.unwish) λ_ _ z=>False.elim z
end
section
variable {X:Cx} {st:Stmt} {ya:List Stmt} {t u:TS} {e:Expr} {te:TE} {pos:Pos}
def kH:TS:=λD σ H=>D.nx σ H
def W6 (t u:TS):TS:=λD σ H=>t { D with nx:=u D } σ H
theorem zPR:xJ X [] kH:=λ_ _ σ H _ I h=>wpAny_execs_nil ⟨σ,H,I,h⟩
theorem uU (h1:PS X st t) (h2:xJ X ya u):xJ X (st :: ya) (W6 t u):=by
 intro pins s σ H D I h
 refine wpAny_execs_cons (zk (h1 pins s σ H { D with nx:=u D } I h) λf s1 q=>?_)
 cases f with
 | next=>
  obtain ⟨σ',H',I',q⟩:=q
  exact h2 pins s1 σ' H' D I' q
 | ret v=>exact q
 | brk=>exact q
 | cont=>exact q
theorem jq (h1:PS X st t):xJ X [st] t:=by
 intro pins s σ H D I h
 refine wpAny_execs_cons (zk (h1 pins s σ H D I h) λf s1 q=>?_)
 cases f with
 | next=>exact wpAny_execs_nil q
 | ret v=>exact q
 | brk=>exact q
 | cont=>exact q
theorem zH.quiet {pins:List (Addr × Obj)} {σ:St} {H:Hp} {s:Shared} (I:zH X pins σ H s):interactive X.env=false:=by simp [interactive,I.ok.kind]
def Qz (te:TE):TS:=λD σ H=>te σ H λ_ H1=>D.nx σ H1
theorem wE (he:PE X e te) (hs:swapsWith e none pos.line X.env=pure false:=by rfl):PS X (.Expr e pos) (Qz te):=by
 intro pins s σ H D I h
 exact wpAny_Expr_any (zk (he pins s σ H _ I h) λv s1 ⟨x,H1,I1,r1,q1⟩=>⟨σ,H1,I1,q1⟩) I.quiet hs
def W7 (te:TE):TS:=λD σ H=>te σ H D.rt
theorem Q0 (he:PE X e te):PS X (.Return (some e) pos) (W7 te):=by
 intro pins s σ H D I h
 exact wpAny_Return_some (zk (he pins s σ H _ I h) λv s1 ⟨x,H1,I1,r1,q1⟩=>⟨x,σ,H1,I1,r1,q1⟩)
def W8 (c:TT) (t u:TS):TS:=λD σ H=>c σ H λb H1=>if b=true then t D σ H1 else u D σ H1
theorem Q1 {c:Expr} {a b:List Stmt} {tc:TT} (hc:PT X c tc) (ha:xJ X a t) (hb:xJ X b u):PS X (.If c a b pos) (W8 tc t u):=by
 intro pins s σ H D I h
 refine wpAny_If (zk (hc pins s σ H _ I h) λd s1 ⟨H1,I1,q1⟩=>?_)
 cases d with
 | true=>exact ha pins s1 σ H1 D I1 q1
 | false=>exact hb pins s1 σ H1 D I1 q1
def zQL:TS:=λ_ _ _=>False
theorem zNp:PS X st zQL:=λ_ _ _ _ _ _ h=>h.elim
end
abbrev TG:=V->St->Hp->(St->Hp->Prop)->Prop
abbrev uv:=List V->St->Hp->(St->Hp->Prop)->Prop
def PG (X:Cx) (target:Expr) (t:TG):Prop:=
 ∀ (pins:List (Addr × Obj)) (s:Shared) (σ:St) (H:Hp) (v:V) (u:Value) (Q:St->Hp->Prop),zH X pins σ H s->zU v u->t v σ H Q->
  wpAny (model X.prog X.w) X.A (assign target X.env u) (λ_ s'=>∃ σ' H',zH X pins σ' H' s'/\Q σ' H') X.xe s
def q9 (X:Cx) (ts:List Expr) (t:uv):Prop:=
 ∀ (pins:List (Addr × Obj)) (s:Shared) (σ:St) (H:Hp) (vs:List V) (us:List Value) (Q:St->Hp->Prop),zH X pins σ H s->zM vs us->t vs σ H Q->
  wpAny (model X.prog X.w) X.A (assignInOrder ((assignEach ts X.env).map (·.2)) us) (λ_ s'=>∃ σ' H',zH X pins σ' H' s'/\Q σ' H') X.xe s
abbrev jr:=V->V->V->Hp->(Hp->Prop)->Prop
def kI (X:Cx) (t:jr):Prop:=
 ∀ (pins:List (Addr × Obj)) (s:Shared) (σ:St) (H:Hp) (o i v:V) (ov iv u:Value) (Q:Hp->Prop),zH X pins σ H s->zU o ov->zU i iv->zU v u->t o i v H Q->
  wpAny (model X.prog X.w) X.A (setItem ov iv u) (λ_ s'=>∃ H',zH X pins σ H' s'/\Q H') X.xe s
section
variable {X:Cx} {pos:Pos}
def jt (i:Nat):TG:=λv σ H Q=>Q (σ.set i (some v)) H
theorem uD {i:Nat} {x:Str} (hN:X.N.Nodup) (hi:X.N[i]? = some x) (hx:jP X.env.scope x) (hf:X.fn x=true\/X.env.scope.names.lookup x=some .local:=by first | exact .inl rfl | exact .inr rfl | assumption):PG X (.Name x pos) (jt i):=by
 intro pins s σ H v u Q I r h
 exact wpAny_assign_Name (Qx I hN hi hx r (λs' I'=>⟨_,H,I',h⟩) hf)
def kJ:uv:=λvs σ H Q=>vs=[]/\Q σ H
def W9 (t:TG) (u:uv):uv:=λvs σ H Q=>∃ v r,vs=v :: r/\t v σ H λσ' H'=>u r σ' H' Q
theorem Q2:q9 X [] kJ:=by
 intro pins s σ H vs us Q I r h
 obtain ⟨e,h⟩:=h
 subst e
 cases r
 exact assignInOrder_nil ⟨σ,H,I,h⟩
theorem UA {e:Expr} {es:List Expr} {t:TG} {u:uv} (h1:PG X e t) (h2:q9 X es u)
  (hs:(assignEach (e :: es) X.env).map (·.2)=assign e X.env :: (assignEach es X.env).map (·.2):=by rfl):q9 X (e :: es) (W9 t u):=by
 intro pins s σ H vs us Q I r h
 obtain ⟨v,vr,e1,h⟩:=h
 subst e1
 cases r with
 | cons r rr=>
  rw [hs]
  refine assignInOrder_cons (zk (h1 pins s σ H _ _ _ I r h) λ_ s1 ⟨σ1,H1,I1,q1⟩=>?_)
  exact h2 pins s1 σ1 H1 _ _ Q I1 rr q1
def kK (K:PySem.W.Frag) (n:Nat) (t:uv):TG:=λv σ H Q=>∃ a xs,v=.ref a/\yS K H a xs/\xs.length=n/\t xs σ H Q
theorem Q3 {es:List Expr} {k:Nat} {t:uv} {n:Nat} (hc:X.calm=true) (h:q9 X es t)
  (hn:(assignEach es X.env).length=n:=by rfl) (hst:(assignEach es X.env).findIdx? (·.1)=none:=by rfl):PG X (.Tuple es k pos) (kK X.K n t):=by
 intro pins s σ H v u Q I r hw
 obtain ⟨a,xs,e1,hq,hl,hw⟩:=hw
 subst e1
 cases r
 obtain ⟨its,rv,ht,hz⟩:=I.tuple hq
 refine assign_Tuple_tuple (I.ok.hd hc) ht (by simp [hn,<- hl,rv.length]) hst λh' hx=>?_
 have I1:zH X pins σ H { s with heap:=h' }:=I.kept (t':=s.toks) λb o e=>hx b o (Nat.ne_of_lt (Heap.lt_size e)) e
 exact h pins _ σ H xs _ Q I1 (by simpa using rv) hw
def UB (to ti:TE) (t:jr):TG:=λv σ H Q=>to σ H λo H1=>ti σ H1 λi H2=>t o i v H2 λH3=>Q σ H3
theorem Y7 {o i:Expr} {to ti:TE} {t:jr} (ho:PE X o to) (hi:PE X i ti) (hs:kI X t)
  (ha:∀ v,assign (.Subscript o i pos) X.env v=(do
   let ov <- holding [v] (eval o X.env)
   let iv <- holding [v,ov] (eval i X.env)
   standAt pos
   holding [v,ov,iv] (setItem ov iv v)
   release [v,ov,iv] []):=by intro _; rfl):PG X (.Subscript o i pos) (UB to ti t):=by
 intro pins s σ H v u Q I r h
 rw [ha]
 refine wpAny_bind (wpAny_holding (zk (ho pins s σ H _ I h) λov s1 ⟨x,H1,I1,r1,q1⟩=>?_))
 refine wpAny_bind (wpAny_holding (zk (hi pins s1 σ H1 _ I1 q1) λiv s2 ⟨y,H2,I2,r2,q2⟩=>?_))
 refine wpAny_bind (wpAny_standAt (wpAny_bind (wpAny_holding (zk (hs pins s2 σ H2 x y v ov iv u _ I2 r1 r2 r q2) λ_ s3 ⟨H3,I3,q3⟩=>?_))))
 exact wpAny_release ⟨σ,H3,I3,q3⟩
def uV (te:TE) (g:TG):TS:=λD σ H=>te σ H λx H1=>g x σ H1 D.nx
theorem kL {tg e:Expr} {te:TE} {g:TG} (he:PE X e te) (hg:PG X tg g) (hs:swapsWithSole [tg] e pos.line X.env=pure false:=by rfl) (hw:swappedStores [tg] e X.env=pure none:=by rfl)
  (h1:(assignEach [tg] X.env).map (·.2)=[assign tg X.env]:=by rfl):PS X (.Assign [tg] e pos) (uV te g):=by
 intro pins s σ H D I h
 refine wpAny_Assign_stores (zk (he pins s σ H _ I h) λv s1 ⟨x,H1,I1,r1,q1⟩=>?_) hs hw
 rw [h1]
 exact zk (hg pins s1 σ H1 x v _ I1 r1 q1) λ_ s2 q=>q
theorem gA {i:Nat} {x:Str} {e:Expr} {te:TE} {pos':Pos} (hN:X.N.Nodup) (hi:X.N[i]? = some x) (hx:jP X.env.scope x) (he:PE X e te) (hs:swapsWith e (some (.Name x pos')) pos.line X.env=pure false:=by rfl) (hf:X.fn x=true\/X.env.scope.names.lookup x=some .local:=by first | exact .inl rfl | exact .inr rfl | assumption) :
  PS X (.Assign [.Name x pos'] e pos) (uV te (jt i)):=by
 intro pins s σ H D I h
 refine wpAny_Assign_Name (zk (he pins s σ H _ I h) λv s1 ⟨y,H1,I1,r1,q1⟩=>?_) hs
 exact Qx I1 hN hi hx r1 (λs2 I2=>⟨_,H1,I2,q1⟩) hf
end
section
variable {X:Cx} {pos:Pos}
end
structure It where
 go:Nat->Hp->Prop
 yld:Nat->Hp->V->Hp->Prop
 stop:Nat->Hp->Prop
def yU (X:Cx) (pins:List (Addr × Obj)) (H:Hp) (b:Addr):Prop:=
 H b=none/\b≠X.env.locals/\b∉X.fs/\(b∈X.ex\/X.s₀.heap.objs.size<=b)/\(∀ x c,X.env.cells.lookup x=some c->c≠b)/\∀ p∈X.pn++pins,p.1≠b
theorem zH.fpOk {X:Cx} {pins:List (Addr × Obj)} {σ:St} {H H':Hp} {s:Shared} {b:Addr} (I:zH X pins σ H s) (hb:s.heap.objs.size<=b) (hn:H' b=none):yU X pins H' b:=by
 refine ⟨hn,Nat.ne_of_gt (Nat.lt_of_lt_of_le I.lt hb),I.nofs hb,.inr (Nat.le_trans I.sz hb),λx c e z=>?_,λp hp z=>?_⟩
 ·obtain ⟨v,q⟩:=I.cell x c e
  exact absurd (Nat.lt_of_lt_of_le q.lt (by rw [z]; exact hb)) (Nat.lt_irrefl _)
 ·exact absurd (Nat.lt_of_lt_of_le (Heap.lt_size (I.pin p hp).1) (by rw [z]; exact hb)) (Nat.lt_irrefl _)
structure xx (P:Program) (w:World) (K:PySem.W.Frag) (tg:Expr) (J:It) (fp:List Addr) (it:Addr) (tn:Nat->Heap->Prop):Prop where
 mem:it∈fp
 obj:∀ i h,tn i h->∀ b∈fp,∃ o,h.get? b=some o/\∀ v,o.data≠.cell v
 keep:∀ i h h',tn i h->(∀ b∈fp,∀ o,h.get? b=some o->h'.get? b=some o)->tn i h'
 item:∀ (X:Cx),X.prog=P->X.w=w->X.K=K->X.calm=true->∀ (i:Nat) (pins:List (Addr × Obj)) (s:Shared) (σ:St) (H:Hp) (E:Value->Shared->Prop),zH X pins σ H s->(∀ b∈fp,yU X pins H b)->tn i s.heap->J.go i H->
  wpAny (model P w) X.A (pyNext (.ref it)) (λr s1=>∃ u,r=some u∧
   wpAny (model P w) X.A (letOwnedTupleGo tg (.ref it) u) (λ_ s2=>∃ x H',zH X pins σ H' s2/\zU x u/\J.yld i H x H'/\tn (i + 1) s2.heap/\∀ b∈fp,H' b=none) E s1) E s
 done:∀ (X:Cx),X.prog=P->X.w=w->X.K=K->X.calm=true->∀ (i:Nat) (pins:List (Addr × Obj)) (s:Shared) (σ:St) (H:Hp) (E:Value->Shared->Prop),zH X pins σ H s->(∀ b∈fp,yU X pins H b)->tn i s.heap->J.stop i H->
  wpAny (model P w) X.A (pyNext (.ref it)) (λr s1=>r=none/\zH X pins σ H s1) E s
 self:∀ (A:Around) (i:Nat) (s:Shared) (Q:Value->Shared->Prop) (E:Value->Shared->Prop),tn i s.heap->Q (.ref it) s->wpAny (model P w) A (pyIter (.ref it)) Q E s
abbrev TI:=St->Hp->(It->Hp->Prop)->Prop
def Q4 (X:Cx) (pins:List (Addr × Obj)) (σ:St) (tg:Expr) (R:It->Hp->Prop) (itv:Value) (s2:Shared):Prop:=
 ∃ (it:Addr) (fp:List Addr) (tn:Nat->Heap->Prop) (J:It) (H':Hp),itv=.ref it/\zH X pins σ H' s2/\xx X.prog X.w X.K tg J fp it tn/\tn 0 s2.heap/\(∀ b∈fp,yU X pins H' b)/\R J H'
def PI (X:Cx) (tg iter:Expr) (wi:TI):Prop:=
 ∀ (pins:List (Addr × Obj)) (s:Shared) (σ:St) (H:Hp) (R:It->Hp->Prop),zH X pins σ H s->wi σ H R->
  wpAny (model X.prog X.w) X.A (eval iter X.env) (λv s1=>wpAny (model X.prog X.w) X.A (pyIter v) (Q4 X pins σ tg R) X.xe s1) X.xe s
theorem UC {M:Model} {A:Around} {E:Value->Shared->Prop} {s:Shared} {tg:Expr} {it:Addr} {u:Value} {o:Obj} {n:String} {vs:Array Value} {Q:Unit->Shared->Prop} (ho:s.heap.get? it=some o) (hc:o.cls=.type n) (hd:o.data=.fields vs)
  (hn:["enumerate","zip","dict_itemiterator","dict_reverseitemiterator","odict_iterator","itertools.zip_longest","itertools.pairwise"].contains n=false) (hQ:Q () s):wpAny M A (letOwnedTupleGo tg (.ref it) u) Q E s:=by
 unfold letOwnedTupleGo
 cases tg <;> first
  | exact wpAny_pure hQ
  | (cases u <;> first
    | exact wpAny_pure hQ
    | (refine wpAny_bind (wpAny_load ho ?_)
       rw [hc,hd]
       show wpAny M A (if (["enumerate","zip","dict_itemiterator","dict_reverseitemiterator","odict_iterator","itertools.zip_longest","itertools.pairwise"].contains n && vs[0]? == some (rawInt _))=true then _ else _) Q E s
       rw [if_neg (by intro h; rw [hn,Bool.false_and] at h; cases h)]
       exact wpAny_pure hQ))
def jR (K:PySem.W.Frag) (a:Addr):It:=
 ⟨λi H=>∃ xs x,zR K H a xs/\xs[i]? = some x,λi H x H'=>H'=H/\∀ xs,zR K H a xs->xs[i]? = some x,λi H=>∃ xs,zR K H a xs/\xs.length<=i⟩
def UD (K:PySem.W.Frag) (a:Addr):It:=
 ⟨λi H=>∃ xs x,yS K H a xs/\xs[i]? = some x,λi H x H'=>H'=H/\∀ xs,yS K H a xs->xs[i]? = some x,λi H=>∃ xs,yS K H a xs/\xs.length<=i⟩
def jS (lo:Int) (n:Nat):It:=⟨λi _=>i < n,λi H x H'=>H'=H/\x=.int (lo + i),λi _=>n<=i⟩
theorem Q5 {P:Program} {w:World} {K:PySem.W.Frag} {tg:Expr} (a it:Addr):xx P w K tg (jR K a) [it] it (λi h=>h.IsListIter it a i) where
 mem:=by simp
 obj:=λi h st b hb=>by
  have e:b=it:=by simpa using hb
  subst e
  obtain ⟨o,e,c,d⟩:=st
  exact ⟨o,e,λv z=>by rw [d] at z; cases z⟩
 keep:=λi h h' st k=>st.at λo e=>k it (by simp) o e
 item:=by
  intro X hP hw hK hc i pins s σ H E I hf st hg
  subst hP hw hK
  obtain ⟨xs,x,hq,hx⟩:=hg
  obtain ⟨its,rv,p,hz⟩:=I.list hq
  obtain ⟨u,hu,ru⟩:=rv.get hx
  obtain ⟨f0,f1,f2,f3,f4,f5⟩:=hf it (by simp)
  refine wpAny_pyNext_list_item st p.isList (x:=u) (by simpa using hu) λh' st' sb=>?_
  have I1:zH X pins σ H { s with heap:=h' }:=I.turned (t':=s.toks) (λb o hb e=>(sb.2 b hb).trans e) f0 f1 f3 f4 f5
  obtain ⟨o,e,c,d⟩:=id st'
  exact ⟨u,rfl,UC (s:={ s with heap:=h' }) e c d (by decide) ⟨x,H,I1,ru,⟨rfl,λys hy=>by rw [I.list_inj hy hq]; exact hx⟩,st',λb hb=>(hf b hb).1⟩⟩
 done:=by
  intro X hP hw hK hc i pins s σ H E I hf st hg
  subst hP hw hK
  obtain ⟨xs,hq,hx⟩:=hg
  obtain ⟨its,rv,p,hz⟩:=I.list hq
  obtain ⟨f0,f1,f2,f3,f4,f5⟩:=hf it (by simp)
  have hl:=rv.length
  exact wpAny_pyNext_list_end (I.ok.hd hc) st p.isList (by simp; omega) λh' eb=>⟨rfl,I.turned (t':=s.toks) (λb o hb e=>eb b o hb e) f0 f1 f3 f4 f5⟩
 self:=λ_ _ _ _ _ st h=>wpAny_pyIter_listiter st h
theorem zKT {P:Program} {w:World} {K:PySem.W.Frag} {tg:Expr} (a it:Addr):xx P w K tg (UD K a) [it] it (λi h=>h.IsTupleIter it a i) where
 mem:=by simp
 obj:=λi h st b hb=>by
  have e:b=it:=by simpa using hb
  subst e
  obtain ⟨o,e,c,d⟩:=st
  exact ⟨o,e,λv z=>by rw [d] at z; cases z⟩
 keep:=λi h h' st k=>st.at λo e=>k it (by simp) o e
 item:=by
  intro X hP hw hK hc i pins s σ H E I hf st hg
  subst hP hw hK
  obtain ⟨xs,x,hq,hx⟩:=hg
  obtain ⟨its,rv,p,hz⟩:=I.tuple hq
  obtain ⟨u,hu,ru⟩:=rv.get hx
  obtain ⟨f0,f1,f2,f3,f4,f5⟩:=hf it (by simp)
  refine wpAny_pyNext_tuple_item st (show s.heap.IsTuple a its.toArray from p) (x:=u) (by simpa using hu) λh' st' sb=>?_
  have I1:zH X pins σ H { s with heap:=h' }:=I.turned (t':=s.toks) (λb o hb e=>(sb.2 b hb).trans e) f0 f1 f3 f4 f5
  obtain ⟨o,e,c,d⟩:=id st'
  exact ⟨u,rfl,UC (s:={ s with heap:=h' }) e c d (by decide) ⟨x,H,I1,ru,⟨rfl,λys hy=>by rw [I.tuple_inj hy hq]; exact hx⟩,st',λb hb=>(hf b hb).1⟩⟩
 done:=by
  intro X hP hw hK hc i pins s σ H E I hf st hg
  subst hP hw hK
  obtain ⟨xs,hq,hx⟩:=hg
  obtain ⟨its,rv,p,hz⟩:=I.tuple hq
  obtain ⟨f0,f1,f2,f3,f4,f5⟩:=hf it (by simp)
  have hl:=rv.length
  exact wpAny_pyNext_tuple_end (I.ok.hd hc) st (show s.heap.IsTuple a its.toArray from p) (by simp; omega) λh' eb=>⟨rfl,I.turned (t':=s.toks) (λb o hb e=>eb b o hb e) f0 f1 f3 f4 f5⟩
 self:=λ_ _ _ _ _ st h=>wpAny_pyIter_tupleiter st h
theorem zKV {P:Program} {w:World} {K:PySem.W.Frag} {tg:Expr} (it:Addr) (lo:Int) (n:Nat):xx P w K tg (jS lo n) [it] it (λi h=>IsRangeIter h it (lo + (i:Nat) * 1) ((n:Int) - (i:Nat)) 1) where
 mem:=by simp
 obj:=λi h st b hb=>by
  have e:b=it:=by simpa using hb
  subst e
  exact ⟨_,st,λv z=>by
   have z':Data.fields _=Data.cell v:=z
   cases z'⟩
 keep:=λi h h' st k=>k it (by simp) _ st
 item:=by
  intro X hP hw hK hc i pins s σ H E I hf st hg
  subst hP hw hK
  obtain ⟨f0,f1,f2,f3,f4,f5⟩:=hf it (by simp)
  have W:=Walks.range (prog:=X.prog) (w:=X.w) (I.ok.hd hc) it lo 1 n
  refine W.item i s _ _ hg st λv h' tk hv st' kk=>?_
  obtain ⟨t,rfl⟩:=hv
  have I1:zH X pins σ H { s with heap:=h',toks:=tk }:=I.turned (λb o hb e=>kk b o (by simpa using hb) e) f0 f1 f3 f4 f5
  refine ⟨_,rfl,UC (s:={ s with heap:=h',toks:=tk }) (n:="range_iterator") st' rfl rfl (by decide) ⟨.int (lo + i),H,I1,⟨t,?_⟩,⟨rfl,rfl⟩,st',λb hb=>(hf b hb).1⟩⟩
  rw [Int.mul_one]
 done:=by
  intro X hP hw hK hc i pins s σ H E I hf st hg
  subst hP hw hK
  obtain ⟨f0,f1,f2,f3,f4,f5⟩:=hf it (by simp)
  exact wpAny_pyNext_range_end (I.ok.hd hc) st (by have:n<=i:=hg; omega) λh' eb=>⟨rfl,I.turned (t':=s.toks) (λb o hb e=>eb b o hb e) f0 f1 f3 f4 f5⟩
 self:=λ_ _ _ _ _ st h=>wpAny_pyIter_rangeiter st h
end L2
namespace L2
open PySem PySem.Spec PyProof.Rows
section
variable {X:Cx} {tg:Expr}
def kM (K:PySem.W.Frag) (tl:TE):TI:=λσ H R=>tl σ H λx H1=>∃ a,x=.ref a/\(∃ xs,zR K H1 a xs)/\R (jR K a) H1
theorem UE {l:Expr} {tl:TE} (hl:PE X l tl):PI X tg l (kM X.K tl):=by
 intro pins s σ H R I h
 refine zk (hl pins s σ H _ I h) λv s1 ⟨x,H1,I1,r1,q1⟩=>?_
 obtain ⟨a,e,⟨xs,hq⟩,q⟩:=q1
 subst e
 cases r1
 obtain ⟨its,rv,p,hz⟩:=I1.list hq
 refine wpAny_pyIter_list p.isList ?_
 refine ⟨s1.heap.objs.size,[s1.heap.objs.size],_,_,H1,rfl,I1.kept (t':=s1.toks) λb o e=>Heap.get?_push_of_some _ e,Q5 a _,⟨_,Heap.get?_push_size _ rfl,rfl,rfl⟩,λb hb=>?_,q⟩
 have e:b=s1.heap.objs.size:=by simpa using hb
 subst e
 exact I1.fpOk (Nat.le_refl _) (I1.hok.fresh (Nat.le_refl _))
theorem zNl {pins:List (Addr × Obj)} {σ:St} {H:Hp} {s:Shared} {R:It->Hp->Prop} {E:Value->Shared->Prop} {lo hi:Int} {t u v:Tok} {tk:Nat} (I:zH X pins σ H s) (h1 : -(2 ^ 62)<=lo) (h2:lo < 2 ^ 62) (h3 : -(2 ^ 62)<=hi) (h4:hi < 2 ^ 62)
  (q:R (jS lo (hi - lo).toNat) H):wpAny (model X.prog X.w) X.A (pyIter (.ref s.heap.objs.size)) (Q4 X pins σ tg R) E { s with heap:=s.heap.push { cls:=.type "range",data:=.fields #[.int lo t,.int hi u,.int 1 v] },toks:=tk }:=by
 refine wpAny_pyIter_range (IsRange.new ..) (small_one h1 h2 h3 h4) ?_
 have I1:zH X pins σ H { s with heap:=s.heap.push { cls:=.type "range",data:=.fields #[.int lo t,.int hi u,.int 1 v] },toks:=tk }:=I.kept λb o e=>Heap.get?_push_of_some _ e
 refine ⟨(s.heap.push { cls:=.type "range",data:=.fields #[.int lo t,.int hi u,.int 1 v] }).objs.size,[(s.heap.push { cls:=.type "range",data:=.fields #[.int lo t,.int hi u,.int 1 v] }).objs.size],_,_,H,rfl,
  I1.kept (t':=tk) λb o e=>Heap.get?_push_of_some _ e,zKV _ lo (hi - lo).toNat,?_,λb hb=>?_,q⟩
 ·have e1:lo + ((0:Nat):Int) * 1=lo:=by simp
  have e2:(((hi - lo).toNat:Nat):Int) - ((0:Nat):Int)=Builtin.Range.rangeSize lo hi 1:=by rw [rangeSize_one]; split <;> omega
  show IsRangeIter _ _ (lo + ((0:Nat):Int) * 1) ((((hi - lo).toNat:Nat):Int) - ((0:Nat):Int)) 1
  rw [e1,e2]
  exact Heap.get?_push_size _ rfl
 ·have e:b=(s.heap.push { cls:=.type "range",data:=.fields #[.int lo t,.int hi u,.int 1 v] }).objs.size:=by simpa using hb
  subst e
  exact I1.fpOk (Nat.le_refl _) (I1.hok.fresh (Nat.le_refl _))
def kN (ta:TA):TI:=λσ H R=>ta σ H λvs H1=>∃ j:Int,vs=[.int j]/\-(2 ^ 62)<=j/\j < 2 ^ 62/\R (jS 0 j.toNat) H1
theorem gB {a:Expr} {ta:TA} {p pos:Pos} (hg:Gl X "range") (hm:X.mg "range" = none) (ha:PA X [a] ta) (hs:starEach [a] X.env=[(false,eval a X.env)]:=by rfl):PI X tg (.Call (.Name "range" p) [a] [] pos) (kN ta):=by
 intro pins s σ H R I h
 refine Call_ (jQ I hg hm boot_range (PyProof.Rows.callWith_type1 (zk (ha pos pins s σ H _ I h) λus s1 ⟨vs,H1,I1,r1,q1⟩=>?_) hs rfl))
 obtain ⟨j,e,q1,q2,q⟩:=q1
 subst e
 cases r1 with
 | cons r rr=>
  cases rr
  obtain ⟨t,rfl⟩:=r
  exact call_range_1 (zNl I1 (by omega) (by omega) q1 q2 (by simpa using q))
def UF (wi:TI) (g:TG) (tb:TS):TS:=λD σ H=>wi σ H λJ H1=>∃ W:Nat->Nat->St->Hp->Prop,(∃ m,W 0 m σ H1)/\∀ i m σ H,W i m σ H->
 (J.stop i H/\D.nx σ H)\/(J.go i H/\∃ N:St->Hp->Prop,(∀ σ' H',N σ' H'->∃ m',m' < m/\W (i + 1) m' σ' H')/\∀ x H',J.yld i H x H'->g x σ H' λσ2 H2=>tb { D with nx:=N,ct:=N,bk:=D.nx } σ2 H2)
def gC (fp:List Addr) (h:Heap):List (Addr × Obj):=fp.filterMap λb=>(h.get? b).map λo=>(b,o)
theorem jT {fp:List Addr} {h:Heap} {b:Addr} {o:Obj} (hb:b∈fp) (e:h.get? b=some o):(b,o)∈gC fp h:=List.mem_filterMap.mpr ⟨b,hb,by rw [e]; rfl⟩
theorem zMJ {fp:List Addr} {h:Heap} {p:Addr × Obj} (hp:p∈gC fp h):p.1∈fp/\h.get? p.1=some p.2:=by
 obtain ⟨b,hb,e⟩:=List.mem_filterMap.mp hp
 cases q:h.get? b with
 | none=>rw [q] at e; cases e
 | some o=>
  rw [q] at e
  have e':(b,o)=p:=Option.some.inj e
  subst e'
  exact ⟨hb,q⟩
theorem zH.pinned {pins:List (Addr × Obj)} {σ:St} {H:Hp} {s:Shared} {fp:List Addr} (I:zH X pins σ H s) (hf:∀ b∈fp,yU X pins H b) (ho:∀ b∈fp,∃ o,s.heap.get? b=some o/\∀ v,o.data≠.cell v):zH X (pins++gC fp s.heap) σ H s:=
 I.pins_of λp hp=>(List.mem_append.mp hp).elim (λz=>I.pin p (List.mem_append_right _ z)) λz=>by
  obtain ⟨hb,e⟩:=zMJ z
  obtain ⟨f0,f1,f2,_⟩:=hf p.1 hb
  obtain ⟨o,e',d⟩:=ho p.1 hb
  rw [e] at e'; cases e'
  exact ⟨e,f0,f1,f2,d⟩
theorem zH.unpinned {pins pl:List (Addr × Obj)} {σ:St} {H:Hp} {s:Shared} (I:zH X (pins++pl) σ H s):zH X pins σ H s:=I.pins_of λp hp=>I.pin p (List.mem_append_right _ (List.mem_append_left _ hp))
theorem Y8 {iter:Expr} {body:List Stmt} {wi:TI} {g:TG} {tb:TS} {pos:Pos} (hp:PassesOwn (model X.prog X.w) X.A X.env X.xe) (hc:X.calm=true) (hi:PI X tg iter wi) (hg:PG X tg g) (hb:xJ X body tb)
  (hs:∀ x,foldedSetIterable iter X.env x=pure x:=by intro _; rfl):PS X (.For tg iter body [] pos) (UF wi g tb):=by
 intro pins s σ H D I h
 refine wpAny_For (zk (hi pins s σ H _ I h) λv s1 h1=>zk h1 λitv s2 h2=>?_) hs
 obtain ⟨it,fp,tn,J,H2,e,I2,T,st2,f2,W,⟨m0,w0⟩,turn⟩:=h2
 subst e
 have stat:∀ {H':Hp},(∀ b∈fp,H' b=none)->∀ b∈fp,yU X pins H' b:=λhn b hb=>⟨hn b hb,(f2 b hb).2⟩
 refine codeAny_forLoop_any (λn s'=>∃ i σ' H',zH X pins σ' H' s'/\tn i s'.heap/\(∀ b∈fp,H' b=none)/\W i n σ' H') ?_ m0 ⟨0,σ,H2,I2,st2,λb hb=>(f2 b hb).1,w0⟩
 rintro n s3 ⟨i,σ3,H3,I3,st3,fr3,w3⟩
 rcases turn i n σ3 H3 w3 with ⟨stop,qn⟩ | ⟨go,N,hN,step⟩
 ·refine wpAny_passesOwn hp (zk (T.done X rfl rfl rfl hc i pins s3 σ3 H3 X.xe I3 (stat fr3) st3 stop) λr s4 ⟨hr,I4⟩=>?_)
  subst hr
  exact wpAny_execs_nil ⟨σ3,H3,I4,qn⟩
 ·refine wpAny_passesOwn hp (zk (T.item X rfl rfl rfl hc i pins s3 σ3 H3 X.xe I3 (stat fr3) st3 go) λr s4 ⟨u,hr,h4⟩=>?_)
  subst hr
  refine wpAny_passesOwn hp (zk h4 λ_ s5 ⟨x,H5,I5,r5,y5,st5,fr5⟩=>?_)
  have I5':=I5.pinned (stat fr5) (T.obj _ _ st5)
  refine wpAny_passesOwn hp (zk (hg _ s5 σ3 H5 x u _ I5' r5 (step x H5 y5)) λ_ s6 ⟨σ6,H6,I6,q6⟩=>?_)
  refine wpAny_passesOwn hp (zk (hb _ s6 σ6 H6 _ I6 q6) λf s7 q7=>?_)
  have again:∀ {σ7:St} {H7:Hp},zH X (pins++gC fp s5.heap) σ7 H7 s7->N σ7 H7->∃ m,m < n/\∃ i σ' H',zH X pins σ' H' s7/\tn i s7.heap/\(∀ b∈fp,H' b=none)/\W i m σ' H':=λ{σ7 H7} I7 n7=>by
   obtain ⟨m',hm,w7⟩:=hN σ7 H7 n7
   refine ⟨m',hm,i + 1,σ7,H7,I7.unpinned,T.keep _ _ _ st5 λb hb o e=>(I7.pin (b,o) (List.mem_append_right _ (List.mem_append_right _ (jT hb e)))).1,λb hb=>?_,w7⟩
   obtain ⟨o,e,d⟩:=T.obj _ _ st5 b hb
   exact (I7.pin (b,o) (List.mem_append_right _ (List.mem_append_right _ (jT hb e)))).2.1
  cases f with
  | next=>obtain ⟨σ7,H7,I7,n7⟩:=q7; exact again I7 n7
  | cont=>obtain ⟨σ7,H7,I7,n7⟩:=q7; exact again I7 n7
  | brk=>obtain ⟨σ7,H7,I7,q7⟩:=q7; exact ⟨σ7,H7,I7.unpinned,q7⟩
  | ret v=>obtain ⟨x7,σ7,H7,I7,r7,q7⟩:=q7; exact ⟨x7,σ7,H7,I7.unpinned,r7,q7⟩
end
theorem Q6 {K:PySem.W.Frag} {a:Addr} {xs:List V} {g:TG} {tb:TS} {D:xg} {σ:St} {H:Hp} (Pv:Nat->St->Hp->Prop) (h0:Pv 0 σ H) (hl:∀ i σ H,i<=xs.length->Pv i σ H->zR K H a xs)
  (hs:∀ i x σ H,xs[i]? = some x->Pv i σ H->g x σ H λσ2 H2=>tb { D with nx:=Pv (i + 1),ct:=Pv (i + 1),bk:=D.nx } σ2 H2) (hd:∀ σ H,Pv xs.length σ H->D.nx σ H) :
  ∃ W:Nat->Nat->St->Hp->Prop,(∃ m,W 0 m σ H)/\∀ i m σ H,W i m σ H->
   ((jR K a).stop i H/\D.nx σ H)\/((jR K a).go i H/\∃ N:St->Hp->Prop,(∀ σ' H',N σ' H'->∃ m',m' < m/\W (i + 1) m' σ' H')/\∀ x H',(jR K a).yld i H x H'->g x σ H' λσ2 H2=>tb { D with nx:=N,ct:=N,bk:=D.nx } σ2 H2):=by
 refine ⟨λi m σ H=>m=xs.length - i/\i<=xs.length/\Pv i σ H,⟨xs.length,by simp,Nat.zero_le _,h0⟩,?_⟩
 rintro i m σ H ⟨rfl,hi,p⟩
 have q:=hl i σ H hi p
 by_cases hlt:i < xs.length
 ·refine .inr ⟨⟨xs,xs[i],q,by simp [hlt]⟩,Pv (i + 1),λσ' H' p'=>⟨xs.length - (i + 1),by omega,rfl,hlt,p'⟩,λx H' y=>?_⟩
  obtain ⟨e,y⟩:=y
  subst e
  exact hs i x σ _ (y xs q) p
 ·have e:i=xs.length:=by omega
  subst e
  exact .inl ⟨⟨xs,q,Nat.le_refl _⟩,hd σ H p⟩
theorem zMb {lo:Int} {n:Nat} {g:TG} {tb:TS} {D:xg} {σ:St} {H:Hp} (Pv:Nat->St->Hp->Prop) (h0:Pv 0 σ H)
  (hs:∀ i σ H,i < n->Pv i σ H->g (.int (lo + i)) σ H λσ2 H2=>tb { D with nx:=Pv (i + 1),ct:=Pv (i + 1),bk:=D.nx } σ2 H2) (hd:∀ σ H,Pv n σ H->D.nx σ H) :
  ∃ W:Nat->Nat->St->Hp->Prop,(∃ m,W 0 m σ H)/\∀ i m σ H,W i m σ H->
   ((jS lo n).stop i H/\D.nx σ H)\/((jS lo n).go i H/\∃ N:St->Hp->Prop,(∀ σ' H',N σ' H'->∃ m',m' < m/\W (i + 1) m' σ' H')/\∀ x H',(jS lo n).yld i H x H'->g x σ H' λσ2 H2=>tb { D with nx:=N,ct:=N,bk:=D.nx } σ2 H2):=by
 refine ⟨λi m σ H=>m=n - i/\i<=n/\Pv i σ H,⟨n,by simp,Nat.zero_le _,h0⟩,?_⟩
 rintro i m σ H ⟨rfl,hi,p⟩
 by_cases hlt:i < n
 ·refine .inr ⟨hlt,Pv (i + 1),λσ' H' p'=>⟨n - (i + 1),by omega,rfl,hlt,p'⟩,λx H' y=>?_⟩
  obtain ⟨e,y⟩:=y
  subst e y
  exact hs i σ _ hlt p
 ·have e:i=n:=by omega
  subst e
  exact .inl ⟨Nat.le_refl _,hd σ H p⟩
end L2
namespace L2
open PySem PySem.Spec PyProof.Rows
abbrev R2:=V->V->Hp->VK->Prop
def yw (X:Cx) (f:Value->Value->Sem Value) (r:R2):Prop:=
 ∀ (pins:List (Addr × Obj)) (s:Shared) (σ:St) (H:Hp) (x y:V) (v u:Value) (Q:VK),zH X pins σ H s->zU x v->zU y u->r x y H Q->
  wpAny (model X.prog X.w) X.A (f v u) (EP X pins σ Q) X.xe s
def UG (X:Cx) (f:Value->Sem Value) (r:V->Hp->VK->Prop):Prop:=
 ∀ (pins:List (Addr × Obj)) (s:Shared) (σ:St) (H:Hp) (x:V) (v:Value) (Q:VK),zH X pins σ H s->zU x v->r x H Q->
  wpAny (model X.prog X.w) X.A (f v) (EP X pins σ Q) X.xe s
def vL (X:Cx) (f:Value) (r:List V->Hp->VK->Prop):Prop:=
 ∀ (pins:List (Addr × Obj)) (s:Shared) (σ:St) (H:Hp) (xs:List V) (us:List Value) (Q:VK),zH X pins σ H s->zM xs us->r xs H Q->
  wpAny (model X.prog X.w) X.A (call f us) (EP X pins σ Q) X.xe s
def kO (r:R2) (ta tb:TE):TE:=λσ H Q=>ta σ H λx H1=>tb σ H1 λy H2=>r x y H2 Q
def tUn (r:V->Hp->VK->Prop) (ta:TE):TE:=λσ H Q=>ta σ H λx H1=>r x H1 Q
def rI (C:Int->Int->Prop) (g:Int->Int->V):R2:=λx y H Q=>∃ i j,x=.int i/\y=.int j/\C i j/\Q (g i j) H
def uE (g:Int->Int->V):R2:=λx y H Q=>∃ i j,x=.int i/\y=.int j/\Q (g i j) H
def rU (g:Int->V):V->Hp->VK->Prop:=λx H Q=>∃ i,x=.int i/\Q (g i) H
section
variable {X:Cx} {a b c:Expr} {ta tb tc:TE} {pos:Pos}
theorem ju (ha:PE X a ta) (hb:PE X b tb) {pins:List (Addr × Obj)} {s:Shared} {σ:St} {H:Hp} {R:V->V->Hp->Prop} (I:zH X pins σ H s)
  (h:ta σ H λx H1=>tb σ H1 λy H2=>R x y H2) {Q:Value->Shared->Prop} {f:Value->Value->Sem Value}
  (hf:∀ v u s2 x y H2,zH X pins σ H2 s2->zU x v->zU y u->R x y H2->wpAny (model X.prog X.w) X.A (f v u) Q X.xe s2) :
  wpAny (model X.prog X.w) X.A (eval a X.env) (λv s₁=>wpAny (model X.prog X.w) X.A (eval b X.env) (λu s₂=>wpAny (model X.prog X.w) X.A (f v u) Q X.xe s₂) X.xe s₁) X.xe s:=by
 refine zk (ha pins s σ H _ I h) λv s1 ⟨x,H1,I1,r1,q1⟩=>?_
 refine zk (hb pins s1 σ H1 _ I1 q1) λu s2 ⟨y,H2,I2,r2,q2⟩=>?_
 exact hf v u s2 x y H2 I2 r1 r2 q2
theorem vH {op:Operator} {r:R2} (ho:yw X (binaryOp op) r) (ha:PE X a ta) (hb:PE X b tb):PE X (.BinOp a op b pos) (kO r ta tb):=by
 intro pins s σ H Q I h
 exact wpAny_BinOp (ju ha hb I h λv u s2 x y H2 I2 rx ry q=>ho pins s2 σ H2 x y v u Q I2 rx ry q)
theorem kP {op:UnaryOp} {r:V->Hp->VK->Prop} (ho:UG X (unaryOp op) r) (ha:PE X a ta):PE X (.UnaryOp op a pos) (tUn r ta):=by
 intro pins s σ H Q I h
 exact UnaryOp_ (zk (ha pins s σ H _ I h) λv s1 ⟨x,H1,I1,r1,q1⟩=>ho pins s1 σ H1 x v Q I1 r1 q1)
theorem Y9 {f:Value->Value->Sem Value} {C:Int->Int->Prop} {g:Int->Int->Int}
  (rule:∀ (i j:Int) (t u:Tok) (s:Shared) (Q:Value->Shared->Prop) (E:Value->Shared->Prop),C i j->Q (.int (g i j) s.toks) { s with toks:=s.toks + 1 }->wpAny (model X.prog X.w) X.A (f (.int i t) (.int j u)) Q E s) :
  yw X f (rI C λi j=>.int (g i j)):=by
 intro pins s σ H x y v u Q I rx ry h
 obtain ⟨i,j,rfl,rfl,hc,q⟩:=h
 obtain ⟨t,rfl⟩:=rx
 obtain ⟨t',rfl⟩:=ry
 exact rule i j t t' s _ _ hc ⟨.int (g i j),H,I.tok _,⟨_,rfl⟩,q⟩
theorem kR {f:Value->Value->Sem Value} {g:Int->Int->Int}
  (rule:∀ (i j:Int) (t u:Tok) (s:Shared) (Q:Value->Shared->Prop) (E:Value->Shared->Prop),Q (.int (g i j) s.toks) { s with toks:=s.toks + 1 }->wpAny (model X.prog X.w) X.A (f (.int i t) (.int j u)) Q E s) :
  yw X f (uE λi j=>.int (g i j)):=by
 intro pins s σ H x y v u Q I rx ry h
 obtain ⟨i,j,rfl,rfl,q⟩:=h
 obtain ⟨t,rfl⟩:=rx
 obtain ⟨t',rfl⟩:=ry
 exact rule i j t t' s _ _ ⟨.int (g i j),H,I.tok _,⟨_,rfl⟩,q⟩
theorem uw {f:Value->Value->Sem Value} {g:Int->Int->Bool}
  (rule:∀ (i j:Int) (t u:Tok) (s:Shared) (Q:Value->Shared->Prop) (E:Value->Shared->Prop),Q (.bool (g i j)) s->wpAny (model X.prog X.w) X.A (f (.int i t) (.int j u)) Q E s) :
  yw X f (uE λi j=>.bl (g i j)):=by
 intro pins s σ H x y v u Q I rx ry h
 obtain ⟨i,j,rfl,rfl,q⟩:=h
 obtain ⟨t,rfl⟩:=rx
 obtain ⟨t',rfl⟩:=ry
 exact rule i j t t' s _ _ ⟨.bl (g i j),H,I,rfl,q⟩
def jw (i j:Int):Prop:=0<=j/\j<=1000000/\i.natAbs < 2 ^ 64
theorem kS:yw X (binaryOp .Add) (uE λi j=>.int (i + j)):=kR λ_ _ _ _ _ _ _ q=>add_int q
theorem XA:yw X (binaryOp .Sub) (uE λi j=>.int (i - j)):=kR λ_ _ _ _ _ _ _ q=>sub_int q
theorem XB:yw X (binaryOp .Mod) (rI (λ_ j=>j≠0) λi j=>.int (i.fmod j)):=Y9 λ_ _ _ _ _ _ _ hc q=>mod_int' hc q
theorem zQ2:yw X (binaryOp .Pow) (rI jw λi j=>.int (i ^ j.toNat)):=Y9 λ_ _ _ _ _ _ _ hc q=>pow_int_small hc.1 hc.2.1 hc.2.2 q
theorem unI {f:Value->Sem Value} {g:Int->Int}
  (rule:∀ (i:Int) (t:Tok) (s:Shared) (Q:Value->Shared->Prop) (E:Value->Shared->Prop),Q (.int (g i) s.toks) { s with toks:=s.toks + 1 }->wpAny (model X.prog X.w) X.A (f (.int i t)) Q E s) :
  UG X f (rU λi=>.int (g i)):=by
 intro pins s σ H x v Q I rx h
 obtain ⟨i,rfl,q⟩:=h
 obtain ⟨t,rfl⟩:=rx
 exact rule i t s _ _ ⟨.int (g i),H,I.tok _,⟨_,rfl⟩,q⟩
theorem zQF:UG X (unaryOp .USub) (rU λi=>.int (-i)):=unI λ_ _ _ _ _ q=>neg_int q
end
def kT:V->V->Bool
 | .non,.non=>true | .non,.int _=>true | .int _,.non=>true | .non,.bl _=>true | .bl _,.non=>true | .non,.str _=>true | .str _,.non=>true
 | .int _,.int _=>true | .bl _,.bl _=>true | .str _,.str _=>true | .byt _,.byt _=>true
 | .int _,.str _=>true | .str _,.int _=>true | .bl _,.str _=>true | .str _,.bl _=>true
 | _,_=>false
def Q7:R2:=λx y H Q=>kT x y=true/\Q (.bl (decide (x=y))) H
def Q8:R2:=λx y H Q=>kT x y=true/\Q (.bl (!decide (x=y))) H
theorem XC {i j:Int}:decide (V.int i=V.int j)=(i == j):=by
 rw [Bool.eq_iff_iff]
 simp
theorem XD {i j:Bool}:decide (V.bl i=V.bl j)=(i == j):=by
 rw [Bool.eq_iff_iff]
 simp
theorem Q9 {i j:Str}:decide (V.str i=V.str j)=(i == j):=by
 rw [Bool.eq_iff_iff]
 simp
theorem KA {i j:Array UInt8}:decide (V.byt i=V.byt j)=(i.toList == j.toList):=by
 rw [Bool.eq_iff_iff]
 cases i
 cases j
 simp
section
variable {X:Cx} {a b c:Expr} {ta tb tc:TE} {pos:Pos}
theorem xD {pins:List (Addr × Obj)} {σ:St} {H:Hp} {s:Shared} {Q:VK} {k k':Bool} (I:zH X pins σ H s) (q:Q (.bl k) H) (e:k=k'):EP X pins σ Q (.bool k') s:=by
 subst e
 exact ⟨.bl k,H,I,rfl,q⟩
theorem kU:yw X (compareOp .Eq) Q7:=by
 intro pins s σ H x y v u Q I rx ry h
 obtain ⟨hs,q⟩:=h
 cases x with
 | non=>
  cases rx
  cases y with
  | non=>cases ry; exact PySem.EqNone.eq_none_none (xD I q (by simp))
  | bl j=>cases ry; exact PySem.EqNone.eq_none_bool (xD I q (by simp))
  | int j=>obtain ⟨t',rfl⟩:=ry; exact PySem.EqNone.eq_none_int (xD I q (by simp))
  | str j=>obtain ⟨t',rfl⟩:=ry; exact PySem.EqNone.eq_none_str (xD I q (by simp))
  | _=>exact absurd (show false=true from hs) Bool.false_ne_true
 | bl i=>
  cases rx
  cases y with
  | non=>cases ry; exact PySem.EqNone.eq_bool_none (xD I q (by simp))
  | bl j=>cases ry; exact eq_bool (xD I q XD)
  | str j=>obtain ⟨t',rfl⟩:=ry; exact PySem.EqMixed.eq_bool_str (xD I q (by simp))
  | _=>exact absurd (show false=true from hs) Bool.false_ne_true
 | int i=>
  obtain ⟨t,rfl⟩:=rx
  cases y with
  | non=>cases ry; exact PySem.EqNone.eq_int_none (xD I q (by simp))
  | int j=>obtain ⟨t',rfl⟩:=ry; exact eq_int (xD I q XC)
  | str j=>obtain ⟨t',rfl⟩:=ry; exact PySem.EqMixed.eq_int_str (xD I q (by simp))
  | _=>exact absurd (show false=true from hs) Bool.false_ne_true
 | str i=>
  obtain ⟨t,rfl⟩:=rx
  cases y with
  | non=>cases ry; exact PySem.EqNone.eq_str_none (xD I q (by simp))
  | bl j=>cases ry; exact PySem.EqMixed.eq_str_bool (xD I q (by simp))
  | int j=>obtain ⟨t',rfl⟩:=ry; exact PySem.EqMixed.eq_str_int (xD I q (by simp))
  | str j=>obtain ⟨t',rfl⟩:=ry; exact eq_str (xD I q Q9)
  | _=>exact absurd (show false=true from hs) Bool.false_ne_true
 | byt i=>
  obtain ⟨t,rfl⟩:=rx
  cases y with
  | byt j=>obtain ⟨t',rfl⟩:=ry; exact PySem.W.eq_bytes (xD I q KA)
  | _=>exact absurd (show false=true from hs) Bool.false_ne_true
 | _=>cases y <;> exact absurd (show false=true from hs) Bool.false_ne_true
theorem kW:yw X (compareOp .NotEq) Q8:=by
 intro pins s σ H x y v u Q I rx ry h
 obtain ⟨hs,q⟩:=h
 cases x with
 | non=>
  cases rx
  cases y with
  | non=>cases ry; exact PySem.EqNone.ne_none_none (xD I q (by simp))
  | bl j=>cases ry; exact PySem.EqNone.ne_none_bool (xD I q (by simp))
  | int j=>obtain ⟨t',rfl⟩:=ry; exact PySem.EqNone.ne_none_int (xD I q (by simp))
  | str j=>obtain ⟨t',rfl⟩:=ry; exact PySem.EqNone.ne_none_str (xD I q (by simp))
  | _=>exact absurd (show false=true from hs) Bool.false_ne_true
 | bl i=>
  cases rx
  cases y with
  | non=>cases ry; exact PySem.EqNone.ne_bool_none (xD I q (by simp))
  | bl j=>cases ry; exact ne_bool (xD I q (congrArg not XD))
  | str j=>obtain ⟨t',rfl⟩:=ry; exact PySem.EqMixed.ne_bool_str (xD I q (by simp))
  | _=>exact absurd (show false=true from hs) Bool.false_ne_true
 | int i=>
  obtain ⟨t,rfl⟩:=rx
  cases y with
  | non=>cases ry; exact PySem.EqNone.ne_int_none (xD I q (by simp))
  | int j=>obtain ⟨t',rfl⟩:=ry; exact ne_int (xD I q (congrArg not XC))
  | str j=>obtain ⟨t',rfl⟩:=ry; exact PySem.EqMixed.ne_int_str (xD I q (by simp))
  | _=>exact absurd (show false=true from hs) Bool.false_ne_true
 | str i=>
  obtain ⟨t,rfl⟩:=rx
  cases y with
  | non=>cases ry; exact PySem.EqNone.ne_str_none (xD I q (by simp))
  | bl j=>cases ry; exact PySem.EqMixed.ne_str_bool (xD I q (by simp))
  | int j=>obtain ⟨t',rfl⟩:=ry; exact PySem.EqMixed.ne_str_int (xD I q (by simp))
  | str j=>obtain ⟨t',rfl⟩:=ry; exact ne_str (xD I q (congrArg not Q9))
  | _=>exact absurd (show false=true from hs) Bool.false_ne_true
 | byt i=>
  obtain ⟨t,rfl⟩:=rx
  cases y with
  | byt j=>obtain ⟨t',rfl⟩:=ry; exact PySem.W.ne_bytes (xD I q (congrArg not KA))
  | _=>exact absurd (show false=true from hs) Bool.false_ne_true
 | _=>cases y <;> exact absurd (show false=true from hs) Bool.false_ne_true
theorem KB:yw X (compareOp .Lt) (uE λi j=>.bl (decide (i < j))):=uw λ_ _ _ _ _ _ _ q=>lt_int q
theorem kX:yw X (compareOp .LtE) (uE λi j=>.bl (decide (i<=j))):=uw λ_ _ _ _ _ _ _ q=>le_int q
theorem kY:yw X (compareOp .Gt) (uE λi j=>.bl (decide (j < i))):=uw λ_ _ _ _ _ _ _ q=>gt_int q
theorem KC:yw X (compareOp .GtE) (uE λi j=>.bl (decide (j<=i))):=uw λ_ _ _ _ _ _ _ q=>ge_int q
def isObj:HO->Bool
 | .lst _=>true
 | .ins _ _ _=>true
 | _=>false
theorem yw.or {f:Value->Value->Sem Value} {r r':R2} (h:yw X f r) (h':yw X f r'):yw X f (λx y H Q=>r x y H Q\/r' x y H Q):=by
 intro pins s σ H x y v u Q I rx ry q
 rcases q with q | q
 ·exact h pins s σ H x y v u Q I rx ry q
 ·exact h' pins s σ H x y v u Q I rx ry q
theorem vy (b:Expr) {op:CmpOp} (h:op≠.In:=by decide) (h2:op≠.NotIn:=by decide):behindInMarks op b=false:=by
 have e1:(op == CmpOp.In)=false:=by cases op <;> first | rfl | exact absurd rfl h
 have e2:(op == CmpOp.NotIn)=false:=by cases op <;> first | rfl | exact absurd rfl h2
 cases b <;> simp [behindInMarks,e1,e2]
theorem UH {op:CmpOp} {r:R2} (ho:yw X (compareOp op) r) (ha:PE X a ta) (hb:PE X b tb) (hm:behindInMarks op b=false):PE X (.Compare a [op] [b] pos) (kO r ta tb):=by
 intro pins s σ H Q I h
 exact wpAny_Compare1 (ju ha hb I h λv u s2 x y H2 I2 rx ry q=>ho pins s2 σ H2 x y v u Q I2 rx ry q) hm
def KD (t:TE):TT:=λσ H Q=>t σ H λx H'=>∃ k,x=.bl k/\Q k H'
theorem KE {op:CmpOp} {r:R2} (ho:yw X (compareOp op) r) (ha:PE X a ta) (hb:PE X b tb) (hm:behindInMarks op b=false):PT X (.Compare a [op] [b] pos) (KD (kO r ta tb)):=by
 intro pins s σ H Q I h
 refine wpAny_isTrue_Compare1 (zk (ha pins s σ H _ I h) λv s1 ⟨x,H1,I1,r1,q1⟩=>zk (hb pins s1 σ H1 _ I1 q1) λu s2 ⟨y,H2,I2,r2,q2⟩=>
  zk (ho pins s2 σ H2 x y v u _ I2 r1 r2 q2) λc s3 ⟨z,H3,I3,r3,k,e,q3⟩=>?_) hm
 subst e
 cases r3
 exact wpAny_truthy_bool ⟨H3,I3,q3⟩
theorem XE:(sizeLine:Nat) < 2 ^ 63:=by rw [sizeLine_eq]; decide
theorem ux {x:V} {us:List Value} (r:zM [x] us):∃ u,us=[u]/\zU x u:=by
 cases r with
 | cons r1 r2=>cases r2; exact ⟨_,rfl,r1⟩
theorem gD {x y:V} {us:List Value} (r:zM [x,y] us):∃ u w',us=[u,w']/\zU x u/\zU y w':=by
 cases r with
 | cons r1 r2=>
  cases r2 with
  | cons r3 r4=>cases r4; exact ⟨_,_,rfl,r1,r3⟩
theorem XF (hc:X.calm=true):vL X (.builtin "max") (λxs H Q=>∃ i j,xs=[.int i,.int j]/\Q (.int (if j > i then j else i)) H):=by
 intro pins s σ H xs us Q I r h
 obtain ⟨i,j,rfl,q⟩:=h
 obtain ⟨u,w',rfl,⟨t,rfl⟩,⟨t',rfl⟩⟩:=gD r
 refine max_two_ints (I.ok.hd hc) λh' tk k=>⟨_,H,I.kept k,?_,q⟩
 by_cases hj:j > i
 ·rw [if_pos hj,if_pos hj]; exact ⟨_,rfl⟩
 ·rw [if_neg hj,if_neg hj]; exact ⟨_,rfl⟩
theorem KF (hc:X.calm=true):vL X (.builtin "min") (λxs H Q=>∃ i j,xs=[.int i,.int j]/\Q (.int (if j < i then j else i)) H):=by
 intro pins s σ H xs us Q I r h
 obtain ⟨i,j,rfl,q⟩:=h
 obtain ⟨u,w',rfl,⟨t,rfl⟩,⟨t',rfl⟩⟩:=gD r
 refine min_two_ints (I.ok.hd hc) λh' tk k=>⟨_,H,I.kept k,?_,q⟩
 by_cases hj:j < i
 ·rw [if_pos hj,if_pos hj]; exact ⟨_,rfl⟩
 ·rw [if_neg hj,if_neg hj]; exact ⟨_,rfl⟩
theorem XG:vL X (.type "int") (λxs H Q=>(∃ i,xs=[.int i]/\Q (.int i) H)\/∃ k,xs=[.bl k]/\Q (.int (if k then 1 else 0)) H):=by
 intro pins s σ H xs us Q I r h
 rcases h with ⟨i,rfl,q⟩ | ⟨k,rfl,q⟩
 ·obtain ⟨u,rfl,t,rfl⟩:=ux r
  exact call_int_int ⟨.int i,H,I,⟨_,rfl⟩,q⟩
 ·obtain ⟨u,rfl,r1⟩:=ux r
  cases r1
  exact call_int_bool ⟨.int (if k then 1 else 0),H,I.tok _,⟨_,rfl⟩,q⟩
end
end L2
namespace L2
open PySem PySem.Spec PyProof.Rows
structure vM (h:Heap) (x dx C:Addr) (mA:Str->Option Value):Prop where
 obj:h.get? x=some (PySem.W.instObj C dx)
 ns:h.Ns1 dx mA
 ne:dx≠x
theorem zMS {h:Heap} {dx:Addr} {mA:Str->Option Value} (n:h.Ns1 dx mA):∃ od,h.get? dx=some od/\∀ name,PySem.W.lookIn name od=some (mA name):=by
 obtain ⟨o,es,ep,ho,hd,hk,_,hm⟩:=n
 refine ⟨o,ho,λname=>?_⟩
 have e:=hm name
 unfold nsFind findBy at e
 rw [<- Array.find?_toList] at e
 unfold PySem.W.lookIn
 rw [hd]
 dsimp only
 split
 ·rename_i y q
  rw [q] at e
  exact congrArg some e
 ·rename_i q
  rw [q] at e
  have a:es.toList.any (·.refKey)=false:=by
   rw [List.any_eq_false]
   intro y hy
   obtain ⟨z,t,hkey⟩:=hk y (Array.mem_toList_iff.mp hy)
   simp [DictEntry.refKey,hkey]
  have a':¬ es.toList.any (·.refKey)=true:=by rw [a]; exact Bool.false_ne_true
  rw [if_neg a']
  exact congrArg some e
theorem vM.look {h:Heap} {x dx C:Addr} {mA:Str->Option Value} (I:vM h x dx C mA):∃ od,PySem.W.InstAt h x (PySem.W.instObj C dx) C (some od)/\∀ name,PySem.W.lookIn name od=some (mA name):=
 let ⟨od,ho,hl⟩:=zMS I.ns
 ⟨od,⟨I.obj,rfl,rfl,ho⟩,hl⟩
section
variable {prog:Program} {w:World} {A:Around} {E:Value->Shared->Prop} {s:Shared} {K:PySem.W.Frag} {x dx C f:Addr} {mA:Str->Option Value} {name:Str} {v:Value}
theorem zPu {expr:Bool} {Q:Value->Shared->Prop} (X:K.In s.heap) (I:vM s.heap x dx C mA) (hg:PySem.W.plainGet K C name=true) (hh:PySem.W.hasDictIn K C=true)
  (ha:PySem.W.findIn K (.ref C) name=some none) (hv:mA name=some v) (hv':PySem.W.handedIn v=true) (h:Q v { s with toks:=s.toks + 1 }) :
  wpAny (model prog w) A (getAttr (.ref x) name expr) Q E s:=by
 obtain ⟨od,J,hl⟩:=I.look
 exact PySem.W.get_value X J (PySem.W.plainGet_of hg).1 (PySem.W.findObj_own hh ha rfl (by rw [hl,hv])) hv' h
theorem zOJ {pl:Sem Bool} {Q:Value × List Value->Shared->Prop} (X:K.In s.heap) (I:vM s.heap x dx C mA) (hg:PySem.W.plainGet K C name=true)
  (hf:PySem.W.findIn K (.ref C) name=some (some (.ref f))) (ht:PySem.W.isFn K (.ref f)=true) (hv:mA name=none) (h:Q (.ref f,[.ref x]) s) :
  wpAny (model prog w) A (getMethod (.ref x) name pl) Q E s:=by
 obtain ⟨od,J,hl⟩:=I.look
 exact PySem.W.method_fn X J (PySem.W.plainGet_of hg).1 (PySem.W.plainGet_of hg).2 hf (beq_iff_eq.mp ht) (by show (PySem.W.lookIn name od).map (·.isSome)=some false; rw [hl,hv]; rfl) h
theorem zPN {ns:List Str} {Q:Unit->Shared->Prop} (X:K.In s.heap) (I:vM s.heap x dx C mA)
  (hs:PySem.W.findIn K (.ref C) "__setattr__" = some (some (.builtin "object.__setattr__"))) (hp:PySem.W.plainOver K C=true) (ht:PySem.W.takerIn K C name=some none) (hh:PySem.W.hasDictIn K C=true)
  (hw:PySem.Within mA ns) (hsz:ns.length<=sizeLine)
  (h:∀ h',vM h' x dx C (λy=>if y=name then some v else mA y)->Heap.SameBut dx s.heap h'->Q () { s with heap:=h',toks:=s.toks + 2 }) :
  wpAny (model prog w) A (setAttr (.ref x) name v) Q E s:=by
 obtain ⟨od,J,hl⟩:=I.look
 refine PySem.W.set_plain X J hs (PySem.W.osa_open (s:={ s with toks:=s.toks + 1 }) (r:=none) X J hp ht λb=>?_)
 obtain ⟨cd,hc,hd'⟩:=PySem.W.any_some hh
 have hx:s.heap.get? x=some ⟨.ref C,some dx,.plain,#[]⟩:=I.obj
 refine wpAny_bind (wpAny_pure (wpAny_bind (wpAny_bind (wpAny_loadPart hx (wpAny_bind (PySem.W.Looks.here (s:={ s with toks:=s.toks + 1 }) (PySem.W.looks_clsIn X hc) ?_))))))
 rw [hd']
 refine wpAny_pure (a:=some dx) (wpAny_bind (wpAny_pure (wpAny_bind ?_)))
 refine wpAny_nsSet1 (s:={ s with toks:=s.toks + 1 }) I.ns λh' hn2 hs2=>?_
 obtain ⟨oD,esD,epD,hoD,hdD,hcD⟩:=hn2.count (PySem.Within.cons name v hw)
 refine wpAny_bind (wpAny_lookBehind hoD (by rw [hdD]; exact pastItsLine_dict (Nat.le_trans hcD (by rw [List.length_cons]; omega))) ?_)
 exact wpAny_pure (h _ ⟨(hs2.2 _ (Ne.symm I.ne)).trans I.obj,hn2,I.ne⟩ hs2)
theorem zOB {R:Result->Shared->Prop} {vs:List Value} {kw:List (Str × Value)} (X:K.In s.heap) (hm:PySem.W.makesIn K C=true)
  (hi:PySem.W.findIn K (.ref C) "__init__" = some (some (.ref f))) (hf:PySem.W.typeIn K (.ref f)=some (.type "function"))
  (h:codeAny (model prog w) (A.under (.builtin "type.__call__" ⟨.ref C :: vs,kw⟩)) (.call (.ref f) ⟨.ref (s.heap.objs.size + 1) :: vs,kw⟩) (PySem.W.InitBack (s.heap.objs.size + 1) R)
   { s with heap:=(s.heap.push PySem.W.emptyDict).push (PySem.W.instObj C s.heap.objs.size) }) :
  codeAny (model prog w) A (.call (.ref C) ⟨vs,kw⟩) R s:=by
 obtain ⟨hh,g,d,t,os⟩:=s
 exact PySem.W.make_core (PySem.W.makes_of X hm) (PySem.W.looks_findIn X hi) (λself=>PySem.W.bind_fn X self hf) (.inl rfl) h
end
def ye (f:Str) (v:V):List (Str × V)->List (Str × V)
 | []=>[(f,v)]
 | (g,x) :: r=>if g=f then (g,v) :: r else (g,x) :: ye f v r
theorem KG (f g:Str) (v:V):∀ fs:List (Str × V),(ye f v fs).lookup g=if g=f then some v else fs.lookup g
 | []=>by
  show List.lookup g [(f,v)]=_
  by_cases h:g=f
  ·have hb:(g == f)=true:=beq_iff_eq.mpr h
   simp only [List.lookup,hb,if_pos h]
  ·have hb:(g == f)=false:=beq_eq_false_iff_ne.mpr h
   simp only [List.lookup,hb,if_neg h]
 | (k,x) :: r=>by
  have ih:=KG f g v r
  rw [show ye f v ((k,x) :: r)=(if k=f then (k,v) :: r else (k,x) :: ye f v r) from rfl]
  by_cases hk:k=f
  ·rw [if_pos hk]
   by_cases h:g=k
   ·have hb:(g == k)=true:=beq_iff_eq.mpr h
    simp only [List.lookup,hb,if_pos (h.trans hk)]
   ·have hb:(g == k)=false:=beq_eq_false_iff_ne.mpr h
    simp only [List.lookup,hb,if_neg (λe:g=f=>h (e.trans hk.symm))]
  ·rw [if_neg hk]
   by_cases h:g=k
   ·have hb:(g == k)=true:=beq_iff_eq.mpr h
    simp only [List.lookup,hb,if_neg (λe:g=f=>hk (h.symm.trans e))]
   ·have hb:(g == k)=false:=beq_eq_false_iff_ne.mpr h
    simp only [List.lookup,hb]
    exact ih
theorem UI (f:Str) (v:V):∀ fs:List (Str × V),f∈(ye f v fs).map (·.1)/\∀ g,g∈fs.map (·.1)->g∈(ye f v fs).map (·.1)
 | []=>⟨by simp [ye],λg h=>by simp at h⟩
 | (k,x) :: r=>by
  obtain ⟨i1,i2⟩:=UI f v r
  rw [show ye f v ((k,x) :: r)=(if k=f then (k,v) :: r else (k,x) :: ye f v r) from rfl]
  by_cases hk:k=f
  ·rw [if_pos hk]
   subst hk
   exact ⟨by simp,λg h=>by simpa using h⟩
  ·rw [if_neg hk]
   refine ⟨?_,λg h=>?_⟩
   ·rw [List.map_cons]
    exact List.mem_cons_of_mem _ i1
   ·rw [List.map_cons] at h |-
    rcases List.mem_cons.mp h with e | e
    ·exact List.mem_cons.mpr (.inl e)
    ·exact List.mem_cons_of_mem _ (i2 g e)
theorem KH (f:Str) (v:V):∀ fs:List (Str × V),(ye f v fs).length<=fs.length + 1
 | []=>by simp [ye]
 | (k,x) :: r=>by
  have ih:=KH f v r
  rw [show ye f v ((k,x) :: r)=(if k=f then (k,v) :: r else (k,x) :: ye f v r) from rfl]
  by_cases hk:k=f
  ·rw [if_pos hk,List.length_cons,List.length_cons]; omega
  ·rw [if_neg hk,List.length_cons,List.length_cons]; omega
theorem xw.some_of {v:V} {o:Option Value} (r:xw (some v) o):∃ u,o=some u/\zU v u:=by
 cases o with
 | none=>exact (show False from r).elim
 | some u=>exact ⟨u,rfl,r⟩
theorem xw.none_of {o:Option Value} (r:xw none o):o=none:=by
 cases o with
 | none=>rfl
 | some u=>exact (show False from r).elim
theorem zMY {v:V} {u:Value} (r:zU v u):PySem.W.handedIn u=true:=by
 cases v with
 | non=>cases (show u=Value.none from r); rfl
 | bl b=>cases (show u=Value.bool b from r); rfl
 | int i=>obtain ⟨t,e⟩:=(show ∃ t,u=Value.int i t from r); cases e; rfl
 | str x=>obtain ⟨t,e⟩:=(show ∃ t,u=Value.str x t from r); cases e; rfl
 | byt b=>obtain ⟨t,e⟩:=(show ∃ t,u=Value.bytes b t from r); cases e; rfl
 | flt b=>obtain ⟨t,e⟩:=(show ∃ t,u=Value.float b t from r); cases e; rfl
 | ref a=>cases (show u=Value.ref a from r); rfl
 | ty n=>cases (show u=Value.type n from r); rfl
section
variable {P:Program} {w:World} {H H':Hp} {h h':Heap} {a C dx:Addr} {fs fs':List (Str × V)}
theorem XH (hok:xL P w H h) (e:H a=some (.ins C dx fs)):∃ mA,vM h a dx C mA/\(∀ f,xw (fs.lookup f) (mA f))/\PySem.Within mA (fs.map (·.1))/\fs.length<=1000/\H dx=some (.own a):=by
 obtain ⟨d,z,ne,ob,mA,n,r,q⟩:=(show wD P w H h a (.ins C dx fs) from hok a _ e)
 exact ⟨mA,⟨ob,n,ne⟩,r,q,z,d⟩
end
structure uW (K:PySem.W.Frag) (C:Addr):Prop where
 pg:PySem.W.plainGet K C Str.empty=true
 hd:PySem.W.hasDictIn K C=true
 po:PySem.W.plainOver K C=true
 sa:PySem.W.findIn K (.ref C) "__setattr__" = some (some (.builtin "object.__setattr__"))
theorem uW.get {K:PySem.W.Frag} {C:Addr} (c:uW K C) (f:Str):PySem.W.plainGet K C f=true:=c.pg
def yp (K:PySem.W.Frag) (C:Addr) (f:Str):Prop:=PySem.W.findIn K (.ref C) f=some none
theorem yp.taker {K:PySem.W.Frag} {C:Addr} {f:Str} (n:yp K C f):PySem.W.takerIn K C f=some none:=by
 unfold PySem.W.takerIn
 rw [show PySem.W.findIn K (.ref C) f=some none from n]
 rfl
structure jx (K:PySem.W.Frag) (C:Addr) (m:Str) (f:Addr):Prop where
 at_:PySem.W.findIn K (.ref C) m=some (some (.ref f))
 fn:PySem.W.isFn K (.ref f)=true
 kp:PySem.W.keepIn K (.ref f)=true
section
variable {X:Cx} {pins:List (Addr × Obj)} {σ:St} {H:Hp} {s:Shared} {a C dx:Addr} {fs:List (Str × V)} {f:Str} {v:V} {A:Around} {E:Value->Shared->Prop}
theorem zK5 {b:Bool} {Q:Value->Shared->Prop} (I:zH X pins σ H s) (e:H a=some (.ins C dx fs)) (c:uW X.K C) (n:yp X.K C f) (l:fs.lookup f=some v)
  (h:∀ u s',zH X pins σ H s'->zU v u->Q u s'):wpAny (model X.prog X.w) A (getAttr (.ref a) f b) Q E s:=by
 obtain ⟨mA,O,r,_,_,_⟩:=XH I.hok e
 obtain ⟨u,hu,ru⟩:=xw.some_of (v:=v) (o:=mA f) (by rw [<- l]; exact r f)
 exact zPu I.kIn O (c.get f) c.hd n hu (zMY ru) (h u _ (I.tok _) ru)
theorem zK4 {m:Str} {g:Addr} {pl:Sem Bool} {Q:Value × List Value->Shared->Prop} (I:zH X pins σ H s) (e:H a=some (.ins C dx fs)) (c:uW X.K C) (k:jx X.K C m g) (l:fs.lookup m=none)
  (h:Q (.ref g,[.ref a]) s):wpAny (model X.prog X.w) A (getMethod (.ref a) m pl) Q E s:=by
 obtain ⟨mA,O,r,_,_,_⟩:=XH I.hok e
 have hn:mA m=none:=xw.none_of (by rw [<- l]; exact r m)
 exact zOJ I.kIn O (c.get m) k.at_ k.fn hn h
theorem zKc {y:V} {u:Value} {Q:Unit->Shared->Prop} (I:zH X pins σ H s) (e:H a=some (.ins C dx fs)) (c:uW X.K C) (n:yp X.K C f) (hl:fs.length < 1000) (ry:zU y u)
  (h:∀ s',zH X pins σ (zW H a (.ins C dx (ye f y fs))) s'->Q () s'):wpAny (model X.prog X.w) A (setAttr (.ref a) f u) Q E s:=by
 obtain ⟨mA,O,r,wi,_,ho⟩:=XH I.hok e
 have hz:(fs.map (·.1)).length<=sizeLine:=by rw [List.length_map,sizeLine_eq]; omega
 refine zPN I.kIn O c.sa c.po n.taker c.hd wi hz λh' O' sb=>h _ ?_
 have hd:∃ o,h'.get? dx=some o:=let ⟨o,_,_,e',_⟩:=O'.ns; ⟨o,e'⟩
 refine I.write (x:=a) (e:=dx) (by rw [e]; exact True.intro) (.inr ho) (λb q hb z=>(sb.2 b hb).trans z) hd ?_
 refine ⟨by rw [zt O.ne]; exact ho,?_,O.ne,O'.obj,_,O'.ns,λg=>?_,λg hg=>?_⟩
 ·have:=KH f y fs; omega
 ·show xw ((ye f y fs).lookup g) (if g=f then some u else mA g)
  rw [KG]
  by_cases q:g=f
  ·rw [if_pos q,if_pos q]; exact ry
  ·rw [if_neg q,if_neg q]; exact r g
 ·by_cases q:g=f
  ·rw [q]; exact (UI f y fs).1
  ·refine (UI f y fs).2 g (wi g λz=>hg ?_)
   show (if g=f then some u else mA g)=none
   rw [if_neg q]; exact z
theorem zH.made (I:zH X pins σ H s):zH X pins σ (zW (zW H s.heap.objs.size (.own (s.heap.objs.size + 1))) (s.heap.objs.size + 1) (.ins C s.heap.objs.size []))
  { s with heap:=(s.heap.push PySem.W.emptyDict).push (PySem.W.instObj C s.heap.objs.size) }:=by
 have e1:(s.heap.push PySem.W.emptyDict).get? s.heap.objs.size=some PySem.W.emptyDict:=Heap.get?_push_size s.heap rfl
 have e2:((s.heap.push PySem.W.emptyDict).push (PySem.W.instObj C s.heap.objs.size)).get? (s.heap.objs.size + 1)=some (PySem.W.instObj C s.heap.objs.size):=by
  have:=Heap.get?_push_size (s.heap.push PySem.W.emptyDict) (o:=PySem.W.instObj C s.heap.objs.size) rfl
  rwa [Heap.size_push] at this
 have e3:(s.heap.push PySem.W.emptyDict).Ns s.heap.objs.size (λ_=>none):=⟨PySem.W.emptyDict,#[],_,e1,rfl,(λe he=>absurd he (by simp)),λ_=>rfl⟩
 have I1:=I.laid (a:=s.heap.objs.size) (o:=.own (s.heap.objs.size + 1)) (h':=s.heap.push PySem.W.emptyDict) (t':=s.toks) (λb u q=>Heap.get?_push_of_some _ q) (Nat.le_refl _) ⟨_,e1⟩
 refine I1.laid (a:=s.heap.objs.size + 1) (o:=.ins C s.heap.objs.size []) (t':=s.toks) (λb u q=>Heap.get?_push_of_some _ q) (Nat.le_of_eq (Heap.size_push _ _)) ?_
 have ne:s.heap.objs.size≠s.heap.objs.size + 1:=Nat.ne_of_lt (Nat.lt_succ_self _)
 refine ⟨by rw [zt ne,xI],Nat.zero_le _,ne,e2,λ_=>none,(Heap.Ns1.of_empty e3).at λo q=>Heap.get?_push_of_some _ q,λ_=>True.intro,λy hy=>absurd rfl hy⟩
theorem zP6 {prog:Program} {w:World} {env:Env} {e:Expr} {f:Str} {pos:Pos} {s:Shared} {Q:Value->Shared->Prop} (hb:attributeBase e f env (eval e env)=eval e env)
  (h:wpAny (model prog w) A (eval e env) (λo s₁=>wpAny (model prog w) A (getAttr o f true) Q E s₁) E s):wpAny (model prog w) A (eval (.Attribute e f pos) env) Q E s:=
 Attribute_any_ h (by rw [arm_eval_Attribute,hb])
end
def UJ (K:PySem.W.Frag) (ta:TE) (f:Str):TE:=λσ H Q=>ta σ H λx H1=>∃ a C dx fs v,x=.ref a/\H1 a=some (.ins C dx fs)/\uW K C/\yp K C f/\fs.lookup f=some v/\Q v H1
def kZ (K:PySem.W.Frag) (ta tv:TE) (f:Str):TS:=λD σ H=>tv σ H λy H1=>ta σ H1 λx H2=>∃ a C dx fs,x=.ref a/\H2 a=some (.ins C dx fs)/\uW K C/\yp K C f/\fs.length < 1000∧
 D.nx σ (zW H2 a (.ins C dx (ye f y fs)))
section
variable {X:Cx} {o e value:Expr} {f:Str} {pos pos' tpos:Pos} {ta tv:TE}
theorem zQw (he:PE X e ta) (hb:attributeBase e f X.env (eval e X.env)=eval e X.env):PE X (.Attribute e f pos) (UJ X.K ta f):=by
 intro pins s σ H Q I h
 refine zP6 hb (zk (he pins s σ H _ I h) λu s1 ⟨x,H1,I1,rx,a,C,dx,fs,v,ex,ea,c,n,l,q⟩=>?_)
 subst ex
 obtain rfl:u=Value.ref a:=rx
 exact zK5 I1 ea c n l λu' s2 I2 ru=>⟨v,H1,I2,ru,q⟩
theorem wl (ha:PE X o ta) (hv:PE X value tv) (hs:swapsWith value (some (.Attribute o f pos')) pos.line X.env=pure false):PS X (.Assign [.Attribute o f pos'] value pos) (kZ X.K ta tv f):=by
 intro pins s σ H D I h
 refine plainObj_wpAny_Assign_Attribute (zk (hv pins s σ H _ I h) λu s1 ⟨y,H1,I1,ry,q⟩=>zk (ha pins s1 σ H1 _ I1 q) λov s2 ⟨x,H2,I2,rx,a,C,dx,fs,ex,ea,c,n,l,q2⟩=>?_) hs
 subst ex
 obtain rfl:ov=Value.ref a:=rx
 exact zKc I2 ea c n l ry λs3 I3=>⟨σ,_,I3,q2⟩
end
section
variable {X:Cx} {pins:List (Addr × Obj)} {σ:St} {H:Hp} {s:Shared} {A:Around} {E:Value->Shared->Prop} {Q:Value->Shared->Prop} {c:Value} {b:Bool}
inductive yV (K:PySem.W.Frag) (H:Hp):V->Value->Prop where
 | non:yV K H .non (.type "NoneType")
 | bl (x:Bool):yV K H (.bl x) (.type "bool")
 | int (i:Int):yV K H (.int i) (.type "int")
 | str (x:Str):yV K H (.str x) (.type "str")
 | flt (x:UInt64):yV K H (.flt x) (.type "float")
 | lst {a:Addr} {xs:List V} (e:H a=some (.lst xs)):yV K H (.ref a) (.type "list")
 | frz {a:Addr} {o:Obj} {xs:List V} (e:H a=some (.frz o (.lst xs))):yV K H (.ref a) (.type "list")
 | tup {a:Addr} {xs:List V} (e:H a=some (.tup xs)):yV K H (.ref a) (.type "tuple")
 | dK {a:Addr} {kvs:List (wC × V)} (e:H a=some (.dK kvs)):yV K H (.ref a) (.type "dict")
 | dT {a:Addr} {kvs:List (List wC × V)} (e:H a=some (.dT kvs)):yV K H (.ref a) (.type "dict")
 | ins {a C dx:Addr} {fs:List (Str × V)} (e:H a=some (.ins C dx fs)) (cl:uW K C) (ha:PySem.W.findIn K (.ref C) "__class__" = some (some (.builtin "object.__class__")))
   (hn:PySem.W.specialIn K (.builtin "object.__class__") "__get__" = some (some (.builtin "getset_descriptor.__get__"))) (htk:PySem.W.takesIn K (.builtin "object.__class__")=some true)
   (hm:PySem.W.mroIn K C (.type "object")=some true):yV K H (.ref a) (.ref C)
theorem KI {x:V} {u t:Value} (I:zH X pins σ H s) (rx:zU x u) (ty:yV X.K H x t) (e:PySem.W.kitOne X.K t c=some b) (h:∀ tk,Q (.bool b) { s with toks:=tk }) :
  wpAny (model X.prog X.w) A (call (.builtin "isinstance") [u,c]) Q E s:=by
 cases ty with
 | non=>cases (show u=Value.none from rx); exact PySem.W.kia_one PySem.W.kitx_none I.kIn True.intro e (λz=>nomatch z) h
 | bl y=>cases (show u=Value.bool y from rx); exact PySem.W.kia_one PySem.W.kitx_bool I.kIn True.intro e (λz=>nomatch z) h
 | int i=>obtain ⟨t,q⟩:=(show ∃ t,u=Value.int i t from rx); cases q; exact PySem.W.kia_one PySem.W.kitx_int I.kIn True.intro e (λz=>nomatch z) h
 | str y=>obtain ⟨t,q⟩:=(show ∃ t,u=Value.str y t from rx); cases q; exact PySem.W.kia_one PySem.W.kitx_str I.kIn True.intro e (λz=>nomatch z) h
 | flt y=>obtain ⟨t,q⟩:=(show ∃ t,u=Value.float y t from rx); cases q; exact PySem.W.kia_one PySem.W.kitx_float I.kIn True.intro e (λz=>nomatch z) h
 | @lst a xs ea=>
  cases (show u=Value.ref a from rx)
  obtain ⟨_,_,n,_,h1⟩:=(show wD X.prog X.w H s.heap a (.lst xs) from I.hok a _ ea)
  exact PySem.W.kia_one PySem.W.kitx_list I.kIn ⟨_,h1,rfl⟩ e (λz=>nomatch z) h
 | @frz a ob xs ea=>
  cases (show u=Value.ref a from rx)
  obtain ⟨_,_,_,n,_,h1⟩:=(show wD X.prog X.w H s.heap a (.frz ob (.lst xs)) from I.hok a _ ea)
  exact PySem.W.kia_one PySem.W.kitx_list I.kIn ⟨_,h1,rfl⟩ e (λz=>nomatch z) h
 | @tup a xs ea=>
  cases (show u=Value.ref a from rx)
  obtain ⟨_,_,_,p⟩:=(show wD X.prog X.w H s.heap a (.tup xs) from I.hok a _ ea)
  obtain ⟨o,h1,h2,_⟩:=p
  exact PySem.W.kia_one PySem.W.kitx_tuple I.kIn ⟨o,h1,h2⟩ e (λz=>nomatch z) h
 | @dK a kvs ea=>
  cases (show u=Value.ref a from rx)
  obtain ⟨_,_,vs,_,p⟩:=(show wD X.prog X.w H s.heap a (.dK kvs) from I.hok a _ ea)
  obtain ⟨o,es,ep,h1,h2,_⟩:=p
  exact PySem.W.kia_one PySem.W.kitx_dict I.kIn ⟨o,h1,h2.1⟩ e (λz=>nomatch z) h
 | @dT a kvs ea=>
  cases (show u=Value.ref a from rx)
  obtain ⟨_,_,xs,_,o,es,ep,h1,h2,_⟩:=(show wD X.prog X.w H s.heap a (.dT kvs) from I.hok a _ ea)
  exact PySem.W.kia_one PySem.W.kitx_dict I.kIn ⟨o,h1,h2.1⟩ e (λz=>nomatch z) h
 | @ins a C dx fs ea cl ha hn htk hm=>
  cases (show u=Value.ref a from rx)
  obtain ⟨mA,O,_⟩:=XH I.hok ea
  obtain ⟨od,J,_⟩:=O.look
  exact PySem.W.kia_one (PySem.W.kitx_own (cl.get _) cl.hd ha hn htk hm) I.kIn J e (λz=>nomatch z) h
end
end L2
namespace L2
open PySem PySem.Spec PyProof.Rows
structure zo (k:Nat) (A:Around):Prop where
 hd:A.handled=none
 dp:A.depth + 3 * k + 5 < recursionLimit
 un:A.units + 16 * k + 200 < cLine
theorem zo.mono {j k:Nat} {A:Around} (r:zo k A) (h:j<=k):zo j A:=⟨r.hd,by have:=r.dp; omega,by have:=r.un; omega⟩
theorem zo.deeper {k:Nat} {A:Around} (r:zo (k + 1) A) (env:Env):zo k (A.deeper env):=
 ⟨r.hd,by have:=r.dp; show A.depth + 1 + 3 * k + 5 < _; omega,by have:=r.un; show A.units + 3 + 16 * k + 200 < _; omega⟩
theorem zK2 {A:Around} {C:Addr} {us:List Value} {kw:List (Str × Value)}:(A.under (.builtin "type.__call__" ⟨.ref C :: us,kw⟩)).depth=A.depth + 1:=by
 first | rfl | simp [Around.under,Code.weight,Code.isCreation,Code.isGuard,Code.isCaller,Code.frames,Code.isFrame,guardIds]
theorem zK1 {A:Around} {C:Addr} {us:List Value} {kw:List (Str × Value)}:(A.under (.builtin "type.__call__" ⟨.ref C :: us,kw⟩)).units=A.units + 1:=by
 first | rfl | simp [Around.under,Code.cUnits,Code.frames,Code.isFrame]
theorem zo.make {k:Nat} {A:Around} (r:zo (k + 1) A) (C:Addr) (us:List Value) (kw:List (Str × Value)):zo k (A.under (.builtin "type.__call__" ⟨.ref C :: us,kw⟩)):=
 ⟨r.hd,by have:=r.dp; rw [zK2]; omega,by have:=r.un; rw [zK1]; omega⟩
theorem zo.depth {k:Nat} {A:Around} (r:zo k A):A.depth < recursionLimit:=by have:=r.dp; omega
theorem zo.units {k:Nat} {A:Around} (r:zo k A):A.units + 64 < cLine:=by have:=r.un; omega
def vz:TA:=λ_ H Q=>Q [] H
def gE (ta:TE) (tr:TA):TA:=λσ H Q=>ta σ H λx H1=>tr σ H1 λxs H2=>Q (x :: xs) H2
section
variable {X:Cx} {e:Expr} {es:List Expr} {te:TE} {t:TA} {pos:Pos}
theorem yE:PA X [] vz:=λ_ _ _ _ H Q I h=>Calls.spliced_nil ⟨[],H,I,.nil,h⟩
theorem zi (ha:PE X e te) (hr:PA X es t) (hs:starEach (e :: es) X.env=(false,eval e X.env) :: starEach es X.env:=by rfl):PA X (e :: es) (gE te t):=by
 intro pos pins s σ H Q I h
 rw [hs]
 show wpAny _ _ (spliced ((false,eval e X.env) :: backTo pos (starEach es X.env))) _ _ s
 refine Calls.spliced_cons (zk (ha pins s σ H _ I h) λu s1 ⟨x,H1,I1,r1,q1⟩=>?_)
 exact zk (hr pos pins s1 σ H1 _ I1 q1) λus s2 ⟨xs,H2,I2,r2,q2⟩=>⟨x :: xs,H2,I2,.cons r1 r2,q2⟩
def UK (t:TA):TE:=λσ H Q=>t σ H λxs H1=>xs.length<=sizeLine/\∀ p,H1 p=none->Q (.ref p) (zW H1 p (.tup xs))
def UL (t:TA):TE:=λσ H Q=>t σ H λxs H1=>xs.length<=sizeLine/\∀ p,H1 p=none->Q (.ref p) (zW H1 p (.lst xs))
theorem KJ {x1} (h:PA X es t):PE X (.Tuple es x1 pos) (UK t):=by
 intro pins s σ H Q I hq
 refine wpAny_Tuple_spliced (zk (h pos pins s σ H _ I hq) λus s1 ⟨xs,H1,I1,r,z,q⟩=>⟨by rw [<- r.length]; exact z,?_⟩)
 have hf:H1 s1.heap.objs.size=none:=I1.hok.fresh (Nat.le_refl _)
 refine ⟨.ref s1.heap.objs.size,zW H1 s1.heap.objs.size (.tup xs),I1.laid (t':=s1.toks) (λb u e=>Heap.get?_push_of_some _ e) (Nat.le_refl _) ?_,rfl,q _ hf⟩
 exact ⟨z,us,r,⟨_,Heap.get?_push_size _ rfl,rfl,_,rfl⟩⟩
theorem KL (h:PA X es t):PE X (.List es pos) (UL t):=by
 intro pins s σ H Q I hq
 refine wpAny_List_spliced (zk (h pos pins s σ H _ I hq) λus s1 ⟨xs,H1,I1,r,z,q⟩=>⟨by rw [<- r.length]; exact z,?_⟩)
 have hf:H1 s1.heap.objs.size=none:=I1.hok.fresh (Nat.le_refl _)
 refine ⟨.ref s1.heap.objs.size,zW H1 s1.heap.objs.size (.lst xs),I1.laid (t':=s1.toks) (λb u e=>Heap.get?_push_of_some _ e) (Nat.le_refl _) ?_,rfl,q _ hf⟩
 exact ⟨z,us,0,r,Heap.get?_push_size _ rfl⟩
end
abbrev Sp:=List V->Hp->VK->XK->Prop
abbrev v0:=List Env->Hp->Shared->XK->Value->Shared->Prop
structure vN (P:Program) (w:World) (K:PySem.W.Frag) (mg:Str->Option Value) (base:Heap) (A:Around) (outer:List Env) (s:Shared) (H:Hp):Prop where
 frames:A.frames=some outer
 mod:Mod K mg base
 bs:∀ b o,base.get? b=some o->s.heap.get? b=some o/\H b=none
 bsz:base.objs.size<=s.heap.objs.size
 funs:s.heap.FunFrames base outer
 frf:∀ b∈vG outer,H b=none
 hok:xL P w H s.heap
 bare:AllBare s.gens
def CE (outer:List Env) (P:Program) (w:World) (H:Hp) (s:Shared) (Q:VK) (u:Value) (s':Shared):Prop:=
 ∃ v H',s'.os=s.os/\AllBare s'.gens/\Un (vG outer) [] H H' s.heap s'.heap/\xL P w H' s'.heap/\zU v u/\Q v H'
def CR (CX:v0) (outer:List Env) (P:Program) (w:World) (H:Hp) (s:Shared) (Q:VK) (E:XK) (r:Result) (s':Shared):Prop:=
 match r with
 | .ok (.ret u)=>CE outer P w H s Q u s'
 | .ok _=>False
 | .error e=>CX outer H s E e s'
structure zG (P:Program) (w:World) (K:PySem.W.Frag) (mg:Str->Option Value) (base:Heap) (CX:v0) (k:Nat) (f:Addr) (fd:FuncData) (ps:List Str) (sp:Sp):Prop where
 len:∀ vs H Q E,sp vs H Q E->vs.length=ps.length
 run:∀ (A:Around) (outer:List Env) (s:Shared) (H:Hp) (args:Args) (us:List Value) (vs:List V) (Q:VK) (E:XK),zo k A->vN P w K mg base A outer s H->BindsTo s fd args (ps.zip us)->zM vs us->sp vs H Q E->
  codeAny (model P w) A (.call (.ref f) args) (CR CX outer P w H s Q E) s
theorem zG.mono {P:Program} {w:World} {K:PySem.W.Frag} {mg:Str->Option Value} {base:Heap} {CX:v0} {j k:Nat} {f:Addr} {fd:FuncData} {ps:List Str} {sp:Sp} (F:zG P w K mg base CX j f fd ps sp) (h:j<=k) :
  zG P w K mg base CX k f fd ps sp:=⟨F.len,λA outer s H args us vs Q E hr=>F.run A outer s H args us vs Q E (hr.mono h)⟩
theorem vN.make {P:Program} {w:World} {K:PySem.W.Frag} {mg:Str->Option Value} {base:Heap} {A:Around} {outer:List Env} {s:Shared} {H:Hp} (e:vN P w K mg base A outer s H) (C:Addr) (us:List Value) (kw:List (Str × Value)) :
  vN P w K mg base (A.under (.builtin "type.__call__" ⟨.ref C :: us,kw⟩)) outer s H:=⟨by first | exact e.frames | (simpa [Around.under,Code.envs,Code.isFrame,pushEnvs] using e.frames),e.mod,e.bs,e.bsz,e.funs,e.frf,e.hok,e.bare⟩
section
variable {X:Cx} {pins:List (Addr × Obj)} {σ:St} {H:Hp} {s s':Shared}
theorem zH.env0 (I:zH X pins σ H s):vN X.prog X.w X.K X.mg X.base X.A X.stack s H:=
 ⟨I.ok.frames,I.ok.mod,I.bs,Nat.le_trans I.ok.bsz I.sz,I.stack,I.stkFree,I.hok,I.bare⟩
theorem zH.after {Q:VK} {u:Value} (I:zH X pins σ H s) (h:CE X.stack X.prog X.w H s Q u s'):EP X pins σ Q u s':=by
 obtain ⟨v,H',os,bare,un,hok,r,q⟩:=h
 obtain ⟨hh,g,d,t,os'⟩:=s'
 obtain rfl:os'=s.os:=os
 exact ⟨v,H',I.call (h':=hh) (g':=g) (d':=d) (t':=t) (ch:=[]) un hok bare (λb z=>absurd z (by simp)),r,q⟩
end
def UM (sp:Sp) (dvs:List V) (E:XK) (t:TA):TE:=λσ H Q=>t σ H λvs H1=>sp (vs++dvs) H1 Q E
def KM (C:Addr) (m:Str) (sp:Sp) (dvs:List V) (E:XK) (ta:TE) (t:TA):TE:=λσ H Q=>ta σ H λx H1=>∃ a dx fs,x=.ref a/\H1 a=some (.ins C dx fs)/\fs.lookup m=none∧
 t σ H1 λvs H2=>sp (x :: (vs++dvs)) H2 Q E
def XI (C:Addr) (sp:Sp) (dvs:List V) (E:XK) (t:TA):TE:=λσ H Q=>t σ H λvs H1=>∀ x dx,H1 x=none->H1 dx=none->dx≠x->
 sp (.ref x :: (vs++dvs)) (zW (zW H1 dx (.own x)) x (.ins C dx [])) (λv H2=>v=.non/\Q (.ref x) H2) E
def wm (K:PySem.W.Frag) (fd:FuncData) (ps:List Str) (ds:List Value):Prop:=
 ∀ (s:Shared) (us:List Value),K.In s.heap->(us++ds).length=ps.length->BindsTo s fd ⟨us,[]⟩ (ps.zip (us++ds))
theorem wm.all {K:PySem.W.Frag} {fd:FuncData} {ps:List Str} (h:∀ us:List Value,us.length=ps.length->bindArgs fd ⟨us,[]⟩=pure (ps.zip us)):wm K fd ps []:=λs us _ hl=>by
 rw [List.append_nil] at hl |-
 exact .of_eq (h us hl)
def gF (CX:v0) (X:Cx) (E:XK):Prop:=∀ (pins:List (Addr × Obj)) (σ:St) (H:Hp) (s:Shared) (e:Value) (s':Shared),zH X pins σ H s->CX X.stack H s E e s'->X.xe e s'
section
variable {X:Cx} {CX:v0} {k:Nat} {f C:Addr} {fd:FuncData} {ps:List Str} {sp:Sp} {dvs:List V} {ds:List Value} {E:XK} {x m:Str} {p pos apos:Pos} {e o:Expr} {es:List Expr} {ta:TE} {t:TA}
theorem KN {pins:List (Addr × Obj)} {σ:St} {H:Hp} {s:Shared} {Q:VK} {us:List Value} {vs:List V} (F:zG X.prog X.w X.K X.mg X.base CX k f fd ps sp) (hr:zo k X.A) (hb:wm X.K fd ps ds) (hd:zM dvs ds) (hx:gF CX X E)
  (I:zH X pins σ H s) (r:zM vs us) (h:sp (vs++dvs) H Q E):wpAny (model X.prog X.w) X.A (call (.ref f) us) (EP X pins σ Q) X.xe s:=by
 have r2:zM (vs++dvs) (us++ds):=r.append hd
 have hl:(us++ds).length=ps.length:=by rw [<- r2.length]; exact F.len _ _ _ _ h
 refine wpAny_call (codeAny_mono (F.run X.A X.stack s H ⟨us,[]⟩ (us++ds) (vs++dvs) Q E hr I.env0 (hb s us I.kIn hl) r2 h) λr s' hq=>?_)
 cases r with
 | error e=>exact hx pins σ H s e s' I hq
 | ok fl=>
  cases fl with
  | ret u=>exact I.after hq
  | next=>exact False.elim hq
  | brk=>exact False.elim hq
  | cont=>exact False.elim hq
theorem KO (F:zG X.prog X.w X.K X.mg X.base CX k f fd ps sp) (hr:zo k X.A) (hg:Gl X x) (hm:X.mg x=some (.ref f)) (hk:PySem.W.keepIn X.K (.ref f)=true) (hb:wm X.K fd ps ds) (hd:zM dvs ds) (hx:gF CX X E)
  (ha:PA X (e :: es) t) (hdb:(x == ("__debug__" : Str))=false:=by decide) (he:starEach (e :: es) X.env=(false,eval e X.env) :: starEach es X.env:=by rfl) (hpl:(backTo pos (starEach es X.env)).any (·.1)=false:=by rfl) :
  PE X (.Call (.Name x p) (e :: es) [] pos) (UM sp dvs E t):=by
 intro pins s σ H Q I h
 refine wpAny_Call_Name_kw (W2 I hg hm ?_ hdb)
 refine PySem.W.callWith_K (h₀:=X.base) I.ok.mod.kin hk (zk (ha pos pins s σ H _ I h) λus s1 ⟨vs,H1,I1,r,q⟩=>⟨I1.kIn,?_⟩) he hpl
 exact KN F hr hb hd hx I1 r q
theorem zNu {pl:Sem Bool} (he:PE X o ta) (c:uW X.K C) (hm:jx X.K C m f) (F:zG X.prog X.w X.K X.mg X.base CX k f fd ps sp) (hr:zo k X.A) (hb:wm X.K fd ps ds) (hd:zM dvs ds) (hx:gF CX X E)
  (ht:eval (.Call (.Attribute o m apos) [] [] pos) X.env=(do
   let ov <- eval o X.env
   standAt apos.atName
   let (f,first) <- holding [ov] (getMethod ov m pl)
   callWith pos f first (backTo pos (starEach [] X.env)) (backToKw pos (keywordEach [] X.env))):=by rfl) :
  PE X (.Call (.Attribute o m apos) [] [] pos) (KM C m sp dvs E ta vz):=by
 intro pins s σ H Q I h
 refine PySem.W.methodCall_KW (pl:=pl) (zk (he pins s σ H _ I h) λu s1 ⟨x,H1,I1,rx,a,dx,fs,ex,ea,l,q⟩=>?_) ht
 subst ex
 obtain rfl:u=Value.ref a:=rx
 refine zK4 I1 ea c hm l ?_
 exact PySem.W.callWith_K0 (first:=[.ref a]) I1.kIn hm.kp (KN (us:=[.ref a]) (vs:=[.ref a]) F hr hb hd hx I1 (.cons rfl .nil) q)
structure Mk (K:PySem.W.Frag) (C f:Addr):Prop where
 makes:PySem.W.makesIn K C=true
 init:PySem.W.findIn K (.ref C) "__init__" = some (some (.ref f))
 fn:PySem.W.isFn K (.ref f)=true
 kp:PySem.W.keepIn K (.ref C)=true
theorem zNh {pins:List (Addr × Obj)} {σ:St} {H:Hp} {s:Shared} {Q:VK} {us:List Value} {vs:List V} (M:Mk X.K C f) (F:zG X.prog X.w X.K X.mg X.base CX k f fd ps sp) (hr:zo (k + 1) X.A) (hb:wm X.K fd ps ds) (hd:zM dvs ds)
  (hx:gF CX X E) (I:zH X pins σ H s) (r:zM vs us)
  (h:∀ x dx,H x=none->H dx=none->dx≠x->sp (.ref x :: (vs++dvs)) (zW (zW H dx (.own x)) x (.ins C dx [])) (λv H2=>v=.non/\Q (.ref x) H2) E) :
  wpAny (model X.prog X.w) X.A (call (.ref C) us) (EP X pins σ Q) X.xe s:=by
 have hq:=h (s.heap.objs.size + 1) s.heap.objs.size (I.hok.fresh (Nat.le_succ _)) (I.hok.fresh (Nat.le_refl _)) (Nat.ne_of_lt (Nat.lt_succ_self _))
 have I2:=zH.made (C:=C) I
 have r2:zM (V.ref (s.heap.objs.size + 1) :: (vs++dvs)) (Value.ref (s.heap.objs.size + 1) :: (us++ds)):=.cons rfl (r.append hd)
 have hl:(Value.ref (s.heap.objs.size + 1) :: us++ds).length=ps.length:=by
  have e:=r2.length
  rw [F.len _ _ _ _ hq] at e
  exact e.symm
 refine wpAny_call (zOB (f:=f) I.kIn M.makes M.init (beq_iff_eq.mp M.fn) (codeAny_mono (F.run _ X.stack _ _ ⟨Value.ref (s.heap.objs.size + 1) :: us,[]⟩ (Value.ref (s.heap.objs.size + 1) :: (us++ds)) _ _ E (hr.make C us [])
  (I2.env0.make C us []) (hb _ (Value.ref (s.heap.objs.size + 1) :: us) I2.kIn hl) r2 hq) λr s' hq'=>?_))
 cases r with
 | error e=>exact hx pins σ _ _ e s' I2 hq'
 | ok fl=>
  cases fl with
  | ret u=>
   obtain ⟨v,H',I3,rv,ev,q3⟩:=I2.after hq'
   subst ev
   exact ⟨rv,⟨V.ref (s.heap.objs.size + 1),H',I3,rfl,q3⟩⟩
  | next=>exact False.elim hq'
  | brk=>exact False.elim hq'
  | cont=>exact False.elim hq'
theorem zPZ (M:Mk X.K C f) (F:zG X.prog X.w X.K X.mg X.base CX k f fd ps sp) (hr:zo (k + 1) X.A) (hg:Gl X x) (hm:X.mg x=some (.ref C)) (hb:wm X.K fd ps ds) (hd:zM dvs ds) (hx:gF CX X E)
  (ha:PA X (e :: es) t) (hdb:(x == ("__debug__" : Str))=false:=by decide) (he:starEach (e :: es) X.env=(false,eval e X.env) :: starEach es X.env:=by rfl) (hpl:(backTo pos (starEach es X.env)).any (·.1)=false:=by rfl) :
  PE X (.Call (.Name x p) (e :: es) [] pos) (XI C sp dvs E t):=by
 intro pins s σ H Q I h
 refine wpAny_Call_Name_kw (W2 I hg hm ?_ hdb)
 refine PySem.W.callWith_K (h₀:=X.base) I.ok.mod.kin M.kp (zk (ha pos pins s σ H _ I h) λus s1 ⟨vs,H1,I1,r,q⟩=>⟨I1.kIn,?_⟩) he hpl
 exact zNh M F hr hb hd hx I1 r q
end
section
variable {X:Cx} {CX:v0} {k:Nat} {f C:Addr} {fd:FuncData} {ps ks:List Str} {sp:Sp} {E:XK} {x m:Str} {p pos apos kpos:Pos} {e o:Expr} {es:List Expr} {kws:List Keyword} {te ta:TE} {t tk:TA} {nm:Option Str}
variable {g:List Value->List Value->List Value} {gV:List V->List V->List V}
end
structure zh (N P:List Str) (sc:Scope):Prop where
 kind:sc.kind=.function
 co:sc.isCoroutine=false
 gen:sc.isGenerator=false
 nd:N.Nodup
 pre:N.take P.length=P
 par:∀ x∈P,sc.names.lookup x=some .local\/sc.names.lookup x=some .cell
 nofree:∀ y∈sc.names,y.2≠.free
theorem zh.a {N P:List Str} {s:Scope} (a:s.kind=.function:=by rfl) (b:s.isCoroutine=false:=by rfl) (c:s.isGenerator=false:=by rfl) (d:N.Nodup:=by decide +kernel) (e:N.take P.length=P:=by rfl) (f:∀ x∈P,s.names.lookup x=some .local\/s.names.lookup x=some .cell:=by decide +kernel) (g:∀ y∈s.names,y.2≠.free:=by decide +kernel):zh N P s:=⟨a,b,c,d,e,f,g⟩
theorem KP {kindOf:Str->Option NameKind} {x:Str}:∀ {binds:List (Str × Value)} {m:Str->Option Value},(∀ v,(x,v)∉binds)->bindL kindOf binds m x=m x
 | [],_,_=>rfl
 | (n,v) :: r,m,h=>by
  unfold bindL
  rw [KP λw hw=>h w (List.mem_cons_of_mem _ hw)]
  split
  ·have:x≠n:=by rintro rfl; exact h v List.mem_cons_self
   simp [this]
  ·rfl
theorem KQ {kindOf:Str->Option NameKind} {x:Str}:∀ {binds:List (Str × Value)} {m:Str->Option Value},(∀ v,(x,v)∉binds)->bindC kindOf binds m x=m x
 | [],_,_=>rfl
 | (n,v) :: r,m,h=>by
  unfold bindC
  rw [KQ λw hw=>h w (List.mem_cons_of_mem _ hw)]
  split
  ·rfl
  ·have:x≠n:=by rintro rfl; exact h v List.mem_cons_self
   simp [this]
theorem KR {kindOf:Str->Option NameKind} {x:Str} {v:Value}:∀ {P:List Str} {vs:List Value} {i:Nat} {m:Str->Option Value},P.Nodup->P[i]? = some x->vs[i]? = some v->kindOf x=some .local->
  bindL kindOf (P.zip vs) m x=some v
 | [],_,_,_,_,h,_,_=>by simp at h
 | _ :: _,[],_,_,_,_,h,_=>by simp at h
 | p :: P,w :: vs,0,m,nd,h1,h2,hk=>by
  simp at h1 h2; subst h1; subst h2
  show bindL kindOf ((p,w) :: P.zip vs) m p=_
  unfold bindL
  rw [KP λv hv=>(List.nodup_cons.mp nd).1 (List.of_mem_zip hv).1,if_pos hk]
  simp
 | p :: P,w :: vs,i + 1,m,nd,h1,h2,hk=>by
  show bindL kindOf ((p,w) :: P.zip vs) m x=_
  unfold bindL
  exact KR (i:=i) (List.nodup_cons.mp nd).2 (by simpa using h1) (by simpa using h2) hk
theorem KS {kindOf:Str->Option NameKind} {x:Str} {v:Value}:∀ {P:List Str} {vs:List Value} {i:Nat} {m:Str->Option Value},P.Nodup->P[i]? = some x->vs[i]? = some v->kindOf x≠some .local->
  bindC kindOf (P.zip vs) m x=some v
 | [],_,_,_,_,h,_,_=>by simp at h
 | _ :: _,[],_,_,_,_,h,_=>by simp at h
 | p :: P,w :: vs,0,m,nd,h1,h2,hk=>by
  simp at h1 h2; subst h1; subst h2
  show bindC kindOf ((p,w) :: P.zip vs) m p=_
  unfold bindC
  rw [KQ λv hv=>(List.nodup_cons.mp nd).1 (List.of_mem_zip hv).1,if_neg hk]
  simp
 | p :: P,w :: vs,i + 1,m,nd,h1,h2,hk=>by
  show bindC kindOf ((p,w) :: P.zip vs) m x=_
  unfold bindC
  exact KS (i:=i) (List.nodup_cons.mp nd).2 (by simpa using h1) (by simpa using h2) hk
def vO (N:List Str) (vs:List V):St:=vs.map some++List.replicate (N.length - vs.length) none
def xh (CX:v0) (P:Program) (w:World) (K:PySem.W.Frag) (mg:Str->Option Value) (base:Heap) (N:List Str) (qual:Str) (scope:Scope) (f:Addr) (cd:Value) (A:Around) (outer:List Env) (s:Shared) (H:Hp) (E:XK):Cx where
 prog:=P
 w:=w
 K:=K
 mg:=mg
 base:=base
 A:=A.deeper (envOfC qual scope s.heap.objs.size f cd)
 N:=N
 s₀:=s
 H₀:=H
 env:=envOfC qual scope s.heap.objs.size f cd
 outer:=outer
 stack:=envOfC qual scope s.heap.objs.size f cd :: outer
 ex:=[]
 calm:=true
 fn:=λ_=>true
 pn:=[]
 xe:=λe s'=>wpAny (model P w) (A.deeper (envOfC qual scope s.heap.objs.size f cd)) (leaving (envOfC qual scope s.heap.objs.size f cd) e) (λ_ s''=>CX outer H s E e s'') (λe' s''=>CX outer H s E e' s'') s'
theorem KT {sc:Scope} {n:Nat} {x:Str} (h:sc.names.lookup x=some .cell):∃ c,(cellsFrom n sc.names []).lookup x=some c:=by
 have q:=PySem.W.cellsFrom_some sc.names n [] (.inl h)
 exact Option.isSome_iff_exists.mp q
theorem zMW {CX:v0} {P:Program} {w:World} {K:PySem.W.Frag} {mg:Str->Option Value} {base:Heap} {N ps:List Str} {qual:Str} {scope:Scope} {f:Addr} {cd:Value} {A:Around} {outer:List Env} {s s1:Shared} {H:Hp} {E:XK} {us:List Value} {vs:List V}
  (S:zh N ps scope) (hd:A.handled=none) (e0:vN P w K mg base A outer s H) (hl:vs.length=ps.length) (r:zM vs us)
  (x:InCallC s s.heap.objs.size (bindL (envOfC qual scope s.heap.objs.size f cd).kindOf (ps.zip us) λ_=>none) (cellsFrom (s.heap.objs.size + 1) scope.names []) (bindC (envOfC qual scope s.heap.objs.size f cd).kindOf (ps.zip us) λ_=>none) s1) :
  zH (xh CX P w K mg base N qual scope f cd A outer s H E) [] (vO N vs) H s1:=by
 have hpl:ps.length<=N.length:=by have:=congrArg List.length S.pre; rw [List.length_take] at this; omega
 obtain ⟨h1,tk,rfl,hk⟩:=x.done
 have noA:∀ b:Addr,b∉(xh CX P w K mg base N qual scope f cd A outer s H E).ex:=λb z=>absurd (show b∈([]:List Addr) from z) (by simp)
 refine ⟨⟨e0.mod,S.kind,rfl,rfl,Nat.le_refl _,λy z c h1 h2=>?_,λy hy=>?_,λy c _ h=>?_,λ_=>hd,Around.frames_deeper e0.frames,.inr ⟨rfl,rfl⟩,λb z=>absurd z (noA b),e0.bs,e0.bsz,λb _ _=>noA b,λb z=>absurd z (noA b),e0.funs,e0.frf⟩,
  rfl,e0.bare,Un.kept hk,⟨_,x.toInCall.ns,λi y v h1 h2 h3=>?_⟩,λy c h=>⟨_,x.cell y c h⟩,e0.hok.fresh (Nat.le_refl _),λy c h=>?_,λp hp=>absurd (show p∈([]:List (Addr × Obj)) from hp) (by simp),e0.hok.kept hk,?_⟩
 ·exact name_of_addr x.apart (PySem.mem_of_lookup h1) (PySem.mem_of_lookup h2)
 ·have hy:scope.names.lookup y=some .cell\/scope.names.lookup y=some .free:=hy
  rcases hy with hy | hy
  ·exact KT hy
  ·exact absurd rfl (S.nofree _ (PySem.mem_of_lookup hy))
 ·exact Nat.le_of_lt (x.above y c (PySem.mem_of_lookup h))
 ·have hi:i < vs.length:=by
   unfold vO at h2
   by_cases hi:i < vs.length
   ·exact hi
   ·rw [List.getElem?_append_right (by simpa using hi)] at h2
    rw [List.getElem?_replicate] at h2
    split at h2 <;> cases h2
  have ha:vs[i]? = some v:=by
   unfold vO at h2
   rw [List.getElem?_append_left (by simpa using hi),List.getElem?_map] at h2
   cases e:vs[i]? with
   | none=>rw [e] at h2; cases h2
   | some a=>rw [e] at h2; cases h2; rfl
  obtain ⟨u,hu,rv⟩:=r.get ha
  have hp:ps[i]? = some y:=by
   rw [<- S.pre,List.getElem?_take_of_lt (by omega)]; exact h1
  have ndP:ps.Nodup:=by rw [<- S.pre]; exact S.nd.sublist (List.take_sublist _ _)
  refine ⟨u,rv,?_⟩
  rcases S.par y (List.mem_of_getElem? hp) with k | k
  ·exact .inl ⟨k,KR ndP hp hu k⟩
  ·obtain ⟨c,e⟩:=KT (n:=s.heap.objs.size + 1) k
   refine .inr ⟨.inl k,c,e,?_⟩
   have q:=x.cell y c e
   rw [KS ndP hp hu (by show scope.names.lookup y≠_; rw [k]; decide)] at q
   exact q
 ·exact e0.hok.fresh (Nat.le_of_lt (x.above y c (PySem.mem_of_lookup h)))
 ·unfold vO
  show _=N.length
  rw [List.length_append,List.length_map,List.length_replicate]
  omega
theorem KU {CX:v0} {P:Program} {w:World} {K:PySem.W.Frag} {mg:Str->Option Value} {base:Heap} {k:Nat} {f:Addr} {name qual:Str} {params:Arguments} {body:List Stmt} {scope:Scope} {dV kV doc pm cdv ct oc:Value} {an od:Option Addr}
  {osl:Array (Option Value)} {N ps:List Str} {sp:Sp} (lk:K.lookup f=some ⟨oc,od,.func (PySem.W.fnOf name qual params body scope dV kV doc pm an cdv ct),osl⟩) (hcd:PySem.W.codeIn K cdv qual=true) (S:zh N ps scope)
  (len:∀ vs H Q E,sp vs H Q E->vs.length=ps.length)
  (hbody:∀ (A:Around) (outer:List Env) (s:Shared) (H:Hp) (vs:List V) (Q:VK) (E:XK),zo k (A.deeper (envOfC qual scope s.heap.objs.size f cdv))->sp vs H Q E->
   ∃ t,xJ (xh CX P w K mg base N qual scope f cdv A outer s H E) body t/\t { nx:=λ_ H'=>Q .non H',rt:=Q } (vO N vs) H) :
  zG P w K mg base CX (k + 1) f (PySem.W.fnOf name qual params body scope dV kV doc pm an cdv ct) ps sp:=by
 refine ⟨len,λA outer s H args us vs Q E hr e0 hb r hsp=>?_⟩
 have hl:=len _ _ _ _ hsp
 have KX:K.In s.heap:=e0.mod.kin.keeps λb o e=>(e0.bs b o e).1
 have lim:s.heap.NoLimit:=e0.mod.nolimit.keeps λb o e=>(e0.bs b o e).1
 have hkind:∀ y∈ps.zip us,scope.names.lookup y.1=some .local\/(scope.names.lookup y.1=some .cell/\((cellsFrom (s.heap.objs.size + 1) scope.names []).lookup y.1).isSome=true):=λ⟨n,v⟩ hy=>by
  rcases S.par n (List.of_mem_zip hy).1 with q | q
  ·exact .inl q
  ·exact .inr ⟨q,PySem.W.cellsFrom_some _ _ _ (.inl q)⟩
 refine codeAny_call_function hr.depth (KX _ _ lk) rfl S.co S.gen rfl (PySem.W.codeRec_of KX hcd) (hb _ _ _ _ ?_)
 refine wpAny_newFunctionEnv_cells S.kind hkind λenv he s1 x=>?_
 subst he
 refine ⟨lim.keeps x.toInCall.keep,codeAny_func ?_⟩
 obtain ⟨t,ht,hq⟩:=hbody A outer s H vs Q E (hr.deeper _) hsp
 have I:zH (xh CX P w K mg base N qual scope f cdv A outer s H E) [] (vO N vs) H s1:=zMW S hr.hd e0 hl r x
 refine wpAny_mono (ht [] s1 (vO N vs) H _ I hq) (λfl s' hs=>?_) λe s' hs=>hs
 have fin:∀ {σ':St} {H':Hp} {v:V} {u:Value},zH (xh CX P w K mg base N qual scope f cdv A outer s H E) [] σ' H' s'->zU v u->Q v H'->CE outer P w H s Q u s':=
  λ{σ' H' v u} J rv q=>⟨v,H',J.os,J.bare,J.base,J.hok,rv,q⟩
 cases fl with
 | ret u=>
  obtain ⟨v,σ',H',J,rv,q⟩:=hs
  exact fin J rv q
 | next=>
  obtain ⟨σ',H',J,q⟩:=hs
  exact fin (v:=V.non) (u:=Value.none) J rfl q
 | brk=>
  obtain ⟨_,_,_,q⟩:=hs
  exact False.elim q
 | cont=>
  obtain ⟨_,_,_,q⟩:=hs
  exact False.elim q
end L2
namespace L2
open PySem PySem.Spec PyProof.Rows
section
variable {X:Cx} {x:Str} {p pos:Pos} {e:Expr} {es:List Expr} {t:TA} {id T:String} {r:List V->Hp->VK->Prop}
def ka (r:List V->Hp->VK->Prop) (t:TA):TE:=λσ H Q=>t σ H λvs H1=>r vs H1 Q
theorem xi (hc:vL X (.builtin id) r) (hg:Gl X x) (hm:X.mg x=none) (hv:bootBuiltins x=some (.builtin id)) (ha:PA X (e :: es) t) (hn:x≠"__name__":=by decide) (hdb:(x == ("__debug__" : Str))=false:=by decide)
  (he:starEach (e :: es) X.env=(false,eval e X.env) :: starEach es X.env:=by rfl) (hpl:(backTo pos (starEach es X.env)).any (·.1)=false:=by rfl):PE X (.Call (.Name x p) (e :: es) [] pos) (ka r t):=by
 intro pins s σ H Q I h
 refine wpAny_Call_Name_kw (jQ I hg hm hv ?_ hn hdb)
 exact PyProof.Rows.callWith_builtin1 (zk (ha pos pins s σ H _ I h) λus s1 ⟨vs,H1,I1,r1,q1⟩=>hc pins s1 σ H1 vs us Q I1 r1 q1) he hpl
theorem UN (hc:vL X (.type T) r) (hg:Gl X x) (hm:X.mg x=none) (hv:bootBuiltins x=some (.type T)) (ha:PA X (e :: es) t) (hn:x≠"__name__":=by decide) (hdb:(x == ("__debug__" : Str))=false:=by decide)
  (he:starEach (e :: es) X.env=(false,eval e X.env) :: starEach es X.env:=by rfl) (hpl:(backTo pos (starEach es X.env)).any (·.1)=false:=by rfl):PE X (.Call (.Name x p) (e :: es) [] pos) (ka r t):=by
 intro pins s σ H Q I h
 refine wpAny_Call_Name_kw (jQ I hg hm hv ?_ hn hdb)
 exact PyProof.Rows.callWith_type1 (zk (ha pos pins s σ H _ I h) λus s1 ⟨vs,H1,I1,r1,q1⟩=>hc pins s1 σ H1 vs us Q I1 r1 q1) he hpl
end
end L2
namespace HT
open PySem PyProof.Rows
section
open PySem.SeqAt
open PySem.AutoSeq1 (wpAny_loadPart')
open PySem.MeetsSeq PySem.MeetsSeq2 PySem.MeetsSeq3
end
section
variable {prog:Program} {w:World} {A:Around} {E:Value->Shared->Prop} {s:Shared}
theorem cat_tup {t b:Addr} {vs ws:List Value} {Q:Value->Shared->Prop} (ht:IsTup s.heap t vs.toArray) (hb:IsTup s.heap b ws.toArray) (hv:vs≠[])
  (h1:ws=[]->Q (.ref t) s) (h2:ws≠[]->Q (.ref s.heap.objs.size) { s with heap:=s.heap.push { cls:=.type "tuple",data:=.seq (vs++ws).toArray } })
  (hsz:vs.length + ws.length<=sizeLine):wpAny (model prog w) A (binaryOp .Add (.ref t) (.ref b)) Q E s:=by
 obtain ⟨⟨cls,dd,data,sl⟩,ho,hc,n,hd⟩:=id ht
 obtain ⟨⟨cls2,dd2,data2,sl2⟩,ho2,hc2,n2,hd2⟩:=id hb
 simp only at hc hd hc2 hd2
 subst hc hd hc2 hd2
 have e:vs.toArray++ws.toArray=(vs++ws).toArray:=by simp
 by_cases hw:ws=[]
 ·exact concat_meets ⟨_,ho,rfl⟩ ⟨_,ho2,rfl⟩ noFill_tuple_add seq_tuple_add PySem.F.slot_tuple_add PySem.F.entry_tuple_add (PySem.F.args_tuple_add_2 _ _)
   (tuple_addW1 t b vs.toArray ws.toArray n n2 dd dd2 sl sl2 (by simpa using hv) (by simp [hw])) ⟨ho,ho2,h1 hw⟩
 ·refine concat_meets ⟨_,ho,rfl⟩ ⟨_,ho2,rfl⟩ noFill_tuple_add seq_tuple_add PySem.F.slot_tuple_add PySem.F.entry_tuple_add (PySem.F.args_tuple_add_2 _ _)
   (tuple_addW2 t b vs.toArray ws.toArray n n2 dd dd2 sl sl2 (by simpa using hv) (by simpa using hw) (by rw [List.size_toArray,List.size_toArray]; exact hsz)) ⟨ho,ho2,?_⟩
  rw [e]
  exact h2 hw
def sIx (n d:Nat):Option Int->Nat
 | none=>d
 | some v=>if v < 0 then (v + (n:Int)).toNat else min v.toNat n
theorem sIx_none (n d:Nat):sIx n d none=d:=rfl
theorem sIx_nat (n d k:Nat):sIx n d (some (k:Int))=min k n:=by
 show (if (k:Int) < 0 then ((k:Int) + (n:Int)).toNat else min (k:Int).toNat n)=min k n
 rw [if_neg (by omega),Int.toNat_natCast]
theorem zQU (n d:Nat) (hd:d<=n) (o:Option Int):sIx n d o<=n:=by
 cases o with
 | none=>exact hd
 | some v=>
  show (if v < 0 then (v + (n:Int)).toNat else min v.toNat n)<=n
  by_cases hv:v < 0
  ·rw [if_pos hv]; omega
  ·rw [if_neg hv]; exact Nat.min_le_right _ _
theorem KW (v:Int) (n d:Nat):(if v < 0 then max (v + (n:Int)) 0 else min v (n:Int))=((sIx n d (some v):Nat):Int):=by
 show (if v < 0 then max (v + (n:Int)) 0 else min v (n:Int))=(((if v < 0 then (v + (n:Int)).toNat else min v.toNat n):Nat):Int)
 by_cases hv:v < 0
 ·simp only [if_pos hv]; omega
 ·simp only [if_neg hv]; omega
theorem zLA (lo hi:Option Int) (n:Nat):Builtin.Slice.sliceAdjust lo hi 1 (n:Int)=(((sIx n 0 lo:Nat):Int),((sIx n n hi:Nat):Int)):=by
 have h1:¬ ((1:Int) < 0):=by omega
 unfold Builtin.Slice.sliceAdjust
 simp only [h1,if_false]
 refine Prod.ext ?_ ?_
 ·cases lo with
  | none=>rfl
  | some v=>exact KW v n 0
 ·cases hi with
  | none=>rfl
  | some v=>exact KW v n n
theorem zKm (i j:Nat):Builtin.Slice.slicePlaces (i:Int) (j:Int) 1=j - i:=by
 unfold Builtin.Slice.slicePlaces
 have h1:(1:Int) > 0:=by omega
 simp only [h1,if_true,Int.ediv_one]
 split <;> omega
theorem KY {v:Value} {o:Option Int} {Q:Option Int->Shared->Prop} (p:IsPart v o) (h:Q o s):wpAny (model prog w) A (Builtin.Slice.slicePartIndex v) Q E s:=by
 cases p with
 | none=>exact slicePart_none h
 | int i t=>exact slicePart_int h
theorem KZ {sl:Addr} {vl vu:Value} {lo hi:Option Int} {n:Nat} {Q:Int × Int × Nat->Shared->Prop} (hs:s.heap.IsSliceOf sl vl vu .none) (pl:IsPart vl lo) (pu:IsPart vu hi)
  (h:Q (((sIx n 0 lo:Nat):Int),1,sIx n n hi - sIx n 0 lo) s):wpAny (model prog w) A (Builtin.Slice.sliceApplied (.ref sl) (pure (n:Int))) Q E s:=by
 obtain ⟨os,hos,hcs,hds⟩:=id hs
 unfold Builtin.Slice.sliceApplied Builtin.Slice.sliceFields
 refine wpAny_bind (wpAny_bind (wpAny_field hos hds (x:=vl) rfl (wpAny_bind (wpAny_field hos hds (x:=vu) rfl (wpAny_bind (wpAny_field hos hds (x:=.none) rfl (wpAny_pure ?_)))))))
 refine wpAny_bind (slicePart_none ?_)
 show wpAny _ _ (if ((1:Int) == 0)=true then _ else _) _ _ s
 rw [if_neg (by decide)]
 refine wpAny_bind (KY pl (wpAny_bind (KY pu (wpAny_bind (wpAny_pure ?_)))))
 show wpAny _ _ (match Builtin.Slice.sliceAdjust lo hi 1 (n:Int) with | (lo,hi)=>pure (lo,(1:Int),Builtin.Slice.slicePlaces lo hi 1)) _ _ s
 rw [zLA lo hi n]
 show wpAny _ _ (pure (((sIx n 0 lo:Nat):Int),(1:Int),Builtin.Slice.slicePlaces ((sIx n 0 lo:Nat):Int) ((sIx n n hi:Nat):Int) 1)) _ _ s
 rw [zKm]
 exact wpAny_pure h
theorem zNr (xs:Array Value) (i k:Nat):((List.range k).filterMap λ(m:Nat)=>xs[((i:Int) + (m:Int) * 1).toNat]?).toArray=((xs.toList.drop i).take k).toArray:=by
 have e:(λ(m:Nat)=>xs[((i:Int) + (m:Int) * 1).toNat]?)=λm=>xs[i + m]?:=by
  funext m
  have:((i:Int) + (m:Int) * 1).toNat=i + m:=by omega
  rw [this]
 rw [e]
 have:=pick_run xs i k
 rw [List.filterMap_map] at this
 have e2:((λx=>xs[x]?) ∘ λx=>i + x)=λm=>xs[i + m]?:=rfl
 rw [e2] at this
 rw [this]
theorem getItem_tuple_cut {t sl:Addr} {items:Array Value} {vl vu:Value} {lo hi:Option Int} {Q:Value->Shared->Prop} (ht:IsTup s.heap t items) (hs:s.heap.IsSliceOf sl vl vu .none) (pl:IsPart vl lo) (pu:IsPart vu hi)
  (hw:¬ (sIx items.size 0 lo=0/\sIx items.size items.size hi=items.size))
  (h:Q (.ref s.heap.objs.size) { s with heap:=s.heap.push { cls:=.type "tuple",data:=.seq ((items.toList.drop (sIx items.size 0 lo)).take (sIx items.size items.size hi - sIx items.size 0 lo)).toArray } })
  (hsz:items.size<=sizeLine):wpAny (model prog w) A (getItem (.ref t) (.ref sl)) Q E s:=by
 have htake:sizeOk (.seq ((items.toList.drop (sIx items.size 0 lo)).take (sIx items.size items.size hi - sIx items.size 0 lo)).toArray):=by
  show ((items.toList.drop (sIx items.size 0 lo)).take (sIx items.size items.size hi - sIx items.size 0 lo)).toArray.size<=sizeLine
  rw [List.size_toArray,List.length_take,List.length_drop,Array.length_toList]
  omega
 have hj:sIx items.size items.size hi<=items.size:=zQU _ _ (Nat.le_refl _) hi
 obtain ⟨os,hos,hcs,hds⟩:=id hs
 have hTs:s.TypeIs (.ref sl) "slice":=⟨os,hos,hcs⟩
 unfold getItem
 try with_reducible refine wpAny_holding ?_
 first | refine wpAny_bind (wpAny_pure ?_) | skip
 refine wpAny_bind (wpAny_sequenceKey ht.typeIs (by decide) ?_)
 refine wpAny_bind (wpAny_callSpecial?_slot (name:=Str.ofString "__getitem__") ht.typeIs PyProof.Rows.slot_tuple_getitem
  (wpAny_call_entry PyProof.Rows.slot_tuple_getitem ht.typeIs entry_tuple_getitem ?_ (args_tuple_getitem _ _)))
 show wpAny _ _ (Builtin.Tuple.tupleItemsOf (.ref t) >>= _) _ _ s
 refine wpAny_bind (tupleItemsOf_ ht ?_)
 refine wpAny_bind (wpAny_typeOf hTs ?_)
 rw [if_pos (by decide)]
 refine wpAny_bind (KZ hs pl pu ?_)
 have hno:¬ ((((sIx items.size 0 lo:Nat):Int) == 0 && (1:Int) == 1 && (sIx items.size items.size hi - sIx items.size 0 lo) == items.size)=true):=by
  intro q
  rw [Bool.and_eq_true,Bool.and_eq_true] at q
  have q1:((sIx items.size 0 lo:Nat):Int)=0:=eq_of_beq q.1.1
  have q2:sIx items.size items.size hi - sIx items.size 0 lo=items.size:=eq_of_beq q.2
  exact hw ⟨by omega,by omega⟩
 show wpAny _ _ (if (((sIx items.size 0 lo:Nat):Int) == 0 && (1:Int) == 1 && (sIx items.size items.size hi - sIx items.size 0 lo) == items.size)=true then _ else _) _ _ s
 rw [if_neg hno,zNr]
 first
  | exact wpAny_bind (m:=Builtin.Tuple.tupleExact _) (wpAny_newObj_type (wpAny_pure ⟨_,rfl,wpAny_pure h⟩) htake)
  | exact wpAny_bind (m:=Builtin.Tuple.tupleExact _) (wpAny_newObj_type (wpAny_bind (wpAny_pure (wpAny_pure ⟨_,rfl,wpAny_pure h⟩))) htake)
  | exact wpAny_bind (wpAny_bind (m:=Builtin.Tuple.tupleExact _) (wpAny_newObj_type (wpAny_pure (wpAny_pure ⟨_,rfl,wpAny_pure h⟩)) htake))
  | exact wpAny_bind (wpAny_bind (m:=Builtin.Tuple.tupleExact _) (wpAny_newObj_type (wpAny_pure ⟨_,rfl,wpAny_pure h⟩) htake))
end
end HT
namespace L2
open PySem PySem.Spec PyProof.Rows
abbrev TO:=St->Hp->(Option Int->Hp->Prop)->Prop
def PO (X:Cx) (e:Option Expr) (t:TO):Prop:=
 ∀ (pins:List (Addr × Obj)) (s:Shared) (σ:St) (H:Hp) (Q:Option Int->Hp->Prop),zH X pins σ H s->t σ H Q->
  wpAny (model X.prog X.w) X.A (evalPart e X.env) (λu s'=>∃ o H',zH X pins σ H' s'/\IsPart u o/\Q o H') X.xe s
def zPJ:TO:=λ_ H Q=>Q none H
def kd (t:TE):TO:=λσ H Q=>t σ H λx H1=>∃ i,x=.int i/\Q (some i) H1
section
variable {X:Cx} {e:Expr} {te:TE} {lo hi:Option Expr} {tl th:TO} {pos p2:Pos}
theorem zPT:PO X none zPJ:=by
 intro pins s σ H Q I h
 rw [evalPart_none]
 exact wpAny_pure ⟨none,H,I,.none,h⟩
theorem zPS (h:PE X e te):PO X (some e) (kd te):=by
 intro pins s σ H Q I hw
 rw [evalPart_some]
 refine zk (h pins s σ H _ I hw) λu s1 ⟨x,H1,I1,r1,q1⟩=>?_
 obtain ⟨i,rfl,q⟩:=q1
 obtain ⟨t,rfl⟩:=r1
 exact ⟨some i,H1,I1,.int i t,q⟩
def jy (X:Cx) (r:V->Option Int->Option Int->Hp->VK->Prop):Prop:=
 ∀ (pins:List (Addr × Obj)) (s:Shared) (σ:St) (H:Hp) (x:V) (v vl vu:Value) (lo hi:Option Int) (sl:Addr) (Q:VK),zH X pins σ H s->zU x v->s.heap.IsSliceOf sl vl vu .none->IsPart vl lo->IsPart vu hi->r x lo hi H Q->
  ∃ T id,typeLookup (.type T) "__getitem__" = pure (some (.builtin id))/\s.TypeIs v T/\wpAny (model X.prog X.w) X.A (getItem v (.ref sl)) (EP X pins σ Q) X.xe s
def tSl (r:V->Option Int->Option Int->Hp->VK->Prop) (te:TE) (tl th:TO):TE:=λσ H Q=>te σ H λx H1=>tl σ H1 λl H2=>th σ H2 λu H3=>r x l u H3 Q
theorem zNt {r:V->Option Int->Option Int->Hp->VK->Prop} (hr:jy X r) (he:PE X e te) (hl:PO X lo tl) (hu:PO X hi th):PE X (.Subscript e (.Slice lo hi none p2) pos) (tSl r te tl th):=by
 intro pins s σ H Q I h
 refine Subscript_ (zk (he pins s σ H _ I h) λv s1 ⟨x,H1,I1,r1,q1⟩=>?_)
 refine wpAny_Slice (zk (hl pins s1 σ H1 _ I1 q1) λvl s2 ⟨l,H2,I2,pl,q2⟩=>zk (hu pins s2 σ H2 _ I2 q2) λvu s3 ⟨u,H3,I3,pu,q3⟩=>?_)
 rw [evalPart_none]
 refine wpAny_pure ?_
 have I4:zH X pins σ H3 { s3 with heap:=s3.heap.push { cls:=.type "slice",data:=.fields #[vl,vu,.none] } }:=I3.kept (t':=s3.toks) λb ob q=>Heap.get?_push_of_some _ q
 obtain ⟨T,id,hT,ht,hg⟩:=hr pins { s3 with heap:=s3.heap.push { cls:=.type "slice",data:=.fields #[vl,vu,.none] } } σ H3 x v vl vu l u s3.heap.objs.size Q I4 r1 (Heap.IsSliceOf.new ..) pl pu q3
 show wpAny (model X.prog X.w) X.A (subscriptTail e (.Slice lo hi none p2) v (.ref s3.heap.objs.size)) (EP X pins σ Q) X.xe { s3 with heap:=s3.heap.push { cls:=.type "slice",data:=.fields #[vl,vu,.none] } }
 exact tail_any (ops:=[.ref s3.heap.objs.size,v]) ht hT hg (by with_unfolding_all rfl)
def wn (xs:List V) (lo hi:Option Int):List V:=(xs.drop (HT.sIx xs.length 0 lo)).take (HT.sIx xs.length xs.length hi - HT.sIx xs.length 0 lo)
theorem Ka (xs:List V) (lo hi:Option Int):(wn xs lo hi).length<=xs.length:=by
 unfold wn
 rw [List.length_take,List.length_drop]
 omega
def UO (K:PySem.W.Frag):V->Option Int->Option Int->Hp->VK->Prop:=λx lo hi H Q=>∃ a xs,x=.ref a/\yS K H a xs∧
 ¬ (HT.sIx xs.length 0 lo=0/\HT.sIx xs.length xs.length hi=xs.length)/\∀ p,H p=none->Q (.ref p) (zW H p (.tup (wn xs lo hi)))
theorem zQS:jy X (UO X.K):=by
 intro pins s σ H x v vl vu lo hi sl Q I rx hs pl pu h
 obtain ⟨a,xs,rfl,hx,hw,q⟩:=h
 cases rx
 obtain ⟨its,r,ht,hz⟩:=I.tuple hx
 have hlen:its.toArray.size=xs.length:=by rw [List.size_toArray]; exact r.length.symm
 refine ⟨"tuple",_,PyProof.Rows.slot_tuple_getitem.lookup,ht.typeIs,?_⟩
 refine HT.getItem_tuple_cut ht hs pl pu (by rw [hlen]; exact hw) ?_ (by rw [hlen]; exact hz)
 rw [hlen]
 refine ⟨.ref s.heap.objs.size,_,I.laid (t':=s.toks) (o:=.tup (wn xs lo hi)) (λb ob q=>Heap.get?_push_of_some _ q) (Nat.le_refl _) ?_,rfl,q _ (I.hok.fresh (Nat.le_refl _))⟩
 exact ⟨Nat.le_trans (Ka xs lo hi) hz,_,(r.drop (HT.sIx xs.length 0 lo)).take (HT.sIx xs.length xs.length hi - HT.sIx xs.length 0 lo),IsTup.new _ _⟩
def kg (K:PySem.W.Frag):R2:=λx y H Q=>∃ a b xs ys,x=.ref a/\y=.ref b/\yS K H a xs/\yS K H b ys/\xs≠[]/\xs.length + ys.length<=sizeLine∧
 (ys=[]->Q (.ref a) H)/\(ys≠[]->∀ p,H p=none->Q (.ref p) (zW H p (.tup (xs++ys))))
theorem zM.nil_iff {xs:List V} {us:List Value} (r:zM xs us):us=[] ↔ xs=[]:=by
 cases r with
 | nil=>simp
 | cons _ _=>simp
theorem zPd:yw X (binaryOp .Add) (kg X.K):=by
 intro pins s σ H x y v u Q I rx ry h
 obtain ⟨a,b,xs,ys,rfl,rfl,ha,hb,hx,hz,q1,q2⟩:=h
 cases rx
 cases ry
 obtain ⟨its,r1,p1,_⟩:=I.tuple ha
 obtain ⟨its2,r2,p2,_⟩:=I.tuple hb
 refine HT.cat_tup p1 p2 (λz=>hx (r1.nil_iff.mp z)) (λz=>⟨.ref a,H,I,rfl,q1 (r2.nil_iff.mp z)⟩) (λz=>?_) (by rw [<- r1.length,<- r2.length]; exact hz)
 refine ⟨.ref s.heap.objs.size,_,I.laid (t':=s.toks) (o:=.tup (xs++ys)) (λb ob q=>Heap.get?_push_of_some _ q) (Nat.le_refl _) ?_,rfl,q2 (λw=>z (r2.nil_iff.mpr w)) _ (I.hok.fresh (Nat.le_refl _))⟩
 exact ⟨by rw [List.length_append]; exact hz,_,r1.append r2,IsTup.new _ _⟩
end
end L2
namespace L2
open PySem PySem.Spec PyProof.Rows
def wG (n:Nat) (i:Int):Option Nat:=if 0<=i then (if i < n then some i.toNat else none) else if -(n:Int)<=i then some (i + n).toNat else none
def yL {α:Type} (xs:List α) (i:Int):Option α:=(wG xs.length i).bind λj=>xs[j]?
theorem Kb {n:Nat} {i:Int} {j:Nat} (h:wG n i=some j):seqIndex? i n=some j/\j < n/\-(n:Int)<=i/\i < n:=by
 unfold wG at h
 by_cases h0:0<=i
 ·rw [if_pos h0] at h
  by_cases h1:i < n
  ·rw [if_pos h1] at h
   have e:i.toNat=j:=Option.some.inj h
   exact ⟨by rw [seqIndex_of h0 h1,e],by omega,by omega,h1⟩
  ·rw [if_neg h1] at h; cases h
 ·rw [if_neg h0] at h
  by_cases h1 : -(n:Int)<=i
  ·rw [if_pos h1] at h
   have e:(i + n).toNat=j:=Option.some.inj h
   exact ⟨by rw [seqIndex_neg (by omega) h1,e],by omega,h1,by omega⟩
  ·rw [if_neg h1] at h; cases h
theorem Kc {α:Type} {xs:List α} {i:Int} {v:α} (h:yL xs i=some v):∃ j,seqIndex? i xs.length=some j/\xs[j]? = some v/\j < xs.length/\-(xs.length:Int)<=i/\i < xs.length:=by
 unfold yL at h
 cases e:wG xs.length i with
 | none=>rw [e] at h; cases h
 | some j=>
  rw [e] at h
  obtain ⟨h1,h2,h3,h4⟩:=Kb e
  exact ⟨j,h1,h,h2,h3,h4⟩
theorem Ke {α:Type} {xs:List α} {j:Nat} {v:α} (h:xs[j]? = some v):yL xs (j:Int)=some v:=by
 have hj:j < xs.length:=(List.getElem?_eq_some_iff.mp h).1
 have e:wG xs.length (j:Int)=some j:=by
  unfold wG
  rw [if_pos (by omega),if_pos (by omega)]; simp
 unfold yL; rw [e]; exact h
def UP (b:Expr):Prop:=∀ o i,subscripted b false o i=operate [o,i] (getItem o i)
def XJ (X:Cx) (r:R2):Prop:=
 ∀ (value slice:Expr) (pins:List (Addr × Obj)) (s:Shared) (σ:St) (H:Hp) (x y:V) (v u:Value) (Q:VK),zH X pins σ H s->zU x v->zU y u->r x y H Q->
  subscripted slice false v u=operate [v,u] (getItem v u)->wpAny (model X.prog X.w) X.A (subscriptTail value slice v u) (EP X pins σ Q) X.xe s
def Kf (X:Cx) (id:String) (r:V->List V->Hp->VK->Prop):Prop:=
 ∀ (pins:List (Addr × Obj)) (s:Shared) (σ:St) (H:Hp) (x:V) (xs:List V) (v:Value) (us:List Value) (Q:VK),zH X pins σ H s->zU x v->zM xs us->r x xs H Q->
  wpAny (model X.prog X.w) X.A (call (.builtin id) (v :: us)) (EP X pins σ Q) X.xe s
section
variable {X:Cx} {a b:Expr} {ta tb:TE} {pos:Pos}
theorem uF {r:R2} (hr:XJ X r) (ha:PE X a ta) (hb:PE X b tb) (hs:UP b):PE X (.Subscript a b pos) (kO r ta tb):=by
 intro pins s σ H Q I h
 exact Subscript_ (ju ha hb I h λv u s2 x y H2 I2 rx ry q=>hr a b pins s2 σ H2 x y v u Q I2 rx ry q (hs _ _))
def UQ (K:PySem.W.Frag):R2:=λx y H Q=>∃ p xs i v,x=.ref p/\y=.int i/\zR K H p xs/\yL xs i=some v/\Q v H
def UR (K:PySem.W.Frag):R2:=λx y H Q=>∃ p xs i v,x=.ref p/\y=.int i/\yS K H p xs/\yL xs i=some v/\Q v H
theorem uG:XJ X (UQ X.K):=by
 intro value slice pins s σ H x y v u Q I rx ry h hs
 obtain ⟨p,xs,i,z,rfl,rfl,hq,he,q⟩:=h
 cases rx
 obtain ⟨t,rfl⟩:=ry
 obtain ⟨its,r,pl,hz⟩:=I.list hq
 obtain ⟨j,h1,h2,h3,h4,h5⟩:=Kc he
 obtain ⟨w,ew,rw'⟩:=r.get h2
 have hl:=r.length
 have hn:=XE
 have fin:EP X pins σ Q w s:=⟨z,H,I,rw',q⟩
 by_cases h0:0<=i
 ·have hj:i.toNat=j:=by
   rw [seqIndex_of h0 h5] at h1
   exact Option.some.inj h1
  exact item_listR pl.isList h0 (by omega) (by rw [hj]; simpa using ew) fin hs
 ·have hj:(i + (its.toArray.size:Int)).toNat=j:=by
   rw [seqIndex_neg (by omega) h4] at h1
   rw [List.size_toArray,<- hl]
   exact Option.some.inj h1
  exact subscriptTail_builtinR (x:=w) pl.isList.typeIs slot_list_getitem.lookup
   (wpAny_getItem_list_neg (Q:=λr s'=>r=w/\EP X pins σ Q r s') pl.isList (by omega) (by rw [List.size_toArray] <;> omega) (by omega) (by rw [hj]; simpa using ew) ⟨rfl,fin⟩) hs
theorem zRK:XJ X (UR X.K):=by
 intro value slice pins s σ H x y v u Q I rx ry h hs
 obtain ⟨p,xs,i,z,rfl,rfl,hq,he,q⟩:=h
 cases rx
 obtain ⟨t,rfl⟩:=ry
 obtain ⟨its,r,pl,hz⟩:=I.tuple hq
 obtain ⟨j,h1,h2,h3,h4,h5⟩:=Kc he
 obtain ⟨w,ew,rw'⟩:=r.get h2
 have hl:=r.length
 have hn:=XE
 have fin:EP X pins σ Q w s:=⟨z,H,I,rw',q⟩
 exact subscriptTail_builtinR (x:=w) pl.typeIs slot_tuple_getitem.lookup
  (getItem_tuple (j:=j) (Q:=λr s'=>r=w/\EP X pins σ Q r s') pl (by omega) (by omega) (by rw [List.size_toArray,<- hl]; exact h1) (by simpa using ew) ⟨rfl,fin⟩) hs
theorem zK0 (its:List Value) (n j:Nat) (u:Value):Obj.mapSeq (·.setIfInBounds j u) { cls:=.type "list",data:=.seq its.toArray n }={ cls:=.type "list",data:=.seq (its.set j u).toArray n }:=by
 simp [Obj.mapSeq]
theorem zH.lst {pins:List (Addr × Obj)} {σ:St} {H:Hp} {s:Shared} {p:Addr} {xs:List V} (I:zH X pins σ H s) (h:H p=some (.lst xs)) :
  ∃ (its:List Value) (n:Nat),zM xs its/\s.heap.get? p=some { cls:=.type "list",data:=.seq its.toArray n }/\xs.length<=sizeLine:=by
 obtain ⟨z,its,n,r,e⟩:=I.hok p _ h
 exact ⟨its,n,r,e,z⟩
theorem zH.lstUpd {pins:List (Addr × Obj)} {σ:St} {H:Hp} {s:Shared} {p:Addr} {xs ys:List V} {its its':List Value} {n n':Nat} {f:Obj->Obj} (I:zH X pins σ H s) (h:H p=some (.lst xs))
  (ho:s.heap.get? p=some { cls:=.type "list",data:=.seq its.toArray n }) (hf:f { cls:=.type "list",data:=.seq its.toArray n }={ cls:=.type "list",data:=.seq its'.toArray n' }) (r:zM ys its') (hz:ys.length<=sizeLine) (t:Nat) :
  zH X pins σ (zW H p (.lst ys)) { s with heap:=s.heap.update p f,toks:=t }:=by
 have e:(s.heap.update p f).get? p=some { cls:=.type "list",data:=.seq its'.toArray n' }:=by
  rw [Heap.get?_update_self f ho (by rw [hf] <;> rfl),hf]
 refine I.write (x:=p) (e:=p) (by rw [h]; trivial) (.inl rfl) (λb u hb q=>(Heap.get?_update_other _ _ (Ne.symm hb)).trans q) ⟨_,e⟩ ?_
 exact ⟨hz,its',n',r,e⟩
def kh:V->V->V->Hp->(Hp->Prop)->Prop:=λo i v H Q=>∃ p xs k j,o=.ref p/\i=.int k/\H p=some (.lst xs)/\wG xs.length k=some j/\Q (zW H p (.lst (xs.set j v)))
theorem XM:kI X kh:=by
 intro pins s σ H o i v ov iv u Q I ro ri rv h
 obtain ⟨p,xs,k,j,rfl,rfl,hp,hj,q⟩:=h
 cases ro
 obtain ⟨t,rfl⟩:=ri
 obtain ⟨its,n,r,ho,hz⟩:=I.lst hp
 obtain ⟨h1,h2,h3,h4⟩:=Kb hj
 have hl:=r.length
 have hn:=XE
 have I':zH X pins σ (zW H p (.lst (xs.set j v))) { s with heap:=s.heap.update p (Obj.mapSeq (·.setIfInBounds j u)) }:=
  I.lstUpd hp ho (zK0 its n j u) (r.set rv j) (by rw [List.length_set]; exact hz) s.toks
 by_cases h0:0<=k
 ·have hk:k.toNat=j:=by
   rw [seqIndex_of h0 h4] at h1
   exact Option.some.inj h1
  exact PySem.W.ki_setAt ho h0 (by omega) (by rw [List.size_toArray,<- hl]; exact h4) (by rw [hk]; exact ⟨_,I',q⟩)
 ·have hk:(k + (its.toArray.size:Int)).toNat=j:=by
   rw [seqIndex_neg (by omega) h3] at h1
   rw [List.size_toArray,<- hl]
   exact Option.some.inj h1
  exact PySem.W.ki_setBack ho (by omega) (by rw [List.size_toArray,<- hl]; exact h3) (by omega) (by rw [hk]; exact ⟨_,I',q⟩)
theorem zIB (lo hi:Option Int) (n:Nat):(sliceBounds lo hi none n).1=((HT.sIx n 0 lo:Nat):Int)/\(sliceBounds lo hi none n).2.1=((HT.sIx n n hi:Nat):Int)/\(sliceBounds lo hi none n).2.2=1:=by
 refine ⟨?_,?_,rfl⟩
 ·cases lo with
  | none=>simp [sliceBounds,HT.sIx]
  | some i=>
   simp only [sliceBounds,HT.sIx,Option.getD_none,show (1:Int) > 0 by decide,if_true]
   by_cases h:i < 0
   ·simp only [h,if_true] <;> omega
   ·simp only [h,if_false] <;> omega
 ·cases hi with
  | none=>simp [sliceBounds,HT.sIx]
  | some i=>
   simp only [sliceBounds,HT.sIx,Option.getD_none,show (1:Int) > 0 by decide,if_true]
   by_cases h:i < 0
   ·simp only [h,if_true] <;> omega
   ·simp only [h,if_false] <;> omega
theorem zG6 (its:List Value) (lo hi:Option Int):slicePick its.toArray lo hi none=((its.drop (HT.sIx its.length 0 lo)).take (HT.sIx its.length its.length hi - HT.sIx its.length 0 lo)).toArray:=by
 obtain ⟨h1,h2,h3⟩:=zIB lo hi its.toArray.size
 unfold slicePick
 rw [h1,h2,h3]
 simp only [sliceRange_one,pick_run,List.size_toArray] <;> rfl
def US (K:PySem.W.Frag):V->Option Int->Option Int->Hp->VK->Prop:=λx lo hi H Q=>∃ a xs,x=.ref a/\zR K H a xs/\∀ p,H p=none->Q (.ref p) (zW H p (.lst (wn xs lo hi)))
theorem zPM:jy X (US X.K):=by
 intro pins s σ H x v vl vu lo hi sl Q I rx hs pl pu h
 obtain ⟨a,xs,rfl,hx,q⟩:=h
 cases rx
 obtain ⟨its,r,ht,hz⟩:=I.list hx
 have hlen:=r.length
 refine ⟨"list",_,slot_list_getitem.lookup,ht.isList.typeIs,?_⟩
 refine wpAny_getItem_list_slice ht.isList hs pl pu .none (by simp) ?_ (by rw [List.size_toArray] <;> omega)
 rw [zG6,<- hlen]
 refine ⟨.ref s.heap.objs.size,_,I.laid (t':=s.toks) (o:=.lst (wn xs lo hi)) (λb ob q=>Heap.get?_push_of_some _ q) (Nat.le_refl _) ?_,rfl,q _ (I.hok.fresh (Nat.le_refl _))⟩
 exact ⟨Nat.le_trans (Ka xs lo hi) hz,_,0,(r.drop (HT.sIx xs.length 0 lo)).take (HT.sIx xs.length xs.length hi - HT.sIx xs.length 0 lo),Heap.get?_push_size _ rfl⟩
theorem yf:vL X (.builtin "len") (λxs H Q=>∃ p ys,xs=[.ref p]/\(zR X.K H p ys\/yS X.K H p ys)/\Q (.int ys.length) H):=by
 intro pins s σ H xs us Q I r h
 obtain ⟨p,ys,rfl,hq,q⟩:=h
 obtain ⟨u,rfl,rx⟩:=ux r
 cases rx
 have hn:=XE
 rcases hq with hq | hq
 ·obtain ⟨its,r',pl,hz⟩:=I.list hq
  have hlen:=r'.length
  exact Calls.call_len_list pl.isList (by simp only [List.size_toArray] <;> omega) ⟨.int ys.length,H,I.tok _,⟨s.toks + 1,by rw [List.size_toArray,hlen]⟩,q⟩
 ·obtain ⟨its,r',pl,hz⟩:=I.tuple hq
  have hlen:=r'.length
  exact len_tuple pl (by simp only [List.size_toArray] <;> omega) ⟨.int ys.length,H,I.tok _,⟨s.toks + 1,by rw [List.size_toArray,hlen]⟩,q⟩
theorem v4:vL X (.type "list") (λxs H Q=>∃ p ys,xs=[.ref p]/\(zR X.K H p ys\/yS X.K H p ys)/\∀ l,H l=none->Q (.ref l) (zW H l (.lst ys))):=by
 intro pins s σ H xs us Q I r h
 obtain ⟨p,ys,rfl,hq,q⟩:=h
 obtain ⟨u,rfl,rx⟩:=ux r
 cases rx
 have fin:∀ (its:List Value),zM ys its->ys.length<=sizeLine->∀ (h':Heap) (c':Nat),(∀ b o',s.heap.get? b=some o'->h'.get? b=some o')->
   h'.get? s.heap.objs.size=some { cls:=.type "list",dict:=none,data:=.seq its.toArray c',slots:=#[] }->EP X pins σ Q (.ref s.heap.objs.size) { s with heap:=h' }:=λits r' hz h' c' kp e=>
  ⟨.ref s.heap.objs.size,_,I.laid (t':=s.toks) kp (Nat.le_refl _) (show wD X.prog X.w _ h' _ (.lst ys) from ⟨hz,its,c',r',e⟩),rfl,q _ (I.hok.fresh (Nat.le_refl _))⟩
 rcases hq with hq | hq
 ·obtain ⟨its,r',pl,hz⟩:=I.list hq
  have hlen:=r'.length
  obtain ⟨o,ho,hc,n,hd⟩:=pl.isList
  exact call_list_seq p (.inl rfl) ho hc hd (λh' c' kp e=>fin its r' hz h' c' kp e) (by simp only [List.size_toArray] <;> omega)
 ·obtain ⟨its,r',pl,hz⟩:=I.tuple hq
  have hlen:=r'.length
  obtain ⟨o,ho,hc,n,hd⟩:=pl
  exact call_list_seq p (.inr rfl) ho hc hd (λh' c' kp e=>fin its r' hz h' c' kp e) (by simp only [List.size_toArray] <;> omega)
theorem uX:vL X (.type "tuple") (λxs H Q=>∃ p ys,xs=[.ref p]/\((zR X.K H p ys/\∀ l,H l=none->Q (.ref l) (zW H l (.tup ys)))\/(yS X.K H p ys/\Q (.ref p) H))):=by
 intro pins s σ H xs us Q I r h
 obtain ⟨p,ys,rfl,h⟩:=h
 obtain ⟨u,rfl,rx⟩:=ux r
 cases rx
 rcases h with ⟨hq,q⟩ | ⟨hq,q⟩
 ·obtain ⟨its,r',pl,hz⟩:=I.list hq
  have hlen:=r'.length
  refine call_tuple_list pl.isList (λh' kp=>?_) (by simp only [List.size_toArray] <;> omega)
  have I1:zH X pins σ H { s with heap:=h' }:=I.kept (t':=s.toks) kp
  have I2:zH X pins σ (zW H h'.objs.size (.tup ys)) { s with heap:=h'.push { cls:=.type "tuple",data:=.seq its.toArray } }:=
   I1.laid (t':=s.toks) (λb o e=>Heap.get?_push_of_some _ e) (Nat.le_refl _) (show wD X.prog X.w _ _ _ (.tup ys) from ⟨hz,its,r',IsTup.new _ _⟩)
  exact ⟨.ref h'.objs.size,_,I2,rfl,q _ (I1.hok.fresh (Nat.le_refl _))⟩
 ·obtain ⟨its,r',pl,hz⟩:=I.tuple hq
  exact call_tuple_same pl ⟨.ref p,H,I,rfl,q⟩
def Kg (K:PySem.W.Frag) (T:String) (x:V) (H:Hp):Prop:=match x with
 | .str _=>T = "str"
 | .int _=>T = "int"
 | .ref p=>(T = "list"/\∃ xs,zR K H p xs)\/(T = "tuple"/\∃ o,K.lookup p=some o/\o.cls=.type "tuple"/\o.dict=none)∨
   (T = "dict"/\((∃ kvs,H p=some (.dK kvs))\/∃ kvs,H p=some (.dT kvs)))\/(T = "set"/\∃ S n,H p=some (.set S n))
 | _=>False
theorem zQG {pins:List (Addr × Obj)} {σ:St} {H:Hp} {s:Shared} {T:String} {x:V} {v:Value} (I:zH X pins σ H s) (r:zU x v) (ty:Kg X.K T x H) :
  s.TypeIs v T/\∀ a,v=.ref a->∃ ob,s.heap.get? a=some ob/\ob.dict=none:=by
 cases x with
 | str z=>
  obtain ⟨t,rfl⟩:=r
  cases (show T = "str" from ty)
  exact ⟨typeIs_str s z t,λ_ e=>nomatch e⟩
 | int i=>
  obtain ⟨t,rfl⟩:=r
  cases (show T = "int" from ty)
  exact ⟨typeIs_int s i t,λ_ e=>nomatch e⟩
 | ref p=>
  cases r
  rcases ty with ⟨rfl,xs,hq⟩ | ⟨rfl,o,hk,hc,hd⟩ | ⟨rfl,hk⟩ | ⟨rfl,S,n,hk⟩
  ·obtain ⟨its,_,pl,_⟩:=I.list hq
   refine ⟨pl.isList.typeIs,λa e=>?_⟩
   cases e
   obtain ⟨o,n,e,c,hd,_⟩:=pl
   exact ⟨o,e,hd⟩
  ·refine ⟨⟨o,I.kIn p o hk,hc⟩,λa e=>?_⟩
   cases e
   exact ⟨o,I.kIn _ o hk,hd⟩
  ·have z:∃ o,s.heap.get? p=some o/\o.ExactDict:=by
    rcases hk with ⟨kvs,hk⟩ | ⟨kvs,hk⟩
    ·obtain ⟨_,_,_,_,o,_,_,e,ex,_⟩:=I.hok p _ hk
     exact ⟨o,e,ex⟩
    ·obtain ⟨_,_,_,_,o,_,_,e,ex,_⟩:=I.hok p _ hk
     exact ⟨o,e,ex⟩
   obtain ⟨o,e,ex⟩:=z
   refine ⟨⟨o,e,ex.1⟩,λa e2=>?_⟩
   cases e2
   exact ⟨o,e,ex.2.1⟩
  ·obtain ⟨o,_,_,_,e,ex,_⟩:=I.hok p _ hk
   refine ⟨⟨o,e,ex.1⟩,λa e2=>?_⟩
   cases e2
   exact ⟨o,e,ex.2.1⟩
 | _=>exact False.elim ty
def Kh (K:PySem.W.Frag) (T:String) (r:V->List V->Hp->VK->Prop) (to:TE) (t:TA):TE:=λσ H Q=>to σ H λx H1=>Kg K T x H1/\t σ H1 λxs H2=>r x xs H2 Q
variable {o e:Expr} {es:List Expr} {to:TE} {t:TA} {name:Str} {apos cpos:Pos} {T id:String} {r:V->List V->Hp->VK->Prop}
theorem wQ (pa:PlainAttrs T) (slot:Slot T name id) (hty:typeOf (.builtin id)=pure (.type "method_descriptor")) (hm:Kf X id r) (ho:PE X o to) (ha:PA X (e :: es) t)
  (hbase:attributeBase o name X.env (eval o X.env)=eval o X.env:=by rfl)
  (hfew:((backTo cpos (starEach (e :: es) X.env)).all (λx=>!x.1) && (backToKw cpos (keywordEach [] X.env)).all (λx=>x.1.isSome)
   && decide ((e :: es).length + ([]:List Keyword).length + (if ([]:List Keyword).isEmpty then 0 else 1) < 30))=true:=by rfl)
  (hline:(apos.endLine == cpos.line)=true:=by rfl) (hs:starEach (e :: es) X.env=(false,eval e X.env) :: starEach es X.env:=by rfl) (hplain:(backTo cpos (starEach es X.env)).any (·.1)=false:=by rfl) :
  PE X (.Call (.Attribute o name apos) (e :: es) [] cpos) (Kh X.K T r to t):=by
 intro pins s σ H Q I h
 refine wpAny_Call_method_late hbase hfew hline rfl (zk (ho pins s σ H _ I h) λv s1 ⟨x,H1,I1,r1,ty,q1⟩=>?_)
 obtain ⟨h1,h2⟩:=zQG I1 r1 ty
 refine ⟨T,id,pa,slot,hty,h1,h2,?_⟩
 have hA:=ha cpos pins s1 σ H1 _ I1 q1
 rw [hs] at hA |-
 refine Calls.callWith_builtin (by show (false || (backTo cpos (starEach es X.env)).any (·.1))=false; rw [hplain] <;> rfl) (Calls.evalArgs_plain ?_)
 exact zk hA λus s2 ⟨vs,H2,I2,r2,q2⟩=>hm pins s2 σ H2 x vs v us Q I2 r1 r2 q2
/- xs.append(e),list.index on a module's tuple .. are Kf facts of 06m -/
end
end L2
namespace L2
open PySem PySem.Spec PyProof.Rows
def Ki (X:Cx) (id:String) (r:V->List V->Hp->VK->Prop):Prop:=
 ∀ (pins:List (Addr × Obj)) (s:Shared) (σ:St) (H:Hp) (x:V) (xs:List V) (v:Value) (us:List Value) (Q:VK),zH X pins σ H s->zU x v->zM xs us->r x xs H Q->
  wpAny (model X.prog X.w) X.A (call (.builtin id) (v :: us)) (EP X pins σ Q) X.xe s
theorem zM.one:∀ {x:V} {us:List Value},zM [x] us->∃ u,us=[u]/\zU x u
 | _,_,.cons r .nil=>⟨_,rfl,r⟩
theorem zM.rep {xs:List V} {us:List Value} (h:zM xs us):∀ k:Nat,zM (List.replicate k xs).flatten (List.replicate k us).flatten
 | 0=>.nil
 | k + 1=>by
  rw [List.replicate_succ,List.replicate_succ,List.flatten_cons,List.flatten_cons]
  exact zM.append h (zM.rep h k)
theorem Kj (its:List Value):∀ (k:Nat) (acc:List Value),
  List.foldl (λx1 x2=>x1++x2) acc.toArray (List.replicate k its.toArray)=(acc++(List.replicate k its).flatten).toArray
 | 0,acc=>by simp
 | k + 1,acc=>by
  have e:acc.toArray++its.toArray=(acc++its).toArray:=by simp
  have e2:(acc++its)++(List.replicate k its).flatten=acc++(List.replicate (k + 1) its).flatten:=by
   rw [List.replicate_succ,List.flatten_cons,List.append_assoc]
  rw [<- e2,<- Kj its k (acc++its),<- e,List.replicate_succ,List.foldl_cons]
section
variable {X:Cx} {pins:List (Addr × Obj)} {σ:St} {H:Hp} {s:Shared} {l b:Addr} {xs ys zs:List V}
theorem zH.lset {its its':List Value} {n:Nat} {f:Array Value->Array Value} {t':Nat} (I:zH X pins σ H s) (hH:H l=some (.lst xs))
  (e:s.heap.get? l=some { cls:=.type "list",data:=.seq its.toArray n }) (hf:f its.toArray=its'.toArray) (hv:zM ys its') (hz:ys.length<=sizeLine) :
  zH X pins σ (zW H l (.lst ys)) { s with heap:=s.heap.update l (Obj.mapSeq f),toks:=t' }:=by
 have q:=PySem.IsL.update e f
 rw [hf] at q
 refine I.write (x:=l) (e:=l) (by rw [hH]; exact trivial) (.inl rfl) (λb' u hb hu=>(Heap.get?_update_other s.heap (Obj.mapSeq f) (Ne.symm hb)).trans hu) ⟨_,q⟩ ?_
 exact ⟨hz,its',_,hv,q⟩
theorem zH.lnew {its:List Value} {t':Nat} (I:zH X pins σ H s) (hv:zM ys its) (hz:ys.length<=sizeLine) :
  zH X pins σ (zW H s.heap.objs.size (.lst ys)) { s with heap:=s.heap.push { cls:=.type "list",data:=.seq its.toArray },toks:=t' }:=
 I.laid (λ_ _ q=>Heap.get?_push_of_some _ q) (Nat.le_refl _) ⟨hz,its,0,hv,Heap.get?_push_size _ rfl⟩
theorem zH.fresh (I:zH X pins σ H s):H s.heap.objs.size=none:=I.hok.fresh (Nat.le_refl _)
theorem zH.lstM (I:zH X pins σ H s) (hH:H l=some (.lst xs)):xs.length<=sizeLine/\∃ (its:List Value) (n:Nat),zM xs its/\xs.length=its.length/\s.heap.get? l=some { cls:=.type "list",data:=.seq its.toArray n }:=by
 obtain ⟨z,its,n,r,e⟩:=I.hok l _ hH
 exact ⟨z,its,n,r,r.length,e⟩
theorem zN9 {n:Nat} (h:n<=sizeLine):Builtin.List.listTooLong n=false:=by
 unfold Builtin.List.listTooLong
 exact decide_eq_false (by omega)
end
section
variable {X:Cx}
def zPP:V->List V->Hp->VK->Prop:=λx vs H Q=>∃ l xs y,x=.ref l/\vs=[y]/\H l=some (.lst xs)/\xs.length < sizeLine/\Q .non (zW H l (.lst (xs++[y])))
theorem zMP:Ki X "list.append" zPP:=by
 intro pins s σ H x vs v us Q I rx rv h
 obtain ⟨l,xs,y,rfl,rfl,hH,hz,q⟩:=h
 cases rx
 obtain ⟨u,rfl,ru⟩:=rv.one
 obtain ⟨z,its,n,r,hl,e⟩:=I.lstM hH
 refine call_meets F.slot_list_append ⟨_,e,rfl⟩ F.entry_list_append (F.args_list_append_2 _ _) (PySem.list_append l its.toArray n u (by rw [List.size_toArray]; omega)) ⟨e,?_⟩
 refine ⟨.non,_,I.lset (its':=its++[u]) hH e (by simp) (r.append (.cons ru .nil)) ?_,rfl,q⟩
 rw [List.length_append,List.length_singleton]
 omega
def km:R2:=λx y H Q=>∃ l b xs zs,x=.ref l/\y=.ref b/\H l=some (.lst xs)/\H b=some (.lst zs)/\xs.length + zs.length<=sizeLine/\∀ p,H p=none->Q (.ref p) (zW H p (.lst (xs++zs)))
theorem zQ7:yw X (binaryOp .Add) km:=by
 intro pins s σ H x y v u Q I rx ry h
 obtain ⟨l,b,xs,zs,rfl,rfl,hH,hB,hz,q⟩:=h
 cases rx
 cases ry
 obtain ⟨z,its,n,r,hl,e⟩:=I.lstM hH
 obtain ⟨z2,its2,n2,r2,hl2,e2⟩:=I.lstM hB
 refine PySem.P.add_list e e2 ?_ (by rw [List.size_toArray,List.size_toArray]; omega)
 have ea:its.toArray++its2.toArray=(its++its2).toArray:=by simp
 rw [ea]
 exact ⟨.ref _,_,I.lnew (t':=s.toks) (r.append r2) (by rw [List.length_append]; omega),rfl,q _ I.fresh⟩
def ko:R2:=λx y H Q=>∃ l k xs,x=.ref l/\y=.int k/\H l=some (.lst xs)/\-(2 ^ 63)<=k/\k < 2 ^ 63/\xs.length * k.toNat<=sizeLine∧
 ∀ p,H p=none->Q (.ref p) (zW H p (.lst (List.replicate k.toNat xs).flatten))
theorem zPo {α:Type} (xs:List α) (k:Nat):(List.replicate k xs).flatten.length=k * xs.length:=by
 induction k with
 | zero=>simp
 | succ k ih=>rw [List.replicate_succ,List.flatten_cons,List.length_append,ih,Nat.succ_mul,Nat.add_comm]
theorem zQ1:yw X (binaryOp .Mult) ko:=by
 intro pins s σ H x y v u Q I rx ry h
 obtain ⟨l,k,xs,rfl,rfl,hH,h1,h2,hz,q⟩:=h
 cases rx
 obtain ⟨t,rfl⟩:=ry
 obtain ⟨z,its,n,r,hl,e⟩:=I.lstM hH
 have hlen:its.toArray.size * k.toNat<=sizeLine:=by rw [List.size_toArray,<- hl]; exact hz
 have hcap:¬ its.toArray.size * k.toNat > (2 ^ 63 - 1) / 8:=by
  have:(sizeLine:Nat)<=(2 ^ 63 - 1) / 8:=by decide
  omega
 have hfit:¬ (!Builtin.List.listFitsIndex k)=true:=by
  rw [fitsIndex_both h1 h2]
  exact Bool.false_ne_true
 have hlong:¬ Builtin.List.listTooLong (its.toArray.size * k.toNat)=true:=by
  rw [zN9 hlen]
  exact Bool.false_ne_true
 have hnew:List.foldl (λx1 x2=>x1++x2) #[] (List.replicate (if its.toArray.isEmpty=true then 0 else k.toNat) its.toArray)=(List.replicate k.toNat its).flatten.toArray:=by
  have f0:∀ m:Nat,List.foldl (λx1 x2=>x1++x2) #[] (List.replicate m its.toArray)=(List.replicate m its).flatten.toArray:=λm=>by
   have:=Kj its m []
   rw [List.nil_append] at this
   exact this
  rw [f0]
  cases its with
  | nil=>simp
  | cons a r'=>rw [if_neg (by simp)]
 refine wpAny_binaryOp_repeat_ref (T:="list") (U:="int") (by decide) ⟨_,e,rfl⟩ (λs'=>typeIs_int s' k t) noFill_list_mul F.fills_int_mul F.slot_int_rmul repeat_list F.slot_int_index.lookup
  (call_meets F.slot_int_rmul (typeIs_int s k t) F.entry_int_rmul (F.args_int_rmul_2 _ _) (int___rmul___int_list k t l its.toArray n)
   ⟨e,rfl,⟨_,e,rfl⟩,call_meets F.slot_list_mul ⟨_,e,rfl⟩ F.entry_list_mul (F.args_list_mul_2 _ _) (AutoListH.list___mul___list_int_3 l its.toArray n k t hfit hcap hlong) ⟨e,?_⟩⟩)
 rw [hnew]
 exact ⟨.ref _,_,I.lnew (t':=s.toks) (r.rep k.toNat) (by rw [zPo,Nat.mul_comm]; exact hz),rfl,q _ I.fresh⟩
end
section
variable {prog:Program} {w:World} {A:Around} {E:Value->Shared->Prop} {s:Shared}
end
section
variable {X:Cx}
end
end L2
namespace Att
open PySem PySem.W PySem.Calls PyProof.Rows
theorem zGK {P:Params} {h:Heap}:∀ (ns:List Int) (vs:List Value),WellAll P h vs (ns.map WData.int)->IntsAre vs ns:=by
 intro ns
 induction ns with
 | nil=>
  intro vs w
  rw [List.map_nil] at w
  cases w
  exact .nil
 | cons n ns ih=>
  intro vs w
  rw [List.map_cons] at w
  cases w with
  | cons a b=>
   cases a
   exact .cons _ _ (ih _ b)
theorem zLd {l:OpenLaw} {n:Nat} (hn:l.most=some n) {P:Params} {h:Heap} {args:List WData} {vals:List Value}
  (hpre:l.row.toRowW.claim.pre args=true) (hwl:WellAll P h vals args) :
  ∃ a vs ns,vals=[Value.ref a]/\args=[WData.list (ns.map WData.int)]/\h.get? a=some { cls:=.type "list",data:=.seq vs.toArray }/\IntsAre vs ns/\ns.length<=n:=by
 have hsh:WShape.hasAll [] args [.list .int]=true:=(pre_splitW hpre).1
 have hc:l.pre.holds [] { args:=args }=true:=(pre_splitW hpre).2
 obtain ⟨d,r,rfl,h1,h2⟩:=hasAllW_cons hsh
 obtain rfl:=hasAllW_nil h2
 obtain ⟨xs,rfl,h3⟩:=hasW_list h1
 obtain ⟨ns,rfl⟩:=items_int h3
 have hlen:ns.length<=n:=by
  unfold OpenLaw.pre at hc
  have h4:(WTm.not (.lt (.lit (.int (n:Int))) (.len (.arg 0)))).holds [] { args:=[.list (ns.map .int)] }=true:=by
   have h4:=(holds_andW hc).1
   rw [hn] at h4
   exact h4
  have h5:=condW_of h4 (w_not (w_lt w_lit (w_len_list (w_arg rfl))))
  rw [List.length_map] at h5
  refine Nat.le_of_not_lt λq=>?_
  have q':(n:Int) < ((ns.length:Nat):Int):=by omega
  first
   | (rw [decide_eq_true q'] at h5; exact absurd h5 (by decide))
   | (simp at h5; omega)
 cases hwl with
 | cons w1 w2=>
  cases w2
  cases w1 with
  | list ho hall=>exact ⟨_,_,ns,rfl,rfl,ho,zGK ns _ hall,hlen⟩
theorem zLu (l:OpenLaw) (args:List WData):l.row.toRowW.claim.post args (.bool true) args=true:=
 postW_of (r:=l.row.toRowW) (X:=(true == true))
  (show WShape.has [] (.bool true) .bool=true by first | rfl | decide | simp [WShape.has,WShape.arms,WShape.armsAll])
  (show (WTm.eq .res (.lit (.bool true))).value [] { args:=args,res:=some (.bool true),after:=args }=some (.bool (true == true)) from w_eq_bool (w_res rfl) w_lit) rfl
theorem attach_call {l:OpenLaw} {n:Nat} {q:Program} {loose:List Str} {XP:(Str->Option Value)->Heap->Prop} {YP:World->Heap->Prop} {d:DefRec}
  (hn:l.most=some n) (hdf:d.params.defaults=[])
  (call:∀ (w:World) (s₀ s₁:Shared) (mg mb:Str->Option Value) (fa:Addr) (o:Obj) (pm cd doc:Value) (a:Addr) (vs:List Value) (ns:List Int),
   Ground q loose [] XP w s₀ mg mb s₁.heap->YP w s₁.heap->
   s₁.heap.get? fa=some o->o.data=.func (docDef d.name d.params d.body d.scope pm cd doc)->s₁.heap.CodeRec cd d.name->mg d.name=some (.ref fa)->
   s₁.heap.get? a=some { cls:=.type "list",data:=.seq vs.toArray }->IntsAre vs ns->ns.length<=n->s₁.gens=#[]->
   codeAny (model l.prog w) callerA (.call (.ref fa) ⟨[.ref a],[]⟩) (λr s'=>r=.ok (.ret (.bool true))/\OldK s₁.heap s'.heap/\s'.os=s₁.os/\AllBare s'.gens) s₁) :
  WalkO q loose XP YP l.row.toRowW d [] (λf vs=>PySem.call f vs):=by
 intro w s₀ s₁ mg mb G Y fa o pm cd doc dV kV ho hd hcd hD hmg hg args vals as hpre hlay hrd hwl hlo
 obtain rfl:dV=.none:=Dflts.none hD hdf
 obtain rfl:kV=.none:=Dflts.noKw hD
 obtain ⟨a,vs,ns,rfl,rfl,hobj,hints,hlen⟩:=zLd hn hpre hwl
 refine enter_call (codeAny_mono (call w s₀ s₁ mg mb fa o pm cd doc a vs ns G Y ho (fd_plain hd) hcd hmg hobj hints hlen hg) λr s' hq=>?_)
 obtain ⟨rfl,h2,h3,h4⟩:=hq
 exact ⟨.inl ⟨.bool true,.bool true,[],rfl,λ_=>rfl,.bool true,zLu l _,λ_=>⟨List.Pairwise.nil,λ_ hm=>(nomatch hm)⟩⟩,h2,h3,h4⟩
section
variable {prog:Program} {w:World} {A:Around} {E:Value->Shared->Prop} {s:Shared} {K:Frag}
end
end Att
namespace L2
open PySem PySem.Spec PyProof.Rows
theorem Kk:∀ {vs:List Value} {ns:List Int},IntsAre vs ns->zM (ns.map V.int) vs
 | _,_,.nil=>.nil
 | _,_,.cons n t h=>.cons ⟨t,rfl⟩ (Kk h)
def jz (H:Hp):Prop:=∀ b,H b=none\/∃ o xs,H b=some (.frz o (.lst xs))
theorem law_call {P:Program} {w:World} {K:PySem.W.Frag} {mg mb:Str->Option Value} {CX:v0} {k:Nat} {fa a:Addr} {fd:FuncData} {x:Str} {sp:Sp} {s₁:Shared} {vs:List Value} {ns:List Int}
  (KX:K.In s₁.heap) (hns:s₁.heap.Ns mainGlobals mg) (hb:s₁.heap.Ns builtinsNs mb) (hbb:∀ x:Str,x≠"__name__"->mb x=bootBuiltins x) (hlim:s₁.heap.NoLimit) (hg:s₁.gens=#[])
  (ha:s₁.heap.get? a=some { cls:=.type "list",data:=.seq vs.toArray }) (hi:IntsAre vs ns) (hl:ns.length<=sizeLine) (hr:zo k callerA)
  (F:∀ base:Heap,K.In base->base.Ns mainGlobals mg->zG P w K mg base CX k fa fd [x] sp) (hbind:∀ (s:Shared) (u:Value),BindsTo s fd ⟨[u],[]⟩ [(x,u)])
  (hsp:∀ H:Hp,jz H->zR K H a (ns.map V.int)->sp [.ref a] H (λv _=>v=.bl true) λ_ _ _=>False)
  (hCX:∀ H e s',CX [] H s₁ (λ_ _ _=>False) e s'->False) :
  codeAny (model P w) callerA (.call (.ref fa) ⟨[.ref a],[]⟩) (λr s'=>r=.ok (.ret (.bool true))/\OldK s₁.heap s'.heap/\s'.os=s₁.os/\AllBare s'.gens) s₁:=by
 have rv:=Kk hi
 have lenV:=hi.length
 have core:∀ H:Hp,jz H->zR K H a (ns.map V.int)->xL P w H s₁.heap->(∀ b,H b≠none->b=a)->(H a≠none->K.lookup a=none)->
   codeAny (model P w) callerA (.call (.ref fa) ⟨[.ref a],[]⟩) (λr s'=>r=.ok (.ret (.bool true))/\OldK s₁.heap s'.heap/\s'.os=s₁.os/\AllBare s'.gens) s₁:=by
  intro H hO hS hok hA hK
  have base_of:∀ {b:Addr} {o:Obj},s₁.heap.get? b=some o->H b=none->(wP s₁.heap H).get? b=some o:=λe n=>zOI e n
  have noA:∀ {b:Addr} {o:Obj} {es:Array DictEntry} {ep:Nat},s₁.heap.get? b=some o->o.data=.dict es ep->H b=none:=λ{b o es ep} e d=>by
   cases q:H b with
   | none=>rfl
   | some u=>
    have e':b=a:=hA b (by rw [q]; simp)
    subst e'
    rw [ha] at e; cases e
    have d':Data.seq vs.toArray _=Data.dict es ep:=d
    cases d'
  have nsK:∀ {b:Addr} {m:Str->Option Value},s₁.heap.Ns b m->(wP s₁.heap H).Ns b m:=λ{b m} ⟨o,es,ep,e,d,r⟩=>⟨o,es,ep,base_of e (noA e d),d,r⟩
  have hKb:K.In (wP s₁.heap H):=λb o e=>base_of (KX b o e) (by
   cases q:H b with
   | none=>rfl
   | some u=>
    have e':b=a:=hA b (by rw [q]; simp)
    subst e'
    rw [hK (by rw [q]; simp)] at e; cases e)
  have hM:Mod K mg (wP s₁.heap H):=⟨hKb,nsK hns,⟨mb,nsK hb,hbb⟩,let ⟨mc,h1,h2⟩:=hlim; ⟨mc,nsK h1,h2⟩⟩
  have e0:vN P w K mg (wP s₁.heap H) callerA [] s₁ H:=⟨rfl,hM,λb o e=>zPm e,Nat.le_of_eq (zMX _ _),trivial,λb hb=>absurd (show b∈([]:List Addr) from hb) (by simp),hok,.of_eq hg⟩
  refine codeAny_mono ((F _ hKb (nsK hns)).run callerA [] s₁ H ⟨[.ref a],[]⟩ [.ref a] [.ref a] _ _ hr e0 (hbind s₁ (.ref a)) (.cons rfl .nil) (hsp H hO hS)) λr s' h=>?_
  cases r with
  | error e=>exact (hCX H e s' h).elim
  | ok fl=>
   cases fl with
   | next=>exact False.elim h
   | brk=>exact False.elim h
   | cont=>exact False.elim h
   | ret u=>
    obtain ⟨v,H',os,bare,un,hok',r',q⟩:=h
    have q':v=.bl true:=q
    subst q'
    obtain rfl:u=Value.bool true:=r'
    refine ⟨rfl,OldK.of_keep λb o e=>?_,os,bare⟩
    cases q:H b with
    | none=>exact un.keep b o e q (by intro z; exact absurd (show b∈([]:List Addr) from z) (by simp)) (by simp)
    | some u=>
     rcases hO b with z | ⟨ob,xs,z⟩
     ·rw [q] at z; cases z
     ·have z2:=un.frzs b ob _ z
      obtain ⟨e1,_⟩:=hok b _ z
      obtain ⟨e2,_⟩:=hok' b _ z2
      rw [e] at e1; cases e1
      exact e2
 cases hk:K.lookup a with
 | some o=>
  have e:=KX a o hk
  rw [ha] at e
  cases e
  refine core (λ_=>none) (λ_=>.inl rfl) (.inr ⟨_,vs.toArray,_,hk,rfl,rfl,rfl,by rw [List.size_toArray,lenV]; exact hl,by simpa using rv⟩) (λb u z=>by have z':(none:Option HO)=some u:=z; cases z') (λb z=>absurd rfl z) λz=>absurd rfl z
 | none=>
  refine core (λb=>if b=a then some (.frz { cls:=.type "list",data:=.seq vs.toArray } (.lst (ns.map V.int))) else none) (λb=>?_) (.inl (.inr ⟨{ cls:=.type "list",data:=.seq vs.toArray },if_pos rfl⟩)) (λb u z=>?_) (λb z=>?_) λ_=>hk
  ·by_cases hb:b=a
   ·exact .inr ⟨_,_,if_pos hb⟩
   ·exact .inl (if_neg hb)
  ·by_cases hb:b=a
   ·have z':=(if_pos hb).symm.trans z
    cases z'
    subst hb
    exact ⟨ha,by rw [List.length_map]; exact hl,vs,_,rv,ha⟩
   ·have z':=(if_neg hb).symm.trans z
    cases z'
  ·by_cases hb:b=a
   ·exact hb
   ·exact absurd (if_neg hb) z
end L2
namespace L2
open PySem PySem.Spec PyProof.Rows
theorem zPB {l:PySem.W.OpenLaw} {n k:Nat} {q:Program} {loose:List Str} {XP:(Str->Option Value)->Heap->Prop} {YP:World->Heap->Prop} {d:DefRec} {K:Params->PySem.W.Frag} {CX:World->v0} {sp:World->Sp} {x:Str}
  (hn:l.most=some n) (hn2:n<=sizeLine) (hdf:d.params.defaults=[]) (hr:zo k callerA)
  (hY:∀ (w:World) (h:Heap),YP w h->(K w.params).In h)
  (F:∀ (w:World) (mg:Str->Option Value) (fa:Addr) (h:Heap),(K w.params).In h->h.Ns mainGlobals mg->mg d.name=some (.ref fa)->
   ∃ fd:FuncData,(∀ (s:Shared) (u:Value),BindsTo s fd ⟨[u],[]⟩ [(x,u)])∧
    ∀ base:Heap,(K w.params).In base->base.Ns mainGlobals mg->zG l.prog w (K w.params) mg base (CX w) k fa fd [x] (sp w))
  (hsp:∀ (w:World) (H:Hp) (a:Addr) (ns:List Int),ns.length<=n->jz H->zR (K w.params) H a (ns.map V.int)->sp w [.ref a] H (λv _=>v=.bl true) λ_ _ _=>False)
  (hCX:∀ (w:World) (H:Hp) (s:Shared) (e:Value) (s':Shared),CX w [] H s (λ_ _ _=>False) e s'->False) :
  PySem.W.WalkO q loose XP YP l.row.toRowW d [] (λf vs=>PySem.call f vs):=by
 refine Att.attach_call hn hdf λw s₀ s₁ mg mb fa o pm cd doc a vs ns G Y ho hd hcd hmg hobj hints hlen hg=>?_
 have KX:=hY w _ Y
 obtain ⟨fd,hb,hF⟩:=F w mg fa _ KX G.T.g hmg
 exact law_call KX G.T.g G.T.b G.T.builtins G.T.nolimit hg hobj hints (Nat.le_trans hlen hn2) hr hF hb (λH hO hS=>hsp w H a ns hlen hO hS) λH e s'=>hCX w H s₁ e s'
end L2
namespace L2
open PySem PySem.Spec PyProof.Rows
def j2 (s:Stmt) (j:Nat):Stmt:=match s with
 | .ClassDef _ _ _ body _ _ _ _ _ _ _=>body.getD j (.Pass ⟨0,0,0,0⟩)
 | _=>.Pass ⟨0,0,0,0⟩
def wR (s:Stmt):Arguments:=match s with
 | .FunctionDef _ a _ _ _ _ _ _ _ _=>a
 | _=>{ posonlyargs:=[],args:=[],vararg:=none,kwonlyargs:=[],kw_defaults:=[],kwarg:=none,defaults:=[] }
def xY (s:Stmt):List Stmt:=match s with
 | .FunctionDef _ _ b _ _ _ _ _ _ _=>b
 | _=>[]
def zK (s:Stmt):Scope:=match s with
 | .FunctionDef _ _ _ _ _ _ sc _ _ _=>sc
 | _=>{ kind:=.function,names:=[],isGenerator:=false,isCoroutine:=false }
abbrev zY:v0:=λ_ _ _ _ _ _=>False
abbrev E0:XK:=λ_ _ _=>False
theorem XN {X:Cx}:gF zY X E0:=λ_ _ _ _ _ _ _ h=>h.elim
structure zj (K:PySem.W.Frag) (x qual:Str) (st:Stmt) (f:Addr) (fd:FuncData):Prop where
 ex:∃ (oc:Value) (od:Option Addr) (kV doc pm:Value) (an:Option Addr) (cdv ct:Value) (osl:Array (Option Value)),
  fd=PySem.W.fnOf x qual (wR st) (xY st) (zK st) .none kV doc pm an cdv ct/\K.lookup f=some ⟨oc,od,.func fd,osl⟩/\PySem.W.codeIn K cdv qual=true
 kp:PySem.W.keepIn K (.ref f)=true
section
variable {P:Program} {w:World} {K:PySem.W.Frag} {mg:Str->Option Value} {base:Heap}
theorem zj.ok {x qual:Str} {st:Stmt} {f:Addr} {fd:FuncData} {N ps:List Str} {k:Nat} {sp:Sp} (F:zj K x qual st f fd) (S:zh N ps (zK st)) (len:∀ vs H Q E,sp vs H Q E->vs.length=ps.length)
  (hbody:∀ (cdv:Value) (A:Around) (outer:List Env) (s:Shared) (H:Hp) (vs:List V) (Q:VK) (E:XK),zo k (A.deeper (envOfC qual (zK st) s.heap.objs.size f cdv))->sp vs H Q E->
   ∃ t,xJ (xh zY P w K mg base N qual (zK st) f cdv A outer s H E).nox (xY st) t/\t { nx:=λ_ H'=>Q .non H',rt:=Q } (vO N vs) H):zG P w K mg base zY (k + 1) f fd ps sp:=by
 obtain ⟨oc,od,kV,doc,pm,an,cdv,ct,osl,rfl,lk,hcd⟩:=F.ex
 refine KU lk hcd S len λA outer s H vs Q E hr hsp=>?_
 obtain ⟨t,h,q⟩:=hbody cdv A outer s H vs Q E hr hsp
 exact ⟨t,h.nox,q⟩
theorem zj.binds {x qual:Str} {st:Stmt} {f:Addr} {fd:FuncData} {ps:List Str} (F:zj K x qual st f fd)
  (h:∀ (kV doc pm:Value) (an:Option Addr) (cdv ct:Value) (us:List Value),us.length=ps.length->bindArgs (PySem.W.fnOf x qual (wR st) (xY st) (zK st) .none kV doc pm an cdv ct) ⟨us,[]⟩=pure (ps.zip us)):wm K fd ps []:=by
 obtain ⟨oc,od,kV,doc,pm,an,cdv,ct,osl,rfl,lk,hcd⟩:=F.ex
 exact .all (h kV doc pm an cdv ct)
theorem Kl {x qual:Str} {st:Stmt} {f:Addr} {oc:Value} {od an:Option Addr} {osl:Array (Option Value)} {kV doc pm cdv ct:Value} (l:K.lookup f=some ⟨oc,od,.func (PySem.W.fnOf x qual (wR st) (xY st) (zK st) .none kV doc pm an cdv ct),osl⟩)
  (c:PySem.W.codeIn K cdv qual=true) (k:PySem.W.keepIn K (.ref f)=true):zj K x qual st f (PySem.W.fnOf x qual (wR st) (xY st) (zK st) .none kV doc pm an cdv ct):=⟨⟨oc,od,kV,doc,pm,an,cdv,ct,osl,rfl,l,c⟩,k⟩
end
theorem uj {n:Nat} (h:n<=1000):n < sizeLine:=Nat.lt_of_le_of_lt h (by decide)
section
variable {X:Cx}
theorem pv (i:Nat) {x:Str} {pos:Pos} (hN:X.N[i]? = some x:=by rfl) (hv:jp X.env.scope x:=by first | exact Or.inl rfl | exact Or.inr (Or.inl rfl) | exact Or.inr (Or.inr rfl)) (hd:(x == ("__debug__" : Str))=false:=by decide)
  (hcd:(x == ("__classdict__" : Str))=false:=by decide):PE X (.Name x pos) (kB i):=W1 hN hv hd hcd
end
def zD (H H':Hp):Prop:=∀ b o,H b=some o->H' b=some o
theorem zD.refl (H:Hp):zD H H:=λ_ _ h=>h
theorem zD.trans {H H1 H2:Hp} (a:zD H H1) (b:zD H1 H2):zD H H2:=λc o h=>b c o (a c o h)
theorem zD.free {H H':Hp} (e:zD H H') {l:Addr} (h:H' l=Option.none):H l=Option.none:=by
 cases q:H l with
 | none=>rfl
 | some o=>
  rw [e l o q] at h
  cases h
end L2
set_option maxHeartbeats 4000000
namespace Sh
def vg (ns:List Int):Int:=ns.foldl (λc n=>(Int.gcd c n:Int)) 0
theorem zJH (ns:List Int) (n:Int):vg (ns++[n])=(Int.gcd (vg ns) n:Int):=by
 unfold vg
 rw [List.foldl_append]
 rfl
theorem zHp (ns:List Int):0<=vg ns:=by
 rcases List.eq_nil_or_concat ns with rfl | ⟨l,a,rfl⟩
 ·exact Int.le_refl 0
 ·rw [List.concat_eq_append,zJH]
  exact Int.natCast_nonneg _
def cm (t b:Int):Int:=if b < 0 then -(Int.gcd t b:Int) else (Int.gcd t b:Int)
def UT (t b:Int):Int:=t.fdiv (cm t b)
def UU (t b:Int):Int:=b.fdiv (cm t b)
end Sh
namespace Sh
def zRo (st:Int × Int) (p:Int × Int × Int):Int × Int:=(st.1 * p.2.2 + p.1 * p.2.1 * st.2,st.2 * p.2.2)
def jU (ws:List Int) (pts:List (Int × Int)):Int × Int:=(ws.zip pts).foldl zRo (0,1)
end Sh
namespace Sh
def kq (ws:List Int):List Int:=ws.map (·.fdiv (vg ws))
section
variable {β γ:Type}
def look (m:List (List Int × β)) (k:List Int):Option β:=(m.find? λkv=>decide (kv.1=k)).map (·.2)
def put (m:List (List Int × β)) (k:List Int) (v:β):List (List Int × β):=
 if (m.any λkv=>decide (kv.1=k))=true then m.map (λkv=>if kv.1=k then (kv.1,v) else kv) else m++[(k,v)]
theorem Km (m:List (List Int × β)) (k:List Int):(m.any λkv=>decide (kv.1=k))=(look m k).isSome:=by
 induction m with
 | nil=>rfl
 | cons p r ih=>
  unfold look at ih |-
  rw [List.any_cons,List.find?_cons,ih]
  by_cases e:p.1=k
  ·rw [decide_eq_true e]; rfl
  ·rw [decide_eq_false e]; rfl
theorem XO {m:List (List Int × β)} {k:List Int} (h:look m k=none):∀ p∈m,p.1≠k:=by
 intro p hp e
 have a:(m.any λkv=>decide (kv.1=k))=true:=List.any_eq_true.mpr ⟨p,hp,decide_eq_true e⟩
 rw [Km,h] at a
 cases a
theorem Kn {m:List (List Int × β)} {k:List Int} {v:β} {p:List Int × β} (h:p∈put m k v):p=(k,v)\/p∈m:=by
 unfold put at h
 split at h
 ·obtain ⟨q,hq,e⟩:=List.mem_map.mp h
  by_cases c:q.1=k
  ·rw [if_pos c] at e
   exact .inl (by rw [<- e,c])
  ·rw [if_neg c] at e
   exact .inr (e ▸ hq)
 ·rcases List.mem_append.mp h with h | h
  ·exact .inr h
  ·exact .inl (List.mem_singleton.mp h)
theorem zOC (m:List (List Int × β)) (k:List Int) (v:β):(put m k v).map (·.1)=if (look m k).isSome=true then m.map (·.1) else m.map (·.1)++[k]:=by
 unfold put
 rw [Km]
 split
 ·rw [List.map_map]
  refine List.map_congr_left λp _=>?_
  show (if p.1=k then (p.1,v) else p).1=p.1
  split <;> rfl
 ·rw [List.map_append]
  rfl
theorem zMO {m:List (List Int × β)} (k:List Int) (v:β) (h:(m.map (·.1)).Nodup):((put m k v).map (·.1)).Nodup:=by
 rw [zOC]
 split
 ·exact h
 ·rename_i c
  have n:look m k=none:=by
   cases e:look m k with
   | none=>rfl
   | some u=>rw [e] at c; exact absurd rfl c
  refine List.nodup_append.mpr ⟨h,by simp,λa ha b hb e=>?_⟩
  obtain ⟨p,hp,e1⟩:=List.mem_map.mp ha
  rw [List.mem_singleton.mp hb] at e
  exact XO n p hp (e1.trans e)
end
abbrev gG:=List (List Int × (Int × Int)) × Option (List Int)
abbrev kr:=List (List Int × (List Int × Int)) × Option (List Int)
def Ko (st:kr) (r:List Int × Int):kr:=
 if vg r.1≠0 then
  match look st.1 (kq r.1) with
  | none=>(put st.1 (kq r.1) r,st.2)
  | some o=>if r.2 * vg o.1 < o.2 * vg r.1 then (put st.1 (kq r.1) r,st.2) else st
 else if r.2 < 0 then (st.1,some r.1) else st
structure gH (st:kr):Prop where
 g0:∀ p∈st.1,0 < vg p.2.1
 way:∀ p∈st.1,p.1=kq p.2.1
 nd:(st.1.map (·.1)).Nodup
 z:∀ ws,st.2=some ws->vg ws=0
theorem UV {ws:List Int} (h:vg ws≠0):0 < vg ws:=by
 have:=zHp ws
 omega
theorem gH.put {st:kr} (h:gH st) {r:List Int × Int} (g:vg r.1≠0):gH (Sh.put st.1 (kq r.1) r,st.2):=by
 refine ⟨λp hp=>?_,λp hp=>?_,zMO _ _ h.nd,h.z⟩
 ·rcases Kn hp with e | hp
  ·rw [e]; exact UV g
  ·exact h.g0 p hp
 ·rcases Kn hp with e | hp
  ·rw [e]
  ·exact h.way p hp
theorem gH.step {st:kr} (h:gH st) (r:List Int × Int):gH (Ko st r):=by
 unfold Ko
 split
 ·rename_i g
  split
  ·exact h.put g
  ·split
   ·exact h.put g
   ·exact h
 ·rename_i g
  have g0:vg r.1=0:=Decidable.of_not_not g
  split
  ·refine ⟨h.g0,h.way,h.nd,λws e=>?_⟩
   cases e
   exact g0
  ·exact h
section
variable (num:List Int->Int) (den:Int)
def hl (r:List Int × Int):Bool:=decide (num r.1<=r.2 * den)
variable (hden:0 < den) (lin:∀ (ws:List Int) (c:Int),num (ws.map (· * c))=num ws * c)
include hden lin
end
end Sh
namespace L2
open PySem
def uY (env:Env) (cs:List (Str × Addr)) (p:Str × NameKind):List (Str × Addr):=if (p.2 == .free)=true then (p.1,(env.cells.lookup p.1).getD 0) :: cs else cs
def wS (scope:Scope) (env:Env):List (Str × Addr):=scope.names.foldl (uY env) []
theorem zK8 {env:Env}:∀ (names:List (Str × NameKind)) (cs:List (Str × Addr)),(∀ p∈names,p.2=.free->(env.cells.lookup p.1).isSome=true)->
  (forIn names cs (λ(p:Str × NameKind) (r:List (Str × Addr))=>(if (p.2 == .free)=true then do let a <- cellOf env p.1; pure (ForInStep.yield ((p.1,a) :: r)) else pure (ForInStep.yield r):Sem (ForInStep (List (Str × Addr))))))=pure (names.foldl (uY env) cs):=by
 intro names
 induction names with
 | nil=>intro cs _; rfl
 | cons p r ih=>
  intro cs h
  obtain ⟨n,k⟩:=p
  rw [List.forIn_cons]
  by_cases hk:k=.free
  ·subst hk
   obtain ⟨c,hc⟩:=Option.isSome_iff_exists.mp (h (n,.free) List.mem_cons_self rfl)
   have e:cellOf env n=pure c:=by unfold cellOf; dsimp only at hc; rw [hc]
   have z:uY env cs (n,.free)=(n,c) :: cs:=by unfold uY; dsimp only at hc |-; rw [hc]; rfl
   simp only [e,beq_self_eq_true,if_true,pure_bind,List.foldl_cons,z]
   exact ih _ λq hq=>h q (List.mem_cons_of_mem _ hq)
  ·have b:(k == NameKind.free)=false:=by simpa using hk
   have z:uY env cs (n,k)=cs:=by unfold uY; dsimp only; rw [b]; rfl
   simp only [b,Bool.false_eq_true,if_false,pure_bind,List.foldl_cons,z]
   exact ih _ λq hq=>h q (List.mem_cons_of_mem _ hq)
theorem UW {scope:Scope} {env:Env} (h:∀ p∈scope.names,p.2=.free->(env.cells.lookup p.1).isSome=true):closureFor scope env=pure (wS scope env):=by
 unfold closureFor wS
 have:=zK8 scope.names [] h
 exact (congrArg (λm=>m >>= λr=>pure r) this).trans rfl
theorem zMw {env:Env}:∀ (names:List (Str × NameKind)) (cs:List (Str × Addr)) (x:Str) (c:Addr),(x,c)∈names.foldl (uY env) cs->(x,c)∈cs\/((x,NameKind.free)∈names/\c=(env.cells.lookup x).getD 0):=by
 intro names
 induction names with
 | nil=>intro cs x c h; exact .inl h
 | cons p r ih=>
  intro cs x c h
  obtain ⟨n,k⟩:=p
  rw [List.foldl_cons] at h
  rcases ih _ x c h with h1 | ⟨h1,h2⟩
  ·unfold uY at h1
   dsimp only at h1
   by_cases hk:k=.free
   ·subst hk
    simp only [beq_self_eq_true,if_true] at h1
    rcases List.mem_cons.mp h1 with e | h1
    ·injection e with e1 e2
     subst e1; subst e2
     exact .inr ⟨List.mem_cons_self,rfl⟩
    ·exact .inl h1
   ·have b:(k == NameKind.free)=false:=by simpa using hk
    simp only [b,Bool.false_eq_true,if_false] at h1
    exact .inl h1
  ·exact .inr ⟨List.mem_cons_of_mem _ h1,h2⟩
theorem gI {α β:Type} [BEq α] [LawfulBEq α]:∀ {l:List (α × β)} {a:α} {b:β},l.lookup a=some b->(a,b)∈l
 | [],_,_,h=>by simp at h
 | (x,y) :: r,a,b,h=>by
  rw [List.lookup_cons] at h
  by_cases e:a=x
  ·subst e
   simp only [beq_self_eq_true,if_true] at h
   cases h
   exact List.mem_cons_self
  ·have:(a == x)=false:=by simpa using e
   simp only [this] at h
   exact List.mem_cons_of_mem _ (gI h)
theorem Kp {α β:Type} [BEq α] [LawfulBEq α]:∀ {l:List (α × β)} {a:α} {b:β},(a,b)∈l->∃ c,l.lookup a=some c
 | [],_,_,h=>by cases h
 | (x,y) :: r,a,b,h=>by
  rw [List.lookup_cons]
  by_cases e:a=x
  ·subst e
   exact ⟨y,by simp⟩
  ·have z:(a == x)=false:=by simpa using e
   rcases List.mem_cons.mp h with q | q
   ·injection q with q1 _; exact absurd q1 e
   ·obtain ⟨c,hc⟩:=Kp q
    exact ⟨c,by simp only [z]; exact hc⟩
theorem zMx {env:Env}:∀ (names:List (Str × NameKind)) (cs:List (Str × Addr)) (x:Str),((x,NameKind.free)∈names\/∃ c,(x,c)∈cs)->∃ c,(x,c)∈names.foldl (uY env) cs:=by
 intro names
 induction names with
 | nil=>
  intro cs x h
  rcases h with h | h
  ·cases h
  ·exact h
 | cons p r ih=>
  intro cs x h
  rw [List.foldl_cons]
  refine ih _ x ?_
  rcases h with h | ⟨c,h⟩
  ·rcases List.mem_cons.mp h with e | h
   ·subst e
    exact .inr ⟨_,by unfold uY; simp only [beq_self_eq_true,if_true]; exact List.mem_cons_self⟩
   ·exact .inl h
  ·refine .inr ⟨c,?_⟩
   unfold uY
   split
   ·exact List.mem_cons_of_mem _ h
   ·exact h
theorem j3 {scope:Scope} {env:Env} (h:∀ p∈scope.names,p.2=.free->(env.cells.lookup p.1).isSome=true) {x:Str} {c:Addr} (e:(wS scope env).lookup x=some c) :
  env.cells.lookup x=some c/\(x,NameKind.free)∈scope.names:=by
 rcases zMw scope.names [] x c (gI e) with z | ⟨z,q⟩
 ·cases z
 ·obtain ⟨d,hd⟩:=Option.isSome_iff_exists.mp (h _ z rfl)
  dsimp only at hd
  rw [hd] at q
  exact ⟨by rw [hd,q]; rfl,z⟩
theorem UX {scope:Scope} {env:Env} {x:Str} (h:(x,NameKind.free)∈scope.names):∃ c,(wS scope env).lookup x=some c:=by
 obtain ⟨c,hc⟩:=zMx (env:=env) scope.names [] x (.inl h)
 exact Kp hc
theorem Kq {scope:Scope} {env:Env} {x:Str} {k:NameKind} (h:(relabel scope env).names.lookup x=some k):(k=.cell/\((x,NameKind.free)∈scope.names\/(x,NameKind.cell)∈scope.names))\/(x,k)∈scope.names:=by
 have m:=gI h
 unfold relabel at m
 obtain ⟨⟨n,j⟩,hm,e⟩:=List.mem_map.mp m
 dsimp only at e
 split at e
 ·rename_i q
  injection e with e1 e2
  subst e1; subst e2
  have q1:j=NameKind.free:=by
   have:=(Bool.and_eq_true_iff.mp (Bool.and_eq_true_iff.mp q).1).1
   exact eq_of_beq this
  subst q1
  exact .inl ⟨rfl,.inl hm⟩
 ·injection e with e1 e2
  subst e1; subst e2
  exact .inr hm
end L2
namespace L2
open PySem
section
variable {prog:Program} {w:World} {A:Around} {R:Result->Shared->Prop} {s:Shared}
theorem zK7 {elt target iter:Expr} {scope:Scope} {pos:Pos} {it acc:Value} {env:Env} (Wd:Nat->Shared->Prop)
  (turn:∀ n s,Wd n s->wpAny (model prog w) A (pyNext it) (λr s1=>match r with
   | none=>R (.ok .next) s1
   | some v=>wpAny (model prog w) A (letOwnedTupleGo target it v) (λ_ s2=>wpAny (model prog w) A (assign target env v) (λ_ s3=>wpAny (model prog w) A (eval elt env) (λx s4=>
     wpAny (model prog w) A (call (.builtin "list.append") [acc,x]) (λ_ s5=>∃ m,m < n/\Wd m s5) (λ_ _=>False) s4) (λ_ _=>False) s3) (λ_ _=>False) s2) (λ_ _=>False) s1) (λ_ _=>False) s)
  (n:Nat) (h:Wd n s):codeAny (model prog w) A (.compLoop (.ListComp elt [⟨target,iter,[],0⟩] scope pos) 0 it acc env) R s:=by
 refine codeAny_loop rfl Wd (λn s hI=>?_) n h
 show wpAny _ _ (Sem.onRaise (compTurn (.ListComp elt [⟨target,iter,[],0⟩] scope pos) 0 it acc env) _) _ _ s
 refine wpAny_noted ?_
 rw [compTurn_list1]
 refine wpAny_bind (wpAny_standAt (wpAny_bind (wpAny_mono (turn n s hI) (λr s1 h1=>?_) λ_ _ z=>False.elim z)))
 cases r with
 | none=>exact wpAny_pure h1
 | some v=>
  refine wpAny_bind (wpAny_mono h1 (λ_ s2 h2=>?_) λ_ _ z=>False.elim z)
  refine wpAny_bind (wpAny_mono h2 (λ_ s3 h3=>?_) λ_ _ z=>False.elim z)
  refine wpAny_bind (wpAny_bind (wpAny_mono h3 (λx s4 h4=>?_) λ_ _ z=>False.elim z))
  exact wpAny_bind (wpAny_mono h4 (λ_ s5 h5=>wpAny_pure (wpAny_pure ⟨rfl,h5⟩)) λ_ _ z=>False.elim z)
end
end L2
namespace L2
open PySem PySem.Spec PyProof.Rows
def Bd (n:Nat) (i:Int):Prop:=i.natAbs < 2 ^ n
theorem Bd.mono {n m:Nat} {i:Int} (h:Bd n i) (k:n<=m:=by decide):Bd m i:=Nat.lt_of_lt_of_le h (Nat.pow_le_pow_right (by decide) k)
theorem Bd.of_le {n:Nat} {i j:Int} (h:Bd n j) (k:i.natAbs<=j.natAbs):Bd n i:=Nat.lt_of_le_of_lt k h
theorem Bd.mul {n m:Nat} {i j:Int} (h:Bd n i) (k:Bd m j):Bd (n + m) (i * j):=by
 unfold Bd
 rw [Int.natAbs_mul,Nat.pow_add]
 rcases Nat.eq_zero_or_pos j.natAbs with z | z
 ·rw [z,Nat.mul_zero]
  exact Nat.mul_pos (Nat.two_pow_pos _) (Nat.two_pow_pos _)
 ·exact Nat.lt_of_lt_of_le (Nat.mul_lt_mul_of_pos_right h z) (Nat.mul_le_mul_left _ (Nat.le_of_lt k))
theorem Bd.add {n:Nat} {i j:Int} (h:Bd n i) (k:Bd n j):Bd (n + 1) (i + j):=by
 have h':i.natAbs < 2 ^ n:=h
 have k':j.natAbs < 2 ^ n:=k
 unfold Bd
 rw [Nat.pow_succ]
 have:=Int.natAbs_add_le i j
 omega
theorem Bd.neg {n:Nat} {i:Int} (h:Bd n i):Bd n (-i):=by
 unfold Bd
 rw [Int.natAbs_neg]
 exact h
theorem Bd.sub {n:Nat} {i j:Int} (h:Bd n i) (k:Bd n j):Bd (n + 1) (i - j):=by
 rw [Int.sub_eq_add_neg]
 exact h.add k.neg
theorem Bd.lit {n:Nat} {i:Int} (h:i.natAbs < 2 ^ n:=by decide):Bd n i:=h
theorem Bd.bits {n:Nat} {i:Int} (h:Bd n i):Builtin.Int.intBits i<=n:=by
 have h':i.natAbs < 2 ^ n:=h
 unfold Builtin.Int.intBits
 split
 ·exact Nat.zero_le _
 ·rename_i z
  have nz:i.natAbs≠0:=by
   intro q
   apply z
   rw [Int.natAbs_eq_zero.mp q]
   rfl
  exact (Nat.log2_lt nz).mpr h'
theorem Bd.fdiv {n:Nat} {i:Int} (h:Bd n i) (j:Int):Bd n (i.fdiv j):=
 h.of_le (Int.natAbs_fdiv_le_natAbs i j)
def XQ (i j:Int):Prop:=Bd 60000 i/\Bd 60000 j
def Kr (_ j:Int):Prop:=j≠0/\Bd 8000 j
section
variable {X:Cx}
theorem XQ.ok {i j:Int} (h:XQ i j):IntMulOk i j:=by
 have h1:=h.1.bits
 have h2:=h.2.bits
 have hc:Builtin.Int.intTooBig (Builtin.Int.intBits i + Builtin.Int.intBits j)=false:=by
  unfold Builtin.Int.intTooBig
  rw [bitsLine_eq]
  exact decide_eq_false (by omega)
 unfold IntMulOk
 rw [hc]
 simp
theorem gJ:yw X (binaryOp .Mult) (rI XQ λi j=>.int (i * j)):=Y9 λ_ _ _ _ _ _ _ hc q=>mul_int q hc.ok
theorem zNy:yw X (binaryOp .FloorDiv) (rI Kr λi j=>.int (i.fdiv j)):=Y9 λ_ _ _ _ _ _ _ hc q=>by
 refine floordiv_int hc.1 q (.inl (PyProof.noPylong_of_log2 ?_))
 have h':_ < 2 ^ 8000:=hc.2
 have nz:_≠0:=λz=>hc.1 (Int.natAbs_eq_zero.mp z)
 exact Nat.lt_trans ((Nat.log2_lt nz).mpr h') (by decide)
end
section
variable {X:Cx}
def Ks (K:PySem.W.Frag):List V->Hp->VK->Prop:=λxs H Q=>∃ x c t b,xs=[x,.ty c]/\yV K H x t/\PySem.W.kitOne K t (.type c)=some b/\Q (.bl b) H
theorem wo:vL X (.builtin "isinstance") (Ks X.K):=by
 intro pins s σ H xs us Q I r h
 obtain ⟨x,c,t,b,rfl,ty,e,q⟩:=h
 obtain ⟨u,v,rfl,ru,rv⟩:=gD r
 cases (show v=Value.type c from rv)
 exact KI I ru ty e λtk=>⟨.bl b,H,I.tok tk,rfl,q⟩
end
mutual
inductive Dp (K:PySem.W.Frag) (H:Hp):V->PyData->Prop where
 | non:Dp K H .non .none
 | bl (b:Bool):Dp K H (.bl b) (.bool b)
 | int (i:Int):Dp K H (.int i) (.int i)
 | str (x:Str):Dp K H (.str x) (.str x)
 | lst {a:Addr} {xs:List V} {ds:List PyData} (e:zR K H a xs) (h:uZ K H xs ds):Dp K H (.ref a) (.list ds)
 | tup {a:Addr} {xs:List V} {ds:List PyData} (e:yS K H a xs) (h:uZ K H xs ds):Dp K H (.ref a) (.tuple ds)
inductive uZ (K:PySem.W.Frag) (H:Hp):List V->List PyData->Prop where
 | nil:uZ K H [] []
 | cons {x:V} {xs:List V} {d:PyData} {ds:List PyData} (h:Dp K H x d) (t:uZ K H xs ds):uZ K H (x :: xs) (d :: ds)
end
section
variable {X:Cx} {pins:List (Addr × Obj)} {σ:St} {H:Hp} {s:Shared}
mutual
theorem Dp.reads (I:zH X pins σ H s):∀ {x:V} {d:PyData} {u:Value},Dp X.K H x d->zU x u->∃ as,Reads s.heap u d as
 | _,_,_,.non,r=>by cases r; exact ⟨_,.none⟩
 | _,_,_,.bl b,r=>by cases r; exact ⟨_,.bool b⟩
 | _,_,_,.int i,r=>by obtain ⟨t,rfl⟩:=r; exact ⟨_,.int i t⟩
 | _,_,_,.str x,r=>by obtain ⟨t,rfl⟩:=r; exact ⟨_,.str x t⟩
 | _,_,_,.lst e h,r=>by
  cases r
  obtain ⟨its,rv,⟨o,n,e1,e2,_,e3⟩,_⟩:=I.list e
  obtain ⟨as,q⟩:=uZ.reads I h rv
  exact ⟨_,.list e1 e2 e3 (by simpa using q)⟩
 | _,_,_,.tup e h,r=>by
  cases r
  obtain ⟨its,rv,⟨o,e1,e2,n,e3⟩,_⟩:=I.tuple e
  obtain ⟨as,q⟩:=uZ.reads I h rv
  exact ⟨_,.tuple e1 e2 e3 (by simpa using q)⟩
theorem uZ.reads (I:zH X pins σ H s):∀ {xs:List V} {ds:List PyData} {us:List Value},uZ X.K H xs ds->zM xs us->∃ as,ReadsAll s.heap us ds as
 | _,_,_,.nil,r=>by cases r; exact ⟨_,.nil⟩
 | _,_,_,.cons h t,r=>by
  cases r with
  | cons r1 r2=>
   obtain ⟨_,q1⟩:=Dp.reads I h r1
   obtain ⟨_,q2⟩:=uZ.reads I t r2
   exact ⟨_,.cons q1 q2⟩
end
end
section
variable {X:Cx}
end
section
variable {X:Cx}
theorem vP (hc:X.calm=true):vL X (.builtin "all") (λxs H Q=>∃ (p:Addr) (bs:List Bool),xs=[.ref p]/\zR X.K H p (bs.map V.bl)/\Q (.bl (bs.all id)) H):=by
 intro pins s σ H xs us Q I r h
 obtain ⟨p,bs,rfl,hq,q⟩:=h
 obtain ⟨u,rfl,ru⟩:=ux r
 cases ru
 obtain ⟨its,rv,pl,hz⟩:=I.list hq
 have hh:X.A.in1.handled=none:=I.ok.hd hc
 have hlt:p < s.heap.objs.size:=by obtain ⟨o,n,e,_⟩:=pl; exact Heap.lt_size e
 refine call_all_walk (wpAny_pyIter_list pl.isList ?_)
 have hlen:its.length=bs.length:=by rw [<- rv.length,List.length_map]
 refine ⟨s.heap.objs.size,_,_,_,_,_,λi=>bs.getD i true,rfl,Walks.list hh s.heap.objs.size p (Nat.ne_of_lt hlt) its.toArray,⟨⟨_,Heap.get?_push_size _ rfl,rfl,rfl⟩,pl.isList.push _⟩,?_,λh' tk kk=>?_⟩
 ·intro i v s' Q' E' hP hQ'
  have e1:its[i]? = some v:=by simpa using hP
  have hi:i < its.length:=(List.getElem?_eq_some_iff.mp e1).1
  have hb:(bs.map V.bl)[i]? = some (.bl (bs.getD i true)):=by
   rw [List.getElem?_map,List.getElem?_eq_getElem (by omega),List.getD_eq_getElem?_getD,List.getElem?_eq_getElem (by omega)]
   rfl
  obtain ⟨u',e2,r2⟩:=rv.get hb
  rw [e1] at e2
  cases e2
  cases r2
  exact wpAny_truthy_bool hQ'
 ·have e:(List.range its.toArray.size).all (λi=>bs.getD i true)=bs.all id:=by
   rw [List.size_toArray,hlen]
   rw [Bool.eq_iff_iff,List.all_eq_true,List.all_eq_true]
   constructor
   ·intro z b hb
    obtain ⟨i,hi,rfl⟩:=List.mem_iff_getElem.mp hb
    have:=z i (List.mem_range.mpr hi)
    rw [List.getD_eq_getElem?_getD,List.getElem?_eq_getElem hi] at this
    exact this
   ·intro z i hi
    have hi':=List.mem_range.mp hi
    rw [List.getD_eq_getElem?_getD,List.getElem?_eq_getElem hi']
    exact z _ (List.getElem_mem hi')
  refine ⟨.bl (bs.all id),H,I.kept (h':=h') (t':=tk) λb o eb=>kk b o ?_ (Heap.get?_push_of_some _ eb),?_,q⟩
  ·intro hb
   have:b=s.heap.objs.size:=by simpa using hb
   rw [this] at eb
   exact absurd (Heap.lt_size eb) (Nat.lt_irrefl _)
  ·rw [e]
   rfl
end
end L2
namespace L2
open PySem PySem.Spec PyProof.Rows
def wU (own:List Str) (caps:List (Nat × Str)) (σ:St):St:=own.map (λ_=>none)++caps.map λp=>(σ[p.1]?).getD none
abbrev ze (own:List Str) (caps:List (Nat × Str)):List Str:=own++caps.map (·.2)
theorem Kt {scope:Scope} {env:Env} {x:Str}:(relabel scope env).names.lookup x=(scope.names.lookup x).map λk=>if (k == .free && env.scope.kind == .function && env.kindOf x == some .cell)=true then .cell else k:=by
 unfold relabel
 generalize scope.names=l
 induction l with
 | nil=>rfl
 | cons p r ih=>
  obtain ⟨n,k⟩:=p
  rw [List.map_cons]
  by_cases e:x=n
  ·subst e
   by_cases c:(k == NameKind.free && env.scope.kind == .function && env.kindOf x == some .cell)=true
   ·simp only [c,if_true,List.lookup_cons,beq_self_eq_true,Option.map_some]
   ·simp only [c,if_false,List.lookup_cons,beq_self_eq_true,Option.map_some,Bool.false_eq_true]
  ·have z:(x == n)=false:=by simpa using e
   dsimp only
   split <;> simp only [List.lookup_cons,z] <;> exact ih
def ku (J:It) (g:TG) (te:TE) (Q:VK) (σ0:St) (H1:Hp):Prop:=∃ W:Nat->Nat->List V->St->Hp->Prop,(∃ m,W 0 m [] σ0 H1)∧
 ∀ i m ys σ1 H,W i m ys σ1 H->(J.stop i H/\∀ p,H p=none->Q (.ref p) (zW H p (.lst ys)))∨
  (J.go i H/\ys.length < sizeLine/\∃ N:V->St->Hp->Prop,(∀ y σ' H',N y σ' H'->∃ m',m' < m/\W (i + 1) m' (ys++[y]) σ' H')/\∀ x H',J.yld i H x H'->g x σ1 H' λσ2 H2=>te σ2 H2 λy H3=>N y σ2 H3)
def Ku (own:List Str) (caps:List (Nat × Str)) (wi:TI) (g:TG) (te:TE):TE:=λσ H Q=>wi σ H λJ H1=>ku J g te Q (wU own caps σ) H1
section
variable {X:Cx} {scope:Scope} {own:List Str} {caps:List (Nat × Str)} {pins:List (Addr × Obj)} {σ:St} {H:Hp} {s s4:Shared} {C D:Addr} {fp:List Addr}
theorem zOU {i:Nat} {x:Str} {v:V} (h1:(ze own caps)[i]? = some x) (h2:(wU own caps σ)[i]? = some (some v)):∃ j,(j,x)∈caps/\σ[j]? = some (some v):=by
 unfold wU at h2
 by_cases hi:i < own.length
 ·rw [List.getElem?_append_left (by simpa using hi),List.getElem?_map] at h2
  cases e:own[i]? with
  | none=>rw [e] at h2; cases h2
  | some a=>rw [e] at h2; cases h2
 ·rw [List.getElem?_append_right (by simpa using hi),List.length_map,List.getElem?_map] at h2
  unfold ze at h1
  rw [List.getElem?_append_right (by omega),List.getElem?_map] at h1
  cases e:caps[i - own.length]? with
  | none=>rw [e] at h1; cases h1
  | some p=>
   obtain ⟨j,n⟩:=p
   rw [e] at h1 h2
   cases h1
   refine ⟨j,List.mem_of_getElem? e,?_⟩
   simp only [Option.map_some,Option.some.injEq] at h2
   cases q:σ[j]? with
   | none=>rw [q] at h2; cases h2
   | some o=>rw [q] at h2; exact congrArg some h2
abbrev yg (its:List Value) (k:Nat):Obj:={ cls:=.type "list",data:=.seq its.toArray k }
theorem Kv {Y:Cx} {its:List Value} {k:Nat} {y:Value} {pl:List (Addr × Obj)} {Q:Value->Shared->Prop} {E:Value->Shared->Prop} (I:zH Y ((D,yg its k) :: pl) σ H s) (hn:yU Y [] H D) (hp:Y.pn=[]) (hz:its.length<=sizeLine)
  (q:∀ h' k' tk,(∀ b o,b≠D->s.heap.get? b=some o->h'.get? b=some o)->zH Y [(D,yg (its++[y]) k')] σ H { s with heap:=h',toks:=tk }->Q .none { s with heap:=h',toks:=tk }) :
  wpAny (model Y.prog Y.w) Y.A (call (.builtin "list.append") [.ref D,y]) Q E s:=by
 have pD:=I.pin (D,yg its k) (List.mem_append_right _ List.mem_cons_self)
 have e:s.heap.get? D=some (yg its k):=pD.1
 refine call_meets F.slot_list_append ⟨_,e,rfl⟩ F.entry_list_append (F.args_list_append_2 _ _) (PySem.list_append D its.toArray k y (by rw [List.size_toArray]; exact hz)) ⟨e,?_⟩
 have e2:=PySem.IsL.update e (·.push y)
 have ea:its.toArray.push y=(its++[y]).toArray:=by simp
 have keep:∀ b o,b≠D->s.heap.get? b=some o->(s.heap.update D (Obj.mapSeq (·.push y))).get? b=some o:=λb o hb eb=>(Heap.get?_update_other s.heap _ (Ne.symm hb)).trans eb
 have I0:zH Y [] σ H s:=I.pins_of λp hp'=>by cases hp'
 have I1:zH Y [] σ H { s with heap:=s.heap.update D (Obj.mapSeq (·.push y)),toks:=s.toks }:=I0.turned keep hn.1 hn.2.1 hn.2.2.2.1 hn.2.2.2.2.1 hn.2.2.2.2.2
 have e3:(s.heap.update D (Obj.mapSeq (·.push y))).get? D=some (yg (its++[y]) _):=e2.trans (by rw [ea])
 have I2:zH Y [(D,yg (its++[y]) (if ((its++[y]).toArray.size == its.toArray.size)=true then k else k + 1))] σ H { s with heap:=s.heap.update D (Obj.mapSeq (·.push y)),toks:=s.toks }:=I1.pins_of λp hp'=>by
  rw [List.mem_singleton.mp hp']
  exact ⟨e3,hn.1,hn.2.1,hn.2.2.1,λv z=>by cases z⟩
 exact q _ _ s.toks keep I2
end
section
variable {X:Cx} {scope:Scope} {own:List Str} {caps:List (Nat × Str)} {elt tg iter:Expr} {wi:TI} {g:TG} {te:TE} {pos:Pos}
end
end L2
namespace L2
open PySem PySem.Spec PyProof.Rows
theorem zMu {K:PySem.W.Frag} {a:Addr} {xs:List V} {g:TG} {te:TE} {σ0:St} {H:Hp} {Q:VK} (Pv:Nat->List V->St->Hp->Prop) (h0:Pv 0 [] σ0 H) (hl:∀ i ys σ H,i<=xs.length->Pv i ys σ H->zR K H a xs/\ys.length<=i) (hz:xs.length<=sizeLine)
  (hs:∀ i x ys σ H,xs[i]? = some x->Pv i ys σ H->g x σ H λσ2 H2=>te σ2 H2 λy H3=>Pv (i + 1) (ys++[y]) σ2 H3)
  (hd:∀ ys σ H,Pv xs.length ys σ H->∀ p,H p=none->Q (.ref p) (zW H p (.lst ys))) :
  ku (jR K a) g te Q σ0 H:=by
 refine ⟨λi m ys σ H=>m=xs.length - i/\i<=xs.length/\Pv i ys σ H,⟨xs.length,by simp,Nat.zero_le _,h0⟩,?_⟩
 rintro i m ys σ H ⟨rfl,hi,p⟩
 obtain ⟨q,hy⟩:=hl i ys σ H hi p
 by_cases hlt:i < xs.length
 ·refine .inr ⟨⟨xs,xs[i],q,by simp [hlt]⟩,by omega,λy σ' H'=>Pv (i + 1) (ys++[y]) σ' H',λy σ' H' z=>⟨xs.length - (i + 1),by omega,rfl,hlt,z⟩,λx H' y=>?_⟩
  obtain ⟨e,y⟩:=y
  subst e
  exact hs i x ys σ _ (y xs q) p
 ·have e:i=xs.length:=by omega
  subst e
  exact .inl ⟨⟨xs,q,Nat.le_refl _⟩,hd ys σ H p⟩
theorem XR {lo:Int} {n:Nat} {g:TG} {te:TE} {σ0:St} {H:Hp} {Q:VK} (Pv:Nat->List V->St->Hp->Prop) (h0:Pv 0 [] σ0 H) (hl:∀ i ys σ H,Pv i ys σ H->ys.length<=i) (hz:n<=sizeLine)
  (hs:∀ i ys σ H,i < n->Pv i ys σ H->g (.int (lo + i)) σ H λσ2 H2=>te σ2 H2 λy H3=>Pv (i + 1) (ys++[y]) σ2 H3)
  (hd:∀ ys σ H,Pv n ys σ H->∀ p,H p=none->Q (.ref p) (zW H p (.lst ys))):ku (jS lo n) g te Q σ0 H:=by
 refine ⟨λi m ys σ H=>m=n - i/\i<=n/\Pv i ys σ H,⟨n,by simp,Nat.zero_le _,h0⟩,?_⟩
 rintro i m ys σ H ⟨rfl,hi,p⟩
 have hy:=hl i ys σ H p
 by_cases hlt:i < n
 ·refine .inr ⟨hlt,by omega,λy σ' H'=>Pv (i + 1) (ys++[y]) σ' H',λy σ' H' z=>⟨n - (i + 1),by omega,rfl,hlt,z⟩,λx H' y=>?_⟩
  obtain ⟨e,y⟩:=y
  subst e y
  exact hs i ys σ _ hlt p
 ·have e:i=n:=by omega
  subst e
  exact .inl ⟨Nat.le_refl _,hd ys σ H p⟩
structure Fn (P:Program) (w:World) (K:PySem.W.Frag) (mg:Str->Option Value) (base:Heap) (x:Str) (ps:List Str) (k:Nat) (sp:Sp):Prop where
 ex:∃ f fd,zG P w K mg base zY k f fd ps sp/\mg x=some (.ref f)/\PySem.W.keepIn K (.ref f)=true/\wm K fd ps []
theorem Fn.mono {P:Program} {w:World} {K:PySem.W.Frag} {mg:Str->Option Value} {base:Heap} {x:Str} {ps:List Str} {j k:Nat} {sp:Sp} (F:Fn P w K mg base x ps j sp) (h:j<=k:=by decide):Fn P w K mg base x ps k sp:=by
 obtain ⟨f,fd,a,b,c,d⟩:=F.ex
 exact ⟨f,fd,a.mono h,b,c,d⟩
theorem UY {X:Cx} {x:Str} {ps:List Str} {k:Nat} {sp:Sp} {e:Expr} {es:List Expr} {t:TA} {p pos:Pos} (F:Fn X.prog X.w X.K X.mg X.base x ps k sp) (hr:zo k X.A) (hg:Gl X x) (ha:PA X (e :: es) t)
  (hdb:(x == ("__debug__" : Str))=false:=by decide) (he:starEach (e :: es) X.env=(false,eval e X.env) :: starEach es X.env:=by rfl) (hpl:(backTo pos (starEach es X.env)).any (·.1)=false:=by rfl) :
  PE X (.Call (.Name x p) (e :: es) [] pos) (UM sp [] E0 t):=by
 obtain ⟨f,fd,a,b,c,d⟩:=F.ex
 exact KO a hr hg b c d .nil XN ha hdb he hpl
end L2
namespace L2
open PySem PySem.Spec PyProof.Rows
theorem xo:bootBuiltins "isinstance" = some (.builtin "isinstance"):=by decide +kernel
theorem yh:bootBuiltins "len" = some (.builtin "len"):=by decide +kernel
theorem vQ:bootBuiltins "all" = some (.builtin "all"):=by decide +kernel
theorem kz:bootBuiltins "int" = some (.type "int"):=by decide +kernel
theorem Kw:bootBuiltins "bool" = some (.type "bool"):=by decide +kernel
theorem vI:bootBuiltins "tuple" = some (.type "tuple"):=by decide +kernel
theorem xq:bootBuiltins "list" = some (.type "list"):=by decide +kernel
section
variable (K:PySem.W.Frag)
end
structure xG (K:PySem.W.Frag) (x qual:Str) (st:Stmt) (f:Addr) (fd:FuncData) (d:Value):Prop where
 ex:∃ (oc:Value) (od:Option Addr) (kV doc pm:Value) (an:Option Addr) (cdv ct:Value) (osl:Array (Option Value)) (T:Addr) (oT:Obj) (n:Nat),
  fd=PySem.W.fnOf x qual (wR st) (xY st) (zK st) (.ref T) kV doc pm an cdv ct/\K.lookup f=some ⟨oc,od,.func fd,osl⟩/\PySem.W.codeIn K cdv qual=true/\K.lookup T=some oT/\oT.data=.seq #[d] n
 kp:PySem.W.keepIn K (.ref f)=true
theorem xG.ok {P:Program} {w:World} {K:PySem.W.Frag} {mg:Str->Option Value} {base:Heap} {x qual:Str} {st:Stmt} {f:Addr} {fd:FuncData} {d:Value} {N ps:List Str} {k:Nat} {sp:Sp} (F:xG K x qual st f fd d) (S:zh N ps (zK st))
  (len:∀ vs H Q E,sp vs H Q E->vs.length=ps.length)
  (hbody:∀ (cdv:Value) (A:Around) (outer:List Env) (s:Shared) (H:Hp) (vs:List V) (Q:VK) (E:XK),zo k (A.deeper (envOfC qual (zK st) s.heap.objs.size f cdv))->sp vs H Q E->
   ∃ t,xJ (xh zY P w K mg base N qual (zK st) f cdv A outer s H E).nox (xY st) t/\t { nx:=λ_ H'=>Q .non H',rt:=Q } (vO N vs) H):zG P w K mg base zY (k + 1) f fd ps sp:=by
 obtain ⟨oc,od,kV,doc,pm,an,cdv,ct,osl,T,oT,n,rfl,lk,hcd,_⟩:=F.ex
 refine KU lk hcd S len λA outer s H vs Q E hr hsp=>?_
 obtain ⟨t,h,q⟩:=hbody cdv A outer s H vs Q E hr hsp
 exact ⟨t,h.nox,q⟩
end L2
namespace L2
open PySem PySem.Spec PyProof.Rows
theorem Kx {K:PySem.W.Frag} {x qual:Str} {st:Stmt} {f T:Addr} {oc kV doc pm cdv ct d:Value} {od an:Option Addr} {osl:Array (Option Value)} {oT:Obj} {n:Nat} (l:K.lookup f=some ⟨oc,od,.func (PySem.W.fnOf x qual (wR st) (xY st) (zK st) (.ref T) kV doc pm an cdv ct),osl⟩)
  (c:PySem.W.codeIn K cdv qual=true) (k:PySem.W.keepIn K (.ref f)=true) (t:K.lookup T=some oT) (e:oT.data=.seq #[d] n):xG K x qual st f (PySem.W.fnOf x qual (wR st) (xY st) (zK st) (.ref T) kV doc pm an cdv ct) d:=
 ⟨⟨oc,od,kV,doc,pm,an,cdv,ct,osl,T,oT,n,rfl,l,c,t,e⟩,k⟩
theorem xG.binds {K:PySem.W.Frag} {x qual:Str} {st:Stmt} {f:Addr} {fd:FuncData} {d:Value} {ps:List Str} (F:xG K x qual st f fd d)
  (h:∀ (T:Addr) (kV doc pm:Value) (an:Option Addr) (cdv ct:Value) (us:List Value),us.length=ps.length->∃ k:Option (Array Value)->Sem (List (Str × Value)),
   bindArgs (PySem.W.fnOf x qual (wR st) (xY st) (zK st) (.ref T) kV doc pm an cdv ct) ⟨us,[]⟩=seqItems? (.ref T) >>= k/\k (some #[d])=pure (ps.zip us)):wm K fd ps []:=by
 obtain ⟨oc,od,kV,doc,pm,an,cdv,ct,osl,T,oT,n,rfl,lk,hcd,t,e⟩:=F.ex
 intro s us X hl
 rw [List.append_nil] at hl |-
 obtain ⟨k,h1,h2⟩:=h T kV doc pm an cdv ct us hl
 exact .of_defaults (T:=T) rfl (X T oT t) e h1 h2
end L2
namespace L2
open PySem PySem.Spec PyProof.Rows
structure vh (P:Program) (w:World) (K:PySem.W.Frag) (mg:Str->Option Value) (base:Heap) (x:Str) (ps:List Str) (k:Nat) (sp:Sp) (dv:V):Prop where
 ex:∃ f fd d,zG P w K mg base zY k f fd ps sp/\mg x=some (.ref f)/\PySem.W.keepIn K (.ref f)=true/\wm K fd ps []/\wm K fd ps [d]/\zU dv d
theorem vh.mono {P:Program} {w:World} {K:PySem.W.Frag} {mg:Str->Option Value} {base:Heap} {x:Str} {ps:List Str} {j k:Nat} {sp:Sp} {dv:V} (F:vh P w K mg base x ps j sp dv) (h:j<=k:=by decide):vh P w K mg base x ps k sp dv:=by
 obtain ⟨f,fd,d,a,b,c,e⟩:=F.ex
 exact ⟨f,fd,d,a.mono h,b,c,e⟩
theorem vh.fn {P:Program} {w:World} {K:PySem.W.Frag} {mg:Str->Option Value} {base:Heap} {x:Str} {ps:List Str} {k:Nat} {sp:Sp} {dv:V} (F:vh P w K mg base x ps k sp dv):Fn P w K mg base x ps k sp:=by
 obtain ⟨f,fd,d,a,b,c,e,_⟩:=F.ex
 exact ⟨f,fd,a,b,c,e⟩
theorem zLz {X:Cx} {x:Str} {ps:List Str} {k:Nat} {sp:Sp} {e:Expr} {es:List Expr} {t:TA} {p pos:Pos} {dv:V} (F:vh X.prog X.w X.K X.mg X.base x ps k sp dv) (hr:zo k X.A) (hg:Gl X x) (ha:PA X (e :: es) t)
  (hdb:(x == ("__debug__" : Str))=false:=by decide) (he:starEach (e :: es) X.env=(false,eval e X.env) :: starEach es X.env:=by rfl) (hpl:(backTo pos (starEach es X.env)).any (·.1)=false:=by rfl) :
  PE X (.Call (.Name x p) (e :: es) [] pos) (UM sp [dv] E0 t):=by
 obtain ⟨f,fd,d,a,b,c,_,h2,r⟩:=F.ex
 exact KO a hr hg b c h2 (.cons r .nil) XN ha hdb he hpl
theorem xG.binds1 {K:PySem.W.Frag} {x qual:Str} {st:Stmt} {f:Addr} {fd:FuncData} {d:Value} {ps:List Str} (F:xG K x qual st f fd d)
  (h:∀ (T:Addr) (kV doc pm:Value) (an:Option Addr) (cdv ct:Value) (us:List Value),us.length + 1=ps.length->∃ k:Option (Array Value)->Sem (List (Str × Value)),
   bindArgs (PySem.W.fnOf x qual (wR st) (xY st) (zK st) (.ref T) kV doc pm an cdv ct) ⟨us,[]⟩=seqItems? (.ref T) >>= k/\k (some #[d])=pure (ps.zip (us++[d]))):wm K fd ps [d]:=by
 obtain ⟨oc,od,kV,doc,pm,an,cdv,ct,osl,T,oT,n,rfl,lk,hcd,t,e⟩:=F.ex
 intro s us X hl
 rw [List.length_append,List.length_singleton] at hl
 obtain ⟨k,h1,h2⟩:=h T kV doc pm an cdv ct us hl
 exact .of_defaults (T:=T) rfl (X T oT t) e h1 h2
end L2
namespace L2
theorem k6 {b:Bool} {A B:Prop} (e:b=true) (h:A):if b=true then A else B:=by
 rw [if_pos e]
 exact h
theorem k7 {b:Bool} {A B:Prop} (e:b=false) (h:B):if b=true then A else B:=by
 rw [if_neg (by rw [e]; exact Bool.false_ne_true)]
 exact h
theorem zP1 {i j:Int} (h:i=j):decide (V.int i=V.int j)=true:=decide_eq_true (by rw [h])
theorem zRi {i j:Int} (h:i≠j):decide (V.int i=V.int j)=false:=decide_eq_false λe=>h (by injection e)
end L2
set_option maxRecDepth 100000
namespace L2
open PySem
section
variable {prog:Program} {w:World} {A:Around} {E:Value->Shared->Prop} {s:Shared}
theorem Ky (hh:A.handled=none) (it t:Addr) (hne:t≠it) (items:Array Value) :
  Draws prog w A it [it,t] items.size (λi v=>items[i]? = some v) (λi h=>h.IsTupleIter it t i/\h.IsTuple t items) where
 live:=λ_ _ st=>let ⟨o,ho,_⟩:=st.1; ⟨o,ho⟩
 frame:=λ_ _ _ st hk=>⟨let ⟨o,e,r⟩:=st.1; ⟨o,hk it (by simp) o e,r⟩,let ⟨o,e,r⟩:=st.2; ⟨o,hk t (by simp) o e,r⟩⟩
 item:=λi s Q E hi st hQ=>by
  obtain ⟨hit,ht⟩:=st
  obtain ⟨o,ho,hc,hd⟩:=id hit
  obtain ⟨ol,hol,_,nl,hdl⟩:=id ht
  have hx:items[i]? = some items[i]:=by simp [hi]
  unfold Builtin.SmallTypes.nextOf
  refine wpAny_bind (wpAny_callSpecial?_slot (name:=Str.ofString "__next__") hit.typeIs F.slot_tuple_iterator_next (wpAny_call_entry F.slot_tuple_iterator_next hit.typeIs F.entry_tuple_iterator_next ?_ (F.args_tuple_iterator_next_1 _)))
  change wpAny _ _ (field (.ref it) 0 >>= _) _ _ s
  refine wpAny_bind (wpAny_field ho hd (x:=.ref t) rfl ?_)
  change wpAny _ _ (if (Value.ref t == Value.none)=true then _ else _) _ _ s
  rw [if_neg (show (Value.ref t == Value.none)≠true from Bool.false_ne_true)]
  change wpAny _ _ (field (.ref it) 1 >>= _) _ _ s
  refine wpAny_bind (wpAny_field ho hd (x:=.int i 0) rfl ?_)
  change wpAny _ _ (seqItems? (.ref t) >>= _) _ _ s
  refine wpAny_bind (wpAny_seqItems hol hdl ?_)
  simp only [Int.toNat_natCast,hx]
  refine wpAny_bind (wpAny_setField ho hd (by simp) (wpAny_pure ⟨items[i],rfl,wpAny_pure (hQ _ _ s.toks hx ⟨?_,?_⟩ (Heap.SameBut.update ..))⟩))
  ·exact ⟨_,Heap.get?_update_self _ ho (Obj.isFreed_of_fields (Obj.data_mapFields hd _)),(Obj.cls_mapFields ..).trans hc,by rw [Obj.data_mapFields hd]; simp [rawInt]⟩
  ·exact ht.extBut (Heap.SameBut.update ..).extBut hne
 done:=λs Q E st hE=>by
  obtain ⟨hit,ht⟩:=st
  obtain ⟨o,ho,hc,hd⟩:=id hit
  obtain ⟨ol,hol,_,nl,hdl⟩:=id ht
  have hx:items[items.size]? = none:=by simp
  unfold Builtin.SmallTypes.nextOf
  refine wpAny_bind (wpAny_callSpecial?_slot (name:=Str.ofString "__next__") hit.typeIs F.slot_tuple_iterator_next (wpAny_call_entry F.slot_tuple_iterator_next hit.typeIs F.entry_tuple_iterator_next ?_ (F.args_tuple_iterator_next_1 _)))
  change wpAny _ _ (field (.ref it) 0 >>= _) _ _ s
  refine wpAny_bind (wpAny_field ho hd (x:=.ref t) rfl ?_)
  change wpAny _ _ (if (Value.ref t == Value.none)=true then _ else _) _ _ s
  rw [if_neg (show (Value.ref t == Value.none)≠true from Bool.false_ne_true)]
  change wpAny _ _ (field (.ref it) 1 >>= _) _ _ s
  refine wpAny_bind (wpAny_field ho hd (x:=.int items.size 0) rfl ?_)
  change wpAny _ _ (seqItems? (.ref t) >>= _) _ _ s
  refine wpAny_bind (wpAny_seqItems hol hdl ?_)
  simp only [Int.toNat_natCast,hx]
  refine wpAny_bind (wpAny_rule (wpAny_bind (wpAny_setField ho hd (by simp) ?_)))
  change wpAny _ _ (newExc (.type "StopIteration") [] >>= _) _ _ _
  refine wpAny_bind ?_
  simp only [newExc,newTuple]
  refine wpAny_bind (wpAny_newObj_type ?_ (by size_fits))
  refine wpAny_bind (m:=firstArgMember _ _) (wpAny_of_eq (a:=Value.none) (by first | rfl | (simp only [firstArgMember]; rfl)) ?_)
  refine wpAny_newObj_type ?_ (by size_fits)
  simp only [raiseNew]
  refine wpAny_bind (wpAny_handled ?_)
  first | rw [show A.in1.handled=none from hh] | rw [hh]
  refine wpAny_bind (wpAny_pure (wpAny_throw ?_))
  exact hE _ _ (((Heap.SameBut.update ..).extBut.push _).push _) ⟨_,Heap.get?_push_size _ rfl,rfl⟩
structure Zp (z TI TO i1 i2:Addr) (f1 f2:List Addr):Prop where
 a1:TI≠z
 a2:TO≠z
 a3:i1≠z
 a4:i2≠z
 a5:TI≠TO
 a6:TI≠i1
 a7:TI≠i2
 a8:TO≠i1
 a9:TO≠i2
 b1:z∉f1
 b2:z∉f2
 b3:TO∉f1
 b4:TO∉f2
 b5:i1∉f2
 b6:i2∉f1
theorem zNK {z TI TO i1 i2:Addr} {f1 f2:List Addr} {n1 n2 k:Nat} {P1 P2:Nat->Value->Prop} {S1 S2:Nat->Heap->Prop} {a b:Value} {Q:Value->Shared->Prop}
  (D1:Draws prog w A i1 f1 n1 P1 S1) (D2:Draws prog w A i2 f2 n2 P2 S2) (Z:Zp z TI TO i1 i2 f1 f2) (hz:IsZip s.heap z TI TO .none) (hI:IsPair s.heap TI (.ref i1) (.ref i2)) (hO:IsPair s.heap TO a b)
  (s1:S1 k s.heap) (s2:S2 k s.heap) (k1:k < n1) (k2:k < n2)
  (hQ:∀ x y h' tk,P1 k x->P2 k y->IsZip h' z TI TO (rawInt s.heap.objs.size)->IsPair h' TI (.ref i1) (.ref i2)->IsPair h' TO x y->S1 (k + 1) h'->S2 (k + 1) h'->IsPair h' s.heap.objs.size x y->
   (∀ c o,c≠z->c≠TO->c≠i1->c≠i2->s.heap.get? c=some o->h'.get? c=some o)->Q (.ref s.heap.objs.size) { s with heap:=h',toks:=tk }) :
  wpAny (model prog w) A (Builtin.«zip.__next__» ⟨[.ref z],[]⟩) (λfin s'=>∃ v,fin=.done (.ret v)/\Q v s') E s:=by
 change wpAny _ _ (field (.ref z) 2 >>= _) _ _ _
 refine wpAny_bind (wpAny_field hz rfl (x:=.bool false) rfl ?_)
 change wpAny _ _ (field (.ref z) 3 >>= _) _ _ _
 refine wpAny_bind (wpAny_field hz rfl (x:=.ref TI) rfl ?_)
 refine wpAny_bind (wpAny_seqItems hI rfl ?_)
 change wpAny _ _ (Builtin.SmallTypes.ownedTupleIsFree (.ref z) >>= _) _ _ _
 refine wpAny_bind ?_
 unfold Builtin.SmallTypes.ownedTupleIsFree
 refine wpAny_bind (wpAny_field hz rfl (x:=.none) rfl (wpAny_pure ?_))
 simp only [if_true]
 refine wpAny_bind (wpAny_rule ?_)
 refine wpAny_bind (wpAny_field hz rfl (x:=.ref TO) rfl ?_)
 refine wpAny_bind (wpAny_setField_rec hz (by simp) λg1 z1 m1=>?_)
 replace z1:IsZip g1 z TI TO .ellipsis:=z1
 refine wpAny_bind ?_
 simp only [List.zipIdx_cons,List.zipIdx_nil,List.forIn_cons,List.forIn_nil]
 refine wpAny_bind (wpAny_bind (wpAny_onRaise ?_))
 change wpAny _ _ (Builtin.SmallTypes.nextOf (.ref i1) >>= _) _ _ _
 refine wpAny_bind (D1.item k _ _ _ k1 (D1.frame _ _ _ s1 λc hc o e=>m1.extBut c o (λq=>Z.b1 (q ▸ hc)) e) λx g2 t2 px s12 m2=>wpAny_pure ?_)
 have o2:IsPair g2 TO a b:=m2.extBut _ _ Z.a8 (m1.extBut _ _ Z.a2 hO)
 refine wpAny_bind (wpAny_seqItems o2 rfl ?_)
 refine wpAny_bind (wpAny_updateSeq_pair o2 λg3 o3 m3=>?_)
 replace o3:IsPair g3 TO x b:=o3
 refine wpAny_bind (wpAny_letGo (wpAny_pure ?_))
 refine wpAny_bind (wpAny_bind (wpAny_onRaise ?_))
 change wpAny _ _ (Builtin.SmallTypes.nextOf (.ref i2) >>= _) _ _ _
 refine wpAny_bind (D2.item k _ _ _ k2 (D2.frame _ _ _ s2 λc hc o e=>m3.extBut c o (λq=>Z.b4 (q ▸ hc)) (m2.extBut c o (λq=>Z.b5 (q ▸ hc)) (m1.extBut c o (λq=>Z.b2 (q ▸ hc)) e))) λy g4 t4 py s24 m4=>wpAny_pure ?_)
 have o4:IsPair g4 TO x b:=m4.extBut _ _ Z.a9 o3
 refine wpAny_bind (wpAny_seqItems o4 rfl ?_)
 refine wpAny_bind (wpAny_updateSeq_pair o4 λg5 o5 m5=>?_)
 replace o5:IsPair g5 TO x y:=o5
 refine wpAny_bind (wpAny_letGo (wpAny_pure (wpAny_pure ?_)))
 refine wpAny_bind (wpAny_seqItems o5 rfl ?_)
 refine wpAny_bind (wpAny_newTuple ?_)
 have sz:g5.objs.size=s.heap.objs.size:=by
  have q5:g5.objs.size=g4.objs.size:=m5.1
  have q4:g4.objs.size=g3.objs.size:=m4.1
  have q3:g3.objs.size=g2.objs.size:=m3.1
  have q2:g2.objs.size=g1.objs.size:=m2.1
  have q1:g1.objs.size=s.heap.objs.size:=m1.1
  omega
 have all5:∀ c o,c≠z->c≠TO->c≠i1->c≠i2->s.heap.get? c=some o->g5.get? c=some o:=λc o c1 c2 c3 c4 e=>m5.extBut _ _ c2 (m4.extBut _ _ c4 (m3.extBut _ _ c2 (m2.extBut _ _ c3 (m1.extBut _ _ c1 e))))
 have z5:IsZip g5 z TI TO .ellipsis:=m5.extBut _ _ Z.a2.symm (m4.extBut _ _ Z.a4.symm (m3.extBut _ _ Z.a2.symm (m2.extBut _ _ Z.a3.symm z1)))
 have I5:IsPair g5 TI (.ref i1) (.ref i2):=all5 _ _ Z.a1 Z.a5 Z.a6 Z.a7 hI
 have u1:S1 (k + 1) g5:=D1.frame _ _ _ s12 λc hc o e=>m5.extBut c o (λq=>Z.b3 (q ▸ hc)) (m4.extBut c o (λq=>Z.b6 (q ▸ hc)) (m3.extBut c o (λq=>Z.b3 (q ▸ hc)) e))
 have u2:S2 (k + 1) g5:=D2.frame _ _ _ s24 λc hc o e=>m5.extBut c o (λq=>Z.b4 (q ▸ hc)) e
 have lt:z < g5.objs.size:=Heap.lt_size z5
 change wpAny _ _ (Builtin.SmallTypes.ownedTupleHandOut (.ref z) (.ref g5.objs.size) >>= _) _ _ _
 refine wpAny_bind ?_
 unfold Builtin.SmallTypes.ownedTupleHandOut
 have z6:IsZip (g5.push { cls:=.type "tuple",data:=.seq #[x,y] }) z TI TO .ellipsis:=Heap.get?_push_of_some _ z5
 refine wpAny_bind (wpAny_setField_rec z6 (by simp) λg7 z7 m7=>?_)
 replace z7:IsZip g7 z TI TO (rawInt g5.objs.size):=z7
 refine wpAny_setField_rec z7 (by simp) λg8 z8 m8=>?_
 replace z8:IsZip g8 z TI TO (rawInt g5.objs.size):=z8
 have up:∀ c o,c≠z->g5.get? c=some o->g8.get? c=some o:=λc o c1 e=>m8.extBut _ _ c1 (m7.extBut _ _ c1 (Heap.get?_push_of_some _ e))
 have T8:IsPair g8 g5.objs.size x y:=m8.extBut _ _ (Nat.ne_of_gt lt) (m7.extBut _ _ (Nat.ne_of_gt lt) (Heap.get?_push_size _ rfl))
 rw [sz] at z8 T8
 refine wpAny_pure ⟨_,rfl,?_⟩
 change Q (.ref g5.objs.size) _
 rw [sz]
 exact hQ x y g8 _ px py z8 (up _ _ Z.a1 I5) (up _ _ Z.a2 o5) (D1.frame _ _ _ u1 λc hc o e=>up c o (λq=>Z.b1 (q ▸ hc)) e) (D2.frame _ _ _ u2 λc hc o e=>up c o (λq=>Z.b2 (q ▸ hc)) e) T8
  λc o c1 c2 c3 c4 e=>up c o c1 (all5 c o c1 c2 c3 c4 e)
theorem zNI {z TI TO i1 i2:Addr} {f1 f2:List Addr} {n1 n2 k:Nat} {P1 P2:Nat->Value->Prop} {S1 S2:Nat->Heap->Prop} {a b:Value} {Q:Fin->Shared->Prop}
  (D1:Draws prog w A i1 f1 n1 P1 S1) (D2:Draws prog w A i2 f2 n2 P2 S2) (Z:Zp z TI TO i1 i2 f1 f2) (hz:IsZip s.heap z TI TO .none) (hI:IsPair s.heap TI (.ref i1) (.ref i2)) (hO:IsPair s.heap TO a b)
  (s1:S1 k s.heap) (s2:S2 k s.heap) (k1:k<=n1) (k2:k<=n2) (ke:k=n1\/k=n2)
  (hE:∀ h' e tk,(∀ c o,c≠z->c≠TO->c≠i1->c≠i2->s.heap.get? c=some o->h'.get? c=some o)->(∃ o,h'.get? e=some o/\o.cls=.type "StopIteration")->E (.ref e) { s with heap:=h',toks:=tk }) :
  wpAny (model prog w) A (Builtin.«zip.__next__» ⟨[.ref z],[]⟩) Q E s:=by
 change wpAny _ _ (field (.ref z) 2 >>= _) _ _ _
 refine wpAny_bind (wpAny_field hz rfl (x:=.bool false) rfl ?_)
 change wpAny _ _ (field (.ref z) 3 >>= _) _ _ _
 refine wpAny_bind (wpAny_field hz rfl (x:=.ref TI) rfl ?_)
 refine wpAny_bind (wpAny_seqItems hI rfl ?_)
 change wpAny _ _ (Builtin.SmallTypes.ownedTupleIsFree (.ref z) >>= _) _ _ _
 refine wpAny_bind ?_
 unfold Builtin.SmallTypes.ownedTupleIsFree
 refine wpAny_bind (wpAny_field hz rfl (x:=.none) rfl (wpAny_pure ?_))
 simp only [if_true]
 refine wpAny_bind (wpAny_rule ?_)
 refine wpAny_bind (wpAny_field hz rfl (x:=.ref TO) rfl ?_)
 refine wpAny_bind (wpAny_setField_rec hz (by simp) λg1 z1 m1=>?_)
 replace z1:IsZip g1 z TI TO .ellipsis:=z1
 refine wpAny_bind ?_
 simp only [List.zipIdx_cons,List.zipIdx_nil,List.forIn_cons,List.forIn_nil]
 refine wpAny_bind (wpAny_bind (wpAny_onRaise ?_))
 change wpAny _ _ (Builtin.SmallTypes.nextOf (.ref i1) >>= _) _ _ _
 have s1':S1 k g1:=D1.frame _ _ _ s1 λc hc o e=>m1.extBut c o (λq=>Z.b1 (q ▸ hc)) e
 by_cases c1:k=n1
 ·subst c1
  refine wpAny_bind (D1.done _ _ _ s1' λg2 e m2 he=>?_)
  obtain ⟨oe,he1,he2⟩:=he
  have z2:IsZip g2 z TI TO .ellipsis:=m2 _ _ Z.a3.symm z1
  have nez:e≠z:=λq=>by subst q; rw [z2] at he1; cases he1; simp at he2
  exact wpAny_setField_rec z2 (by simp) λg3 _ m3=>hE g3 e _ (λc o c1 c2 c3 c4 q=>m3.extBut _ _ c1 (m2 _ _ c3 (m1.extBut _ _ c1 q))) ⟨oe,m3.extBut _ _ nez he1,he2⟩
 ·have c2:k=n2:=ke.resolve_left c1
  subst c2
  refine wpAny_bind (D1.item k _ _ _ (by omega) s1' λx g2 t2 px s12 m2=>wpAny_pure ?_)
  have o2:IsPair g2 TO a b:=m2.extBut _ _ Z.a8 (m1.extBut _ _ Z.a2 hO)
  refine wpAny_bind (wpAny_seqItems o2 rfl ?_)
  refine wpAny_bind (wpAny_updateSeq_pair o2 λg3 o3 m3=>?_)
  refine wpAny_bind (wpAny_letGo (wpAny_pure ?_))
  refine wpAny_bind (wpAny_bind (wpAny_onRaise ?_))
  change wpAny _ _ (Builtin.SmallTypes.nextOf (.ref i2) >>= _) _ _ _
  refine wpAny_bind (D2.done _ _ _ (D2.frame _ _ _ s2 λc hc o e=>m3.extBut c o (λq=>Z.b4 (q ▸ hc)) (m2.extBut c o (λq=>Z.b5 (q ▸ hc)) (m1.extBut c o (λq=>Z.b2 (q ▸ hc)) e))) λg4 e m4 he=>?_)
  obtain ⟨oe,he1,he2⟩:=he
  have z4:IsZip g4 z TI TO .ellipsis:=m4 _ _ Z.a4.symm (m3.extBut _ _ Z.a2.symm (m2.extBut _ _ Z.a3.symm z1))
  have nez:e≠z:=λq=>by subst q; rw [z4] at he1; cases he1; simp at he2
  exact wpAny_setField_rec z4 (by simp) λg5 _ m5=>hE g5 e _ (λc o c1 c2 c3 c4 q=>m5.extBut _ _ c1 (m4 _ _ c4 (m3.extBut _ _ c2 (m2.extBut _ _ c3 (m1.extBut _ _ c1 q))))) ⟨oe,m5.extBut _ _ nez he1,he2⟩
end
abbrev XS (h:Heap) (t:Addr):Heap:=h.push { cls:=.type "tuple_iterator",data:=.fields #[.ref t,.int 0 0] }
abbrev XT (h:Heap) (t l:Addr):Heap:=(XS h t).push { cls:=.type "list_iterator",data:=.fields #[.ref l,.int 0 0] }
abbrev XU (h:Heap) (t l:Addr):Heap:=(XT h t l).push { cls:=.type "tuple",data:=.seq #[.ref h.objs.size,.ref (XS h t).objs.size] }
abbrev XV (h:Heap) (t l:Addr):Heap:=(XU h t l).push { cls:=.type "tuple",data:=.seq #[.none,.none] }
abbrev gK (h:Heap) (t l:Addr):Heap:=(XV h t l).push { cls:=.type "zip",data:=.fields #[.none,.bool false,.bool false,.ref (XT h t l).objs.size,.ref (XU h t l).objs.size] }
theorem zKQ (t l:Addr) (xs ys:Array Value) :
  Meets (Builtin.«zip.__new__» ⟨[.type "zip",.ref t,.ref l],[]⟩) (λ_ R s=>s.heap.IsTuple t xs/\s.heap.IsList l ys/\R (.ok (.ret (.ref (XV s.heap t l).objs.size))) { s with heap:=gK s.heap t l }):=
 .of_wp λprog w A R s h=>by
  obtain ⟨hp,g,d,tk,os⟩:=s; obtain ⟨h1,h2,h⟩:=h
  have hsub:=sub_zip
  have e1:Heap.IsTuple (Shared.heap ⟨hp,g,d,tk,os⟩) t xs:=h1
  have e2:Heap.IsList (Shared.heap ⟨hp.push { cls:=.type "tuple_iterator",data:=.fields #[.ref t,.int 0 0] },g,d,tk,os⟩) l ys:=Heap.IsList.push h2 _
  wp_walk using wpAny_pyIter_tuple e1,wpAny_pyIter_list e2
  exact ⟨_,rfl,h⟩
theorem zJS {prog:Program} {w:World} {A:Around} {E:Value->Shared->Prop} {s:Shared} {t l:Addr} {xs ys:Array Value} {Q:Value->Shared->Prop} (h1:s.heap.IsTuple t xs) (h2:s.heap.IsList l ys)
  (h:∀ h',IsZip h' (s.heap.objs.size + 4) (s.heap.objs.size + 2) (s.heap.objs.size + 3) .none->IsPair h' (s.heap.objs.size + 2) (.ref s.heap.objs.size) (.ref (s.heap.objs.size + 1))->IsPair h' (s.heap.objs.size + 3) .none .none->
   h'.IsTupleIter s.heap.objs.size t 0->h'.IsListIter (s.heap.objs.size + 1) l 0->(∀ c o,s.heap.get? c=some o->h'.get? c=some o)->Q (.ref (s.heap.objs.size + 4)) { s with heap:=h' }) :
  wpAny (model prog w) A (call (.type "zip") [.ref t,.ref l]) Q E s:=by
 refine callType_new F.called_zip (by decide) (F.typeCall_zip_2 _ _) (F.newCall_zip_2 _ _) (λobj=>F.args_object_init_3 obj _ _) F.entry_zip_new (zKQ t l xs ys) ⟨h1,h2,?_⟩
 have n1:(XS s.heap t).objs.size=s.heap.objs.size + 1:=Heap.size_push ..
 have n2:(XT s.heap t l).objs.size=s.heap.objs.size + 2:=by rw [Heap.size_push,n1]
 have n3:(XU s.heap t l).objs.size=s.heap.objs.size + 3:=by rw [Heap.size_push,n2]
 have n4:(XV s.heap t l).objs.size=s.heap.objs.size + 4:=by rw [Heap.size_push,n3]
 have p5:(gK s.heap t l).get? (XV s.heap t l).objs.size=some _:=Heap.get?_push_size _ rfl
 have p4:(gK s.heap t l).get? (XU s.heap t l).objs.size=some _:=Heap.get?_push_of_some _ (Heap.get?_push_size _ rfl)
 have p3:(gK s.heap t l).get? (XT s.heap t l).objs.size=some _:=Heap.get?_push_of_some _ (Heap.get?_push_of_some _ (Heap.get?_push_size _ rfl))
 have p2:(gK s.heap t l).get? (XS s.heap t).objs.size=some _:=Heap.get?_push_of_some _ (Heap.get?_push_of_some _ (Heap.get?_push_of_some _ (Heap.get?_push_size _ rfl)))
 have p1:(gK s.heap t l).get? s.heap.objs.size=some _:=Heap.get?_push_of_some _ (Heap.get?_push_of_some _ (Heap.get?_push_of_some _ (Heap.get?_push_of_some _ (Heap.get?_push_size _ rfl))))
 change _/\_
 rw [n2,n3,n4] at p5
 rw [n1,n2] at p3
 rw [n3] at p4
 rw [n1] at p2
 rw [n4]
 exact ⟨⟨_,p5,rfl⟩,h _ p5 p3 p4 ⟨_,p1,rfl,rfl⟩ ⟨_,p2,rfl,rfl⟩ λc o x=>Heap.get?_push_of_some _ (Heap.get?_push_of_some _ (Heap.get?_push_of_some _ (Heap.get?_push_of_some _ (Heap.get?_push_of_some _ x))))⟩
section
variable {prog:Program} {w:World} {A:Around} {E:Value->Shared->Prop} {s:Shared}
theorem Kz {z TI TO i1 i2:Addr} {f1 f2:List Addr} {n1 n2 k:Nat} {P1 P2:Nat->Value->Prop} {S1 S2:Nat->Heap->Prop} {a b:Value} {Q:Option Value->Shared->Prop}
  (D1:Draws prog w A.in1 i1 f1 n1 P1 S1) (D2:Draws prog w A.in1 i2 f2 n2 P2 S2) (Z:Zp z TI TO i1 i2 f1 f2) (hz:IsZip s.heap z TI TO .none) (hI:IsPair s.heap TI (.ref i1) (.ref i2)) (hO:IsPair s.heap TO a b)
  (s1:S1 k s.heap) (s2:S2 k s.heap) (k1:k < n1) (k2:k < n2)
  (hQ:∀ x y h' tk,P1 k x->P2 k y->IsZip h' z TI TO (rawInt s.heap.objs.size)->IsPair h' TI (.ref i1) (.ref i2)->IsPair h' TO x y->S1 (k + 1) h'->S2 (k + 1) h'->IsPair h' s.heap.objs.size x y->
   (∀ c o,c≠z->c≠TO->c≠i1->c≠i2->s.heap.get? c=some o->h'.get? c=some o)->Q (some (.ref s.heap.objs.size)) { s with heap:=h',toks:=tk }) :
  wpAny (model prog w) A (pyNext (.ref z)) Q E s:=by
 have ty:s.TypeIs (.ref z) "zip":=⟨_,hz,rfl⟩
 unfold pyNext
 refine wpAny_bind (wpAny_attempt (wpAny_callSpecial?_slot (name:=Str.ofString "__next__") ty F.slot_zip_next (wpAny_call_entry F.slot_zip_next ty F.entry_zip_next ?_ (F.args_zip_next_1 _))))
 exact zNK D1 D2 Z hz hI hO s1 s2 k1 k2 λx y h' tk c1 c2 c3 c4 c5 c6 c7 c8 c9=>wpAny_pure (hQ x y h' tk c1 c2 c3 c4 c5 c6 c7 c8 c9)
theorem K0 {z TI TO i1 i2:Addr} {f1 f2:List Addr} {n1 n2 k:Nat} {P1 P2:Nat->Value->Prop} {S1 S2:Nat->Heap->Prop} {a b:Value} {Q:Option Value->Shared->Prop}
  (D1:Draws prog w A.in1 i1 f1 n1 P1 S1) (D2:Draws prog w A.in1 i2 f2 n2 P2 S2) (Z:Zp z TI TO i1 i2 f1 f2) (hz:IsZip s.heap z TI TO .none) (hI:IsPair s.heap TI (.ref i1) (.ref i2)) (hO:IsPair s.heap TO a b)
  (s1:S1 k s.heap) (s2:S2 k s.heap) (k1:k<=n1) (k2:k<=n2) (ke:k=n1\/k=n2)
  (hQ:∀ h' tk,(∀ c o,c≠z->c≠TO->c≠i1->c≠i2->s.heap.get? c=some o->h'.get? c=some o)->Q none { s with heap:=h',toks:=tk }) :
  wpAny (model prog w) A (pyNext (.ref z)) Q E s:=by
 have ty:s.TypeIs (.ref z) "zip":=⟨_,hz,rfl⟩
 unfold pyNext
 refine wpAny_bind (wpAny_attempt (wpAny_callSpecial?_slot (name:=Str.ofString "__next__") ty F.slot_zip_next (wpAny_call_entry F.slot_zip_next ty F.entry_zip_next
  (zNI D1 D2 Z hz hI hO s1 s2 k1 k2 ke λh' e tk keep he=>?_) (F.args_zip_next_1 _))))
 obtain ⟨o,ho,hc⟩:=he
 refine wpAny_bind (wpAny_isInstance (T:="StopIteration") (b:=true) ⟨o,ho,hc⟩ isSubtype_stop ?_)
 exact wpAny_pure (hQ _ _ keep)
end
end L2
namespace L2
open PySem PySem.Spec PyProof.Rows
def K1 (K:PySem.W.Frag) (a b:Addr):It:=
 ⟨λi H=>∃ xs ys x y,yS K H a xs/\zR K H b ys/\xs[i]? = some x/\ys[i]? = some y,
  λi H v H'=>∃ T x y,v=.ref T/\H T=none/\H'=zW H T (.tup [x,y])/\(∀ xs,yS K H a xs->xs[i]? = some x)/\∀ ys,zR K H b ys->ys[i]? = some y,
  λi H=>∃ xs ys,yS K H a xs/\zR K H b ys/\i<=xs.length/\i<=ys.length/\(i=xs.length\/i=ys.length)⟩
theorem uH {vs:Array Value} (v:Option Value):Data.fields vs≠Data.cell v:=λz=>by cases z
theorem gL {vs:Array Value} {n:Nat} (v:Option Value):Data.seq vs n≠Data.cell v:=λz=>by cases z
theorem zH.turnT {X:Cx} {pins:List (Addr × Obj)} {σ:St} {H:Hp} {s:Shared} {h':Heap} {tk:Nat} {ch:List Addr} {T:Addr} {x y:V} {u v:Value} (I:zH X pins σ H s) (hf:∀ b∈ch,yU X pins H b) (keep:∀ b o,b∉ch->s.heap.get? b=some o->h'.get? b=some o)
  (hT:s.heap.objs.size<=T) (p:IsPair h' T u v) (rx:zU x u) (ry:zU y v):zH X pins σ (zW H T (.tup [x,y])) { s with heap:=h',toks:=tk }:=by
 have fr:H T=none:=I.hok.fresh hT
 have nT:∀ b o,s.heap.get? b=some o->b≠T:=λb o e z=>by rw [z] at e; exact absurd (Nat.lt_of_lt_of_le (Heap.lt_size e) hT) (Nat.lt_irrefl _)
 have vv:∀ b o,H b=some o->b∉ch:=λb o e z=>by rw [(hf b z).1] at e; cases e
 refine I.step (ch:=ch) (λb hb=>⟨(hf b hb).2.2.2.1,(hf b hb).2.1,(hf b hb).2.2.2.2.1,(hf b hb).2.2.2.2.2⟩) (λb o _ _ hc e _=>keep b o hc e) (λb o _ _ hc e _=>⟨o.slots,keep b o hc e⟩)
  (λb o _ e n=>by rw [zt (nT b o e)]; exact n) (λb o hc e=>⟨o,keep b o hc e⟩) (λb xs e=>by rw [zt (xn e fr)]; exact e) (λb o w e=>by rw [zt (xn e fr)]; exact e)
  (λb ps e=>⟨#[],by rw [zt (xn e fr),e]; simp⟩) (λm hm=>?_) (λb w e=>?_) I.bare
 ·obtain ⟨o,es,ep,ho,r⟩:=hm
  exact ⟨o,es,ep,keep _ o (λz=>(hf _ z).2.1 rfl) ho,r⟩
 ·by_cases hb:b=T
  ·subst hb
   rw [xI] at e
   cases e
   exact ⟨by show 2<=sizeLine; decide,[u,v],.cons rx (.cons ry .nil),⟨_,p,rfl,_,rfl⟩⟩
  ·rw [zt hb] at e
   refine (I.hok b w e).stay (λc q hc ec=>keep c q ?_ ec) (λc ec=>by rw [zt (xn ec fr)]; exact ec) λc xs ec=>by rw [zt (xn ec fr)]; exact ec
   rcases hc with z | z
   ·rw [z]
    exact vv b w e
   ·exact vv c _ z
theorem zH.turnN {X:Cx} {pins:List (Addr × Obj)} {σ:St} {H:Hp} {s:Shared} {h':Heap} {tk:Nat} {ch:List Addr} (I:zH X pins σ H s) (hf:∀ b∈ch,yU X pins H b) (keep:∀ b o,b∉ch->s.heap.get? b=some o->h'.get? b=some o) :
  zH X pins σ H { s with heap:=h',toks:=tk }:=by
 have vv:∀ b o,H b=some o->b∉ch:=λb o e z=>by rw [(hf b z).1] at e; cases e
 refine I.step (ch:=ch) (λb hb=>⟨(hf b hb).2.2.2.1,(hf b hb).2.1,(hf b hb).2.2.2.2.1,(hf b hb).2.2.2.2.2⟩) (λb o _ _ hc e _=>keep b o hc e) (λb o _ _ hc e _=>⟨o.slots,keep b o hc e⟩)
  (λb o _ e n=>n) (λb o hc e=>⟨o,keep b o hc e⟩) (λb xs e=>e) (λb o w e=>e) (λb ps e=>⟨#[],by rw [e]; simp⟩) (λm hm=>?_) (λb w e=>?_) I.bare
 ·obtain ⟨o,es,ep,ho,r⟩:=hm
  exact ⟨o,es,ep,keep _ o (λz=>(hf _ z).2.1 rfl) ho,r⟩
 ·refine (I.hok b w e).stay (λc q hc ec=>keep c q ?_ ec) (λc ec=>ec) λc xs ec=>ec
  rcases hc with z | z
  ·rw [z]
   exact vv b w e
  ·exact vv c _ z
theorem zNR {P:Program} {w:World} {K:PySem.W.Frag} {es:List Expr} {kk:Nat} {tp:Pos} {a b z TI TO i1 i2:Addr} (Z:Zp z TI TO i1 i2 [i1,a] [i2,b]) (na:a≠i1) (nb:b≠i2) :
  xx P w K (.Tuple es kk tp) (K1 K a b) [z,TI,TO,i1,i2] z (λi h=>IsZip h z TI TO .none/\IsPair h TI (.ref i1) (.ref i2)/\(∃ x y,IsPair h TO x y)/\h.IsTupleIter i1 a i/\h.IsListIter i2 b i) where
 mem:=by simp
 obj:=λi h ⟨t1,t2,⟨x,y,t3⟩,t4,t5⟩ c hc=>by
  simp only [List.mem_cons,List.not_mem_nil,or_false] at hc
  rcases hc with rfl | rfl | rfl | rfl | rfl
  ·exact ⟨_,t1,uH⟩
  ·exact ⟨_,t2,gL⟩
  ·exact ⟨_,t3,gL⟩
  ·obtain ⟨o,e,_,d⟩:=t4
   exact ⟨o,e,by rw [d]; exact uH⟩
  ·obtain ⟨o,e,_,d⟩:=t5
   exact ⟨o,e,by rw [d]; exact uH⟩
 keep:=λi h h' ⟨t1,t2,⟨x,y,t3⟩,t4,t5⟩ k=>⟨k z (by simp) _ t1,k TI (by simp) _ t2,⟨x,y,k TO (by simp) _ t3⟩,(by obtain ⟨o,e,r⟩:=t4; exact ⟨o,k i1 (by simp) o e,r⟩),(by obtain ⟨o,e,r⟩:=t5; exact ⟨o,k i2 (by simp) o e,r⟩)⟩
 item:=by
  intro X hP hw hK hc i pins s σ H E I hf ⟨t1,t2,⟨x0,y0,t3⟩,t4,t5⟩ hg
  subst hP hw hK
  obtain ⟨xs,ys,x,y,hq1,hq2,hx,hy⟩:=hg
  obtain ⟨its1,rv1,p1,_⟩:=I.tuple hq1
  obtain ⟨its2,rv2,p2,_⟩:=I.list hq2
  obtain ⟨u,hu,ru⟩:=rv1.get hx
  obtain ⟨v,hv,rv⟩:=rv2.get hy
  have hh:X.A.in1.handled=none:=I.ok.hd hc
  have l1:i < its1.toArray.size:=by rw [List.size_toArray]; exact (List.getElem?_eq_some_iff.mp hu).1
  have l2:i < its2.toArray.size:=by rw [List.size_toArray]; exact (List.getElem?_eq_some_iff.mp hv).1
  refine Kz (Ky hh i1 a na its1.toArray) (Draws.list hh i2 b nb its2.toArray) Z t1 t2 t3 ⟨t4,p1⟩ ⟨t5,p2.isList⟩ l1 l2 ?_
  intro x' y' h1 tk px py z1 z2 z3 z4 z5 z6 keep
  have ex:x'=u:=by
   have q:its1.toArray[i]? = some x':=px
   simp only [List.getElem?_toArray] at q
   rw [hu] at q
   exact (Option.some.inj q).symm
  have ey:y'=v:=by
   have q:its2.toArray[i]? = some y':=py
   simp only [List.getElem?_toArray] at q
   rw [hv] at q
   exact (Option.some.inj q).symm
  subst ex ey
  refine ⟨_,rfl,wpAny_letOwnedTupleGo_zip (s:={ s with heap:=h1,toks:=tk }) z1 λh2 z7 sb=>?_⟩
  have zlt:z < s.heap.objs.size:=Heap.lt_size t1
  have keep2:∀ c o,c∉[z,TI,TO,i1,i2]->s.heap.get? c=some o->h2.get? c=some o:=λc o hc e=>by
   simp only [List.mem_cons,List.not_mem_nil,or_false,not_or] at hc
   exact sb.extBut c o hc.1 (keep c o hc.1 hc.2.2.1 hc.2.2.2.1 hc.2.2.2.2 e)
  have pT:IsPair h2 s.heap.objs.size x' y':=sb.extBut _ _ (Nat.ne_of_gt zlt) z6
  have I':=I.turnT (h':=h2) (tk:=tk) (ch:=[z,TI,TO,i1,i2]) (x:=x) (y:=y) hf keep2 (Nat.le_refl _) pT ru rv
  refine ⟨.ref s.heap.objs.size,_,I',rfl,⟨s.heap.objs.size,x,y,rfl,I.hok.fresh (Nat.le_refl _),rfl,λxs' q=>by rw [I.tuple_inj q hq1]; exact hx,λys' q=>by rw [I.list_inj q hq2]; exact hy⟩,
   ⟨z7,sb.extBut _ _ Z.a1 z2,⟨_,_,sb.extBut _ _ Z.a2 z3⟩,z4.1.extBut sb.extBut Z.a3,z5.1.extBut sb.extBut Z.a4⟩,λc hc=>?_⟩
  have:=(hf c hc).1
  rw [zt]
  ·exact this
  ·intro q
   obtain ⟨o,e,_⟩:∃ o,s.heap.get? c=some o/\True:=by
    simp only [List.mem_cons,List.not_mem_nil,or_false] at hc
    rcases hc with rfl | rfl | rfl | rfl | rfl
    ·exact ⟨_,t1,trivial⟩
    ·exact ⟨_,t2,trivial⟩
    ·exact ⟨_,t3,trivial⟩
    ·obtain ⟨o,e,_⟩:=t4; exact ⟨o,e,trivial⟩
    ·obtain ⟨o,e,_⟩:=t5; exact ⟨o,e,trivial⟩
   rw [q] at e
   exact absurd (Heap.lt_size e) (Nat.lt_irrefl _)
 done:=by
  intro X hP hw hK hc i pins s σ H E I hf ⟨t1,t2,⟨x0,y0,t3⟩,t4,t5⟩ hg
  subst hP hw hK
  obtain ⟨xs,ys,hq1,hq2,e1,e2,e3⟩:=hg
  obtain ⟨its1,rv1,p1,_⟩:=I.tuple hq1
  obtain ⟨its2,rv2,p2,_⟩:=I.list hq2
  have hh:X.A.in1.handled=none:=I.ok.hd hc
  have n1:its1.toArray.size=xs.length:=by rw [List.size_toArray]; exact rv1.length.symm
  have n2:its2.toArray.size=ys.length:=by rw [List.size_toArray]; exact rv2.length.symm
  refine K0 (Ky hh i1 a na its1.toArray) (Draws.list hh i2 b nb its2.toArray) Z t1 t2 t3 ⟨t4,p1⟩ ⟨t5,p2.isList⟩ (by omega) (by omega) (by omega) ?_
  intro h1 tk keep
  refine ⟨rfl,I.turnN (h':=h1) (tk:=tk) (ch:=[z,TI,TO,i1,i2]) hf λc o hc e=>?_⟩
  simp only [List.mem_cons,List.not_mem_nil,or_false,not_or] at hc
  exact keep c o hc.1 hc.2.2.1 hc.2.2.2.1 hc.2.2.2.2 e
 self:=λ_ _ _ _ _ st h=>wpAny_pyIter_zip st.1 h
theorem vR {x y z:Nat} (h1:x≠y) (h2:x≠z):x∉[y,z]:=by simp [h1,h2]
theorem UZ (n a b:Nat) (la:a < n) (lb:b < n):Zp (n + 4) (n + 2) (n + 3) n (n + 1) [n,a] [n + 1,b]:=by
 have e:∀ x y:Nat,x≠y->(x:Addr)≠y:=λ_ _ h=>h
 exact ⟨e _ _ (by omega),e _ _ (by omega),e _ _ (by omega),e _ _ (by omega),e _ _ (by omega),e _ _ (by omega),e _ _ (by omega),e _ _ (by omega),e _ _ (by omega),
  vR (by omega) (by omega),vR (by omega) (by omega),vR (by omega) (by omega),vR (by omega) (by omega),vR (by omega) (by omega),vR (by omega) (by omega)⟩
section
variable {X:Cx} {es:List Expr} {kk:Nat} {tp:Pos}
end
end L2
namespace L2
open PySem PySem.Spec PyProof.Rows
section
variable {κ:Type} [DecidableEq κ]
end
section
variable {P:Program} {w:World} {H:Hp} {h:Heap} {a:Addr}
end
section
variable {X:Cx} {pins:List (Addr × Obj)} {σ:St} {H:Hp} {s:Shared} {a:Addr} {y v:V} {u r:Value} {o:Option V} {A:Around} {E:Value->Shared->Prop}
end
section
variable {X:Cx} {pins:List (Addr × Obj)} {σ:St} {H:Hp} {s:Shared} {a:Addr} {kvs:List (wC × V)} {k:wC} {u:Value} {A:Around} {E:Value->Shared->Prop}
end
section
variable {X:Cx} {o i e value:Expr} {pos pos' tpos:Pos} {td ty tv:TE}
end
section
variable {X:Cx} {pos:Pos}
end
end L2
namespace L2
open PySem
section
variable {prog:Program} {w:World} {A:Around} {R:Result->Shared->Prop} {s:Shared}
theorem zJQ {elt target iter cond:Expr} {scope:Scope} {pos:Pos} {it acc:Value} {env:Env} (Wd:Nat->Shared->Prop)
  (turn:∀ n s,Wd n s->wpAny (model prog w) A (pyNext it) (λr s1=>match r with
   | none=>R (.ok .next) s1
   | some v=>wpAny (model prog w) A (letOwnedTupleGo target it v) (λ_ s2=>wpAny (model prog w) A (assign target env v) (λ_ s3=>wpAny (model prog w) A (isTrue cond env (eval cond env)) (λok s4=>
     if ok=true then wpAny (model prog w) A (eval elt env) (λx s5=>wpAny (model prog w) A (call (.builtin "list.append") [acc,x]) (λ_ s6=>∃ m,m < n/\Wd m s6) (λ_ _=>False) s5) (λ_ _=>False) s4
     else ∃ m,m < n/\Wd m s4) (λ_ _=>False) s3) (λ_ _=>False) s2) (λ_ _=>False) s1) (λ_ _=>False) s)
  (n:Nat) (h:Wd n s):codeAny (model prog w) A (.compLoop (.ListComp elt [⟨target,iter,[cond],0⟩] scope pos) 0 it acc env) R s:=by
 refine codeAny_loop rfl Wd (λn s hI=>?_) n h
 show wpAny _ _ (Sem.onRaise (compTurn (.ListComp elt [⟨target,iter,[cond],0⟩] scope pos) 0 it acc env) _) _ _ s
 refine wpAny_noted ?_
 rw [compTurn_list]
 refine wpAny_bind (wpAny_standAt (wpAny_bind (wpAny_mono (turn n s hI) (λr s1 h1=>?_) λ_ _ z=>False.elim z)))
 cases r with
 | none=>exact wpAny_pure h1
 | some v=>
  refine wpAny_bind (wpAny_mono h1 (λ_ s2 h2=>?_) λ_ _ z=>False.elim z)
  refine wpAny_bind (wpAny_mono h2 (λ_ s3 h3=>?_) λ_ _ z=>False.elim z)
  refine wpAny_bind (wpAny_tests_one (wpAny_mono h3 (λok s4 h4=>?_) λ_ _ z=>False.elim z))
  cases ok with
  | false=>exact wpAny_pure ⟨rfl,h4⟩
  | true=>exact wpAny_bind (wpAny_bind (wpAny_mono h4 (λx s5 h5=>wpAny_bind (wpAny_mono h5 (λ_ s6 h6=>wpAny_pure (wpAny_pure ⟨rfl,h6⟩)) λ_ _ z=>False.elim z)) λ_ _ z=>False.elim z))
end
end L2
namespace L2
open PySem PySem.Spec PyProof.Rows
def K2 (J:It) (g:TG) (tc:TT) (te:TE) (Q:VK) (σ0:St) (H0:Hp):Prop:=∃ W:Nat->Nat->List V->St->Hp->Prop,(∃ m,W 0 m [] σ0 H0)/\∀ i m ys σ1 H,W i m ys σ1 H->
 (J.stop i H/\∀ p,H p=none->Q (.ref p) (zW H p (.lst ys)))\/(J.go i H/\ys.length < sizeLine/\∃ (N:V->St->Hp->Prop) (N0:St->Hp->Prop),(∀ y σ' H',N y σ' H'->∃ m',m' < m/\W (i + 1) m' (ys++[y]) σ' H')/\(∀ σ' H',N0 σ' H'->∃ m',m' < m/\W (i + 1) m' ys σ' H')∧
    ∀ x H',J.yld i H x H'->g x σ1 H' λσ2 H2=>tc σ2 H2 λb H3=>if b=true then te σ2 H3 λy H4=>N y σ2 H4 else N0 σ2 H3)
def zQO (own:List Str) (caps:List (Nat × Str)) (wi:TI) (g:TG) (tc:TT) (te:TE):TE:=λσ H Q=>wi σ H λJ H1=>K2 J g tc te Q (wU own caps σ) H1
section
variable {X:Cx} {scope:Scope} {own:List Str} {caps:List (Nat × Str)} {elt tg iter cond:Expr} {wi:TI} {g:TG} {tc:TT} {te:TE} {pos:Pos}
end
end L2
namespace L2
open PySem PySem.Spec PyProof.Rows
section
variable {prog:Program} {w:World} {A:Around} {E:Value->Shared->Prop} {s:Shared}
end
end L2
namespace L2
open PySem PySem.Spec PyProof.Rows
section
variable {X:Cx}
theorem zQ3 (hu:X.A.units + 64 < cLine):yw X (compareOp .NotEq) (λx y H Q=>∃ d e:PyData,Dp X.K H x d/\Dp X.K H y e/\d.canLay0=true/\e.canLay0=true/\d.depth<=60/\e.depth<=60/\Q (.bl (!PyData.eqv d e)) H):=by
 intro pins s σ H x y v u Q I rx ry h
 obtain ⟨d,e,hx,hy,hc,hc',hd,hd',q⟩:=h
 obtain ⟨_,r1⟩:=hx.reads I rx
 obtain ⟨_,r2⟩:=hy.reads I ry
 exact SeqAt.compareNe_reads r1 r2 hc hc' (by omega) ⟨.bl _,H,I,rfl,q⟩
end
end L2
namespace L2
open PySem PySem.Spec PyProof.Rows
section
variable {X:Cx}
end
end L2
namespace L2
open PySem
theorem k8:bootBuiltins "max" = some (.builtin "max"):=by decide +kernel
end L2
namespace L2
open PySem PySem.Spec PyProof.Rows
theorem k9:bootBuiltins "sum" = some (.builtin "sum"):=by decide +kernel
theorem K3:∀ {ns:List Int} {its:List Value},zM (ns.map V.int) its->∃ zs:List (Int × Tok),its=zs.map (λp=>Value.int p.1 p.2)/\zs.map (·.1)=ns
 | [],_,.nil=>⟨[],rfl,rfl⟩
 | n :: r,_,.cons h t=>by
  obtain ⟨zs,e1,e2⟩:=K3 t
  obtain ⟨tk,rfl⟩:=h
  exact ⟨(n,tk) :: zs,by rw [e1]; rfl,by rw [List.map_cons,e2]⟩
section
variable {X:Cx}
theorem ZA (hc:X.calm=true):vL X (.builtin "sum") (λxs H Q=>∃ (p:Addr) (ns:List Int),xs=[.ref p]/\zR X.K H p (ns.map V.int)/\Q (.int ns.sum) H):=by
 intro pins s σ H xs us Q I r h
 obtain ⟨p,ns,rfl,hq,q⟩:=h
 obtain ⟨u,rfl,ru⟩:=ux r
 cases ru
 obtain ⟨its,rv,pl,hz⟩:=I.list hq
 obtain ⟨zs,e1,e2⟩:=K3 rv
 have e3:its.toArray=intItems zs.toArray:=by
  rw [e1]
  unfold intItems
  simp
 have hl:=pl.isList
 rw [e3] at hl
 refine sum_intListG (I.ok.hd hc) hl λh' tk t' kk=>⟨.int ns.sum,H,I.kept (h':=h') (t':=tk) kk,⟨t',?_⟩,q⟩
 rw [preSum_eq,List.take_of_length_le (by simp),e2]
end
end L2
namespace L2
open PySem PySem.Spec PyProof.Rows
theorem j4 {a b c d:Nat} (h1:a < b) (h2:b<=c) (h3:c + 1<=d):d≠a:=by omega
theorem ZB {a b c:Nat} (h1:c=a + 1) (h2:c + 1<=b):b≠a:=by omega
theorem XW {x:Str} {c:Addr}:∀ (names:List (Str × NameKind)) (n:Nat) (acc:List (Str × Addr)),(cellsFrom n names acc).lookup x=some c->((x,NameKind.cell)∈names/\n<=c)\/acc.lookup x=some c
 | [],_,_,h=>.inr h
 | (y,k) :: r,n,acc,h=>by
  unfold cellsFrom at h
  split at h
  ·rename_i hk
   rcases XW r (n + 1) ((y,n) :: acc) h with ⟨a,b⟩ | z
   ·exact .inl ⟨List.mem_cons_of_mem _ a,by omega⟩
   ·rw [List.lookup_cons] at z
    by_cases e:(x == y)=true
    ·simp only [e] at z
     have e1:x=y:=eq_of_beq e
     have e2:k=.cell:=eq_of_beq hk
     subst e1
     subst e2
     cases z
     exact .inl ⟨List.mem_cons_self,Nat.le_refl _⟩
    ·have e':(x == y)=false:=by simpa using e
     simp only [e'] at z
     exact .inr z
  ·rcases XW r n acc h with ⟨a,b⟩ | z
   ·exact .inl ⟨List.mem_cons_of_mem _ a,b⟩
   ·exact .inr z
theorem Ua {x:Str}:∀ (names:List (Str × NameKind)) (n:Nat) (acc:List (Str × Addr)),(x,NameKind.cell)∉names->(cellsFrom n names acc).lookup x=acc.lookup x
 | [],_,_,_=>rfl
 | (y,k) :: r,n,acc,h=>by
  have hr:(x,NameKind.cell)∉r:=λz=>h (List.mem_cons_of_mem _ z)
  unfold cellsFrom
  split
  ·rename_i hk
   have e2:k=.cell:=eq_of_beq hk
   rw [Ua r _ _ hr,List.lookup_cons]
   have e':(x == y)=false:=by
    cases q:x == y with
    | false=>rfl
    | true=>exact absurd (by rw [eq_of_beq q,e2]; exact List.mem_cons_self) h
   simp only [e']
  ·exact Ua r _ _ hr
theorem Ub:∀ (names:List (Str × NameKind)) (n:Nat) (acc:List (Str × Addr)),(∀ x c,acc.lookup x=some c->c < n)->(∀ x y c,acc.lookup x=some c->acc.lookup y=some c->x=y)->
  ∀ x y c,(cellsFrom n names acc).lookup x=some c->(cellsFrom n names acc).lookup y=some c->x=y
 | [],_,_,_,h2=>h2
 | (z,k) :: r,n,acc,h1,h2=>by
  unfold cellsFrom
  split
  ·have look:∀ x c,((z,n) :: acc).lookup x=some c->(x=z/\c=n)\/acc.lookup x=some c:=λx c e=>by
    rw [List.lookup_cons] at e
    cases q:x == z with
    | true=>
     simp only [q] at e
     exact .inl ⟨eq_of_beq q,(Option.some.inj e).symm⟩
    | false=>
     simp only [q] at e
     exact .inr e
   refine Ub r (n + 1) ((z,n) :: acc) (λx c e=>?_) λx y c e1 e2=>?_
   ·rcases look x c e with ⟨_,e⟩ | e
    ·rw [e]
     exact Nat.lt_succ_self n
    ·exact Nat.lt_succ_of_lt (h1 x c e)
   ·rcases look x c e1 with ⟨a1,b1⟩ | a1 <;> rcases look y c e2 with ⟨a2,b2⟩ | a2
    ·rw [a1,a2]
    ·have:=h1 y c a2
     rw [b1] at this
     exact absurd this (Nat.lt_irrefl n)
    ·have:=h1 x c a1
     rw [b2] at this
     exact absurd this (Nat.lt_irrefl n)
    ·exact h2 x y c a1 a2
  ·exact Ub r n acc h1 h2
theorem XX {x:Str} {c:Addr}:∀ (names:List (Str × NameKind)) (h:Heap) (acc:List (Str × Addr)),(cellsFrom h.objs.size names acc).lookup x=some c->acc.lookup x=some c\/(pushCells h names).IsCell c none
 | [],_,_,e=>.inl e
 | (y,k) :: r,h,acc,e=>by
  unfold cellsFrom at e
  unfold pushCells
  split at e
  ·rename_i hk
   rw [if_pos hk]
   have q:=XX (x:=x) (c:=c) r (h.push { cls:=.type "cell",data:=.cell none }) ((y,h.objs.size) :: acc) (by rw [Heap.size_push]; exact e)
   rcases q with q | q
   ·rw [List.lookup_cons] at q
    cases z:x == y with
    | true=>
     simp only [z] at q
     cases q
     exact .inr ⟨_,pushCells_keeps r _ _ _ (Heap.get?_push_size _ rfl),rfl⟩
    | false=>
     simp only [z] at q
     exact .inl q
   ·exact .inr q
  ·rename_i hk
   rw [if_neg hk]
   exact XX r h acc e
theorem j5:∀ {l:List (Str × NameKind)} {x:Str} {k:NameKind},(l.map (·.1)).Nodup->(x,k)∈l->l.lookup x=some k
 | [],_,_,_,h=>by cases h
 | (y,j) :: r,x,k,nd,h=>by
  rw [List.map_cons,List.nodup_cons] at nd
  rw [List.lookup_cons]
  rcases List.mem_cons.mp h with e | h
  ·cases e
   rw [beq_self_eq_true]
  ·have ne:(x == y)=false:=by
    cases q:x == y with
    | false=>rfl
    | true=>exact absurd (by rw [<- eq_of_beq q]; exact List.mem_map.mpr ⟨(x,k),h,rfl⟩) nd.1
   simp only [ne]
   exact j5 nd.2 h
theorem K4 {M:Model} {A:Around} {E:Value->Shared->Prop} {s:Shared} {scope:Scope} {globals:Addr} {closure:List (Str × Addr)} {qual:Str} {func:Option Addr} {code:Value} {env:Env} {builtins:Addr} {Q:Env->Shared->Prop}
  (h:Q (newEnv scope s.heap.objs.size globals (cellsFrom (s.heap.objs.size + 1) scope.names closure) qual func code (some env) builtins) { s with heap:=pushCells (s.heap.push { cls:=.type "dict",data:=.dict #[] }) scope.names }) :
  wpAny M A (newFunctionEnv scope globals closure [] qual func code (some env) builtins) Q E s:=by
 simp only [newFunctionEnv,Option.isSome_some,if_true]
 refine wpAny_bind (wpAny_alloc ?_)
 refine wpAny_bind (wpAny_layCells _ (λname kind cells=>by cases hkc:kind == NameKind.cell <;> simp [hkc]) _ _ _ _ ?_)
 rw [show ({ s with heap:=s.heap.push { cls:=.type "dict",data:=.dict #[] } }:Shared).heap.objs.size=s.heap.objs.size + 1 from Heap.size_push ..]
 simp only [List.forIn_nil]
 exact wpAny_bind (wpAny_pure (wpAny_pure h))
abbrev yZ (X:Cx) (scope:Scope) (N:List Str) (C:Addr) (s₀:Shared) (H₀:Hp) (ex:List Addr):Cx:=
 { X with N:=N,s₀:=s₀,H₀:=H₀,env:=compEnvC scope (cellsFrom (C + 1) scope.names (wS scope X.env)) C X.env,outer:=X.stack,ex:=ex,fn:=λx=>scope.names.lookup x == some .cell,pn:=[],xe:=λ_ _=>False }
structure vS (X:Cx) (scope:Scope) (own:List Str) (caps:List (Nat × Str)):Prop where
 kind:scope.kind=.function
 nod:(scope.names.map (·.1)).Nodup
 locs:∀ y∈scope.names,y.2=.local->scope.names.lookup y.1=some .local
 free:∀ y∈scope.names,y.2=.free->(X.env.cells.lookup y.1).isSome=true
 caps:∀ p∈caps,X.N[p.1]? = some p.2/\scope.names.lookup p.2=some .free/\(X.env.kindOf p.2=some .cell\/X.env.kindOf p.2=some .free)
section
variable {X:Cx} {scope:Scope} {own:List Str} {caps:List (Nat × Str)} {pins:List (Addr × Obj)} {σ:St} {H:Hp} {s s4:Shared} {C D:Addr} {fp:List Addr}
theorem gM (B:vS X scope own caps) {x:Str} {c n:Nat} (e:(cellsFrom n scope.names (wS scope X.env)).lookup x=some c):((x,NameKind.cell)∈scope.names/\n<=c)\/X.env.cells.lookup x=some c:=
 (XW _ _ _ e).imp id λz=>(j3 B.free z).1
theorem Uc (I:zH X pins σ H s) {x:Str} {c:Addr} (e:X.env.cells.lookup x=some c):c < s.heap.objs.size:=by
 obtain ⟨v,o,ho,_⟩:=I.cell x c e
 exact Heap.lt_size ho
theorem zP4 (B:vS X scope own caps) (I:zH X pins σ H s) (hf:∀ b∈fp,yU X pins H b) (hC:s.heap.objs.size<=C) (hlt:∀ b∈fp,b < s.heap.objs.size):(yZ X scope (ze own caps) C s H fp).Ok where
 mod:=I.ok.mod
 kind:=B.kind
 glob:=I.ok.glob
 blt:=I.ok.blt
 above:=hC
 inj:=Ub _ _ _ (λx c e=>Nat.lt_of_lt_of_le (Uc I (j3 B.free e).1) (Nat.le_succ_of_le hC)) λx y c h1 h2=>I.ok.inj x y c (j3 B.free h1).1 (j3 B.free h2).1
 has:=λx h=>by
  have fr:(x,NameKind.free)∈scope.names->∃ c,(cellsFrom (C + 1) scope.names (wS scope X.env)).lookup x=some c:=λz=>by
   obtain ⟨c,e⟩:=UX (env:=X.env) z
   exact Option.isSome_iff_exists.mp (PySem.W.cellsFrom_some _ _ _ (.inr (by rw [e]; rfl)))
  have ce:(x,NameKind.cell)∈scope.names->∃ c,(cellsFrom (C + 1) scope.names (wS scope X.env)).lookup x=some c:=λz=>
   Option.isSome_iff_exists.mp (PySem.W.cellsFrom_some _ _ _ (.inl (j5 B.nod z)))
  rcases h with h | h
  ·rcases Kq (show (relabel scope X.env).names.lookup x=some .cell from h) with ⟨_,z | z⟩ | z
   ·exact fr z
   ·exact ce z
   ·exact ce z
  ·rcases Kq (show (relabel scope X.env).names.lookup x=some .free from h) with ⟨z,_⟩ | z
   ·cases z
   ·exact fr z
 cab:=λx c h e=>by
  have hx:scope.names.lookup x=some .cell:=eq_of_beq h
  rcases XW _ _ _ e with ⟨_,z⟩ | z
  ·exact Nat.le_trans hC (Nat.le_of_succ_le z)
  ·have:=j5 B.nod (j3 B.free z).2
   rw [hx] at this
   cases this
 hd:=I.ok.hd
 frames:=I.ok.frames
 stk:=.inl rfl
 exf:=λb hb=>⟨λe=>by have:=hlt b hb; rw [e] at this; exact absurd (Nat.lt_of_lt_of_le this hC) (Nat.lt_irrefl _),λx c e=>by
  rcases gM B e with ⟨_,z⟩ | z
  ·exact j4 (hlt b hb) hC z
  ·exact (hf b hb).2.2.2.2.1 x c z⟩
 bs:=I.bs
 bsz:=Nat.le_trans I.ok.bsz I.sz
 noex:=λb o e hb=>by
  rcases (hf b hb).2.2.2.1 with z | z
  ·exact I.ok.noex b o e z
  ·exact absurd (Nat.lt_of_lt_of_le (Heap.lt_size e) (Nat.le_trans I.ok.bsz z)) (Nat.lt_irrefl _)
 exfs:=λb hb z=>by
  rcases List.mem_cons.mp (I.stkSub b z) with e | z
  ·exact (hf b hb).2.1 e
  ·exact (hf b hb).2.2.1 z
 funs:=I.stack
 frf:=I.stkFree
theorem K5 (B:vS X scope own caps) (I:zH X pins σ H s) (hf:∀ b∈fp,yU X pins H b) (hC:s.heap.objs.size<=C) (hlt:∀ b∈fp,b < s.heap.objs.size)
  {m:Str->Option Value} (hn:s4.heap.Ns C m) (hk:∀ b o,s.heap.get? b=some o->s4.heap.get? b=some o) (hcell:∀ x c,(cellsFrom (C + 1) scope.names (wS scope X.env)).lookup x=some c->(wS scope X.env).lookup x=some c\/s4.heap.IsCell c none) (ho:s4.os=s.os) (hb:AllBare s4.gens) :
  zH (yZ X scope (ze own caps) C s H fp) [] (wU own caps σ) H s4 where
 ok:=zP4 B I hf hC hlt
 os:=ho
 bare:=hb
 base:=Un.kept hk
 loc:=⟨m,hn,λi x v h1 h2 h3=>by
  obtain ⟨j,hm,hs⟩:=zOU h1 h2
  obtain ⟨c1,c2,c3⟩:=B.caps _ hm
  obtain ⟨m',_,hl⟩:=I.loc
  have vis:jp X.env.scope x:=c3.elim (λz=>.inr (.inl z)) λz=>.inr (.inr z)
  obtain ⟨u,r,l⟩:=hl j x v c1 hs vis
  refine ⟨u,r,.inr ?_⟩
  have hm2:(x,NameKind.free)∈scope.names:=gI c2
  obtain ⟨c',hc'⟩:=UX (env:=X.env) hm2
  have hc2:=(j3 B.free hc').1
  have noc:(x,NameKind.cell)∉scope.names:=λz=>by
   have:=j5 B.nod z
   rw [c2] at this
   cases this
  refine ⟨?_,c',(Ua _ _ _ noc).trans hc',?_⟩
  ·show (relabel scope X.env).names.lookup x=some .cell\/(relabel scope X.env).names.lookup x=some .free
   rw [Kt,c2,Option.map_some]
   split
   ·exact .inl rfl
   ·exact .inr rfl
  ·rcases l with ⟨k,_⟩ | ⟨_,c,e,z⟩
   ·rcases c3 with c3 | c3 <;> rw [c3] at k <;> cases k
   ·rw [hc2] at e
    cases e
    obtain ⟨o,e1,e2⟩:=z
    exact ⟨o,hk _ o e1,e2⟩⟩
 cell:=λx c e=>by
  rcases hcell x c e with z | z
  ·obtain ⟨v,o,e1,e2⟩:=I.cell x c (j3 B.free z).1
   exact ⟨v,o,hk _ o e1,e2⟩
  ·exact ⟨none,z⟩
 free:=I.hok.fresh hC
 freeC:=λx c e=>by
  rcases gM B e with ⟨_,z⟩ | z
  ·exact I.hok.fresh (Nat.le_trans hC (Nat.le_of_succ_le z))
  ·exact I.freeC x c z
 pin:=λp hp=>by simp at hp
 hok:=I.hok.kept hk
 len:=by
  show (wU own caps σ).length=(ze own caps).length
  unfold wU ze
  simp
end
section
variable {X:Cx} {scope:Scope} {own:List Str} {caps:List (Nat × Str)} {elt tg iter cond:Expr} {wi:TI} {g:TG} {tc:TT} {te:TE} {pos:Pos}
theorem K6 {pins:List (Addr × Obj)} {σ:St} {H2:Hp} {s2:Shared} {it:Addr} {fp:List Addr} {tn:Nat->Heap->Prop} {J:It} {W:Nat->Nat->List V->St->Hp->Prop} {m0:Nat} {Q:VK} {E:Value->Shared->Prop} {RR:Value->Addr->Result->Shared->Prop}
  (B:vS X scope own caps) (hc:X.calm=true) (hg:∀ C s₀ H₀ ex,PG (yZ X scope (ze own caps) C s₀ H₀ ex) tg g) (he:∀ C s₀ H₀ ex,PE (yZ X scope (ze own caps) C s₀ H₀ ex) elt te)
  (I2:zH X pins σ H2 s2) (T:xx X.prog X.w X.K tg J fp it tn) (st2:tn 0 s2.heap) (f2:∀ b∈fp,yU X pins H2 b) (w0:W 0 m0 [] (wU own caps σ) H2)
  (turn:∀ i m ys σ1 H,W i m ys σ1 H->(J.stop i H/\∀ p,H p=none->Q (.ref p) (zW H p (.lst ys)))∨
   (J.go i H/\ys.length < sizeLine/\∃ N:V->St->Hp->Prop,(∀ y σ' H',N y σ' H'->∃ m',m' < m/\W (i + 1) m' (ys++[y]) σ' H')/\∀ x H',J.yld i H x H'->g x σ1 H' λσ2 H2=>te σ2 H2 λy H3=>N y σ2 H3))
  (hRR:∀ D C s6 H6 ys m,s6.heap.Ns C m->s2.heap.objs.size<=C->(∀ h',Heap.SameBut C s6.heap h'->zH X pins σ (zW H6 D (.lst ys)) { s6 with heap:=h' })->zW H6 D (.lst ys) C=none->Q (.ref D) (zW H6 D (.lst ys))->RR (.ref D) C (.ok .next) s6) :
  wpAny (model X.prog X.w) X.A (newList []) (λacc s3=>wpAny (model X.prog X.w) X.A (newFunctionEnv scope X.env.globals (wS scope X.env) [] X.env.qual none .none (some X.env)) (λcenv s4=>
   codeAny (model X.prog X.w) X.A (.compStart (.ListComp elt [⟨tg,iter,[],0⟩] scope pos) 0 (.ref it) acc { cenv with scope:=relabel scope X.env }) (RR acc cenv.locals) s4) E s3) E s2:=by
 have hlt:∀ b∈fp,b < s2.heap.objs.size:=λb hb=>by
  obtain ⟨o,ho,_⟩:=T.obj _ _ st2 b hb
  exact Heap.lt_size ho
 refine wpAny_newObj_type (K4 ?_)
 dsimp only
 generalize hP:s2.heap.push { cls:=.type "list",dict:=none,data:=.seq ([]:List Value).toArray }=HD
 have hns:(pushCells (HD.push { cls:=.type "dict",data:=.dict #[] }) scope.names).Ns HD.objs.size (λ_=>none):=(Heap.Ns.new HD (.type "dict")).keeps (pushCells_keeps _ _)
 have hkp:∀ b o,HD.get? b=some o->(pushCells (HD.push { cls:=.type "dict",data:=.dict #[] }) scope.names).get? b=some o:=λb o e=>pushCells_keeps _ _ b o (Heap.get?_push_of_some _ e)
 have hcell:∀ x c,(cellsFrom (HD.objs.size + 1) scope.names (wS scope X.env)).lookup x=some c->(wS scope X.env).lookup x=some c\/(pushCells (HD.push { cls:=.type "dict",data:=.dict #[] }) scope.names).IsCell c none:=λx c e=>
  XX _ _ _ (by rw [Heap.size_push]; exact e)
 generalize hP4:pushCells (HD.push { cls:=.type "dict",data:=.dict #[] }) scope.names=h4 at hns hkp hcell |-
 have hCD:HD.objs.size=s2.heap.objs.size + 1:=by rw [<- hP,Heap.size_push]
 have hDC:s2.heap.objs.size≠HD.objs.size:=by omega
 have hle:s2.heap.objs.size<=HD.objs.size:=by omega
 have old:∀ b o,s2.heap.get? b=some o->h4.get? b=some o:=λb o eb=>hkp b o (by rw [<- hP]; exact Heap.get?_push_of_some _ eb)
 have hD4:h4.get? s2.heap.objs.size=some { cls:=.type "list",data:=.seq ([]:List Value).toArray 0 }:=hkp _ _ (by rw [<- hP]; exact Heap.get?_push_size _ rfl)
 have IY:zH (yZ X scope (ze own caps) HD.objs.size s2 H2 fp) [] (wU own caps σ) H2 { s2 with heap:=h4 }:=
  K5 B I2 f2 (by omega) hlt hns old hcell rfl I2.bare
 have stat:∀ {H':Hp},(∀ b∈fp,H' b=none)->∀ b∈fp,yU (yZ X scope (ze own caps) HD.objs.size s2 H2 fp) [] H' b:=λ{H'} hn b hb=>by
  have hb2:=hlt b hb
  refine ⟨hn b hb,?_,λz=>?_,.inl hb,λx c ec=>(match gM B ec with | .inl z=>j4 hb2 hle z.2 | .inr z=>(f2 b hb).2.2.2.2.1 x c z),λp hp=>by simp at hp⟩
  ·exact Nat.ne_of_lt (Nat.lt_of_lt_of_le hb2 hle)
  ·rcases List.mem_cons.mp (I2.stkSub b z) with e | z
   ·exact (f2 b hb).2.1 e
   ·exact (f2 b hb).2.2.1 z
 have statD:∀ {H':Hp},H' s2.heap.objs.size=none->yU (yZ X scope (ze own caps) HD.objs.size s2 H2 fp) [] H' s2.heap.objs.size:=λ{H'} hn=>by
  refine ⟨hn,hDC,λz=>?_,.inr (Nat.le_refl _),λx c ec z=>?_,λp hp=>by simp at hp⟩
  ·obtain ⟨_,o,ho,_⟩:=I2.stack.mem z
   exact absurd (Heap.lt_size ho) (Nat.lt_irrefl _)
  ·rcases gM B ec with ⟨_,y⟩ | y
   ·exact ZB hCD y z
   ·have:=Uc I2 y
    rw [z] at this
    exact Nat.lt_irrefl _ this
 have u9:∀ b∈fp,b≠s2.heap.objs.size:=λb hb=>Nat.ne_of_lt (hlt b hb)
 have IY':zH (yZ X scope (ze own caps) HD.objs.size s2 H2 fp) [(s2.heap.objs.size,yg [] 0)] (wU own caps σ) H2 { s2 with heap:=h4 }:=
  IY.pins_of λp hp=>by
   rw [List.mem_singleton.mp hp]
   have z:=statD (I2.hok.fresh (Nat.le_refl _))
   exact ⟨hD4,z.1,z.2.1,z.2.2.1,λv z=>by cases z⟩
 have loop:∀ s3:Shared,s3={ s2 with heap:=h4 }->
   codeAny (model X.prog X.w) X.A (.compLoop (.ListComp elt [⟨tg,iter,[],0⟩] scope pos) 0 (.ref it) (.ref s2.heap.objs.size) (compEnvC scope (cellsFrom (HD.objs.size + 1) scope.names (wS scope X.env)) HD.objs.size X.env))
    (RR (.ref s2.heap.objs.size) HD.objs.size) s3:=by
  rintro s3 rfl
  refine zK7 (λn s'=>∃ i ys σ' H' its k,zH (yZ X scope (ze own caps) HD.objs.size s2 H2 fp) [(s2.heap.objs.size,yg its k)] σ' H' s'/\tn i s'.heap/\(∀ b∈fp,H' b=none)∧
   zM ys its/\ys.length<=sizeLine/\W i n ys σ' H') ?_ m0 ⟨0,[],_,H2,[],0,IY',T.keep _ _ _ st2 λb hb o eb=>old b o eb,λb hb=>(f2 b hb).1,.nil,Nat.zero_le _,w0⟩
  rintro n s5 ⟨i,ys,σ5,H5,its,k,I5,st5,fr5,rv5,hz5,w5⟩
  have stat5:∀ {H':Hp},(∀ b∈fp,H' b=none)->∀ b∈fp,yU (yZ X scope (ze own caps) HD.objs.size s2 H2 fp) [(s2.heap.objs.size,yg its k)] H' b:=λ{H'} hn b hb=>by
   obtain ⟨a1,a2,a3,a4,a5,_⟩:=stat hn b hb
   refine ⟨a1,a2,a3,a4,a5,λp hp=>?_⟩
   have hp':p∈[(s2.heap.objs.size,yg its k)]:=hp
   rw [List.mem_singleton.mp hp']
   exact Ne.symm (u9 b hb)
  rcases turn i n ys σ5 H5 w5 with ⟨stop,qn⟩ | ⟨go,hlen,N,hN,step⟩
  ·refine zk (T.done (yZ X scope (ze own caps) HD.objs.size s2 H2 fp) rfl rfl rfl hc i _ s5 σ5 H5 _ I5 (stat5 fr5) st5 stop) λr s6 ⟨hr,I6⟩=>?_
   subst hr
   obtain ⟨pD1,pD2,_⟩:=I6.pin (s2.heap.objs.size,yg its k) (List.mem_append_right _ List.mem_cons_self)
   obtain ⟨m6,hn6,_⟩:=I6.loc
   refine hRR _ _ s6 H5 ys m6 hn6 (by omega) (λh' sb=>?_) (by rw [zt (Ne.symm hDC)]; exact I6.free) (qn _ pD2)
   have hC5:H5 HD.objs.size=none:=I6.free
   have nb:∀ b o,s2.heap.get? b=some o->b≠HD.objs.size/\b≠s2.heap.objs.size:=λb o eb=>by
    have hb:=Heap.lt_size eb
    exact ⟨Nat.ne_of_lt (Nat.lt_of_lt_of_le hb hle),Nat.ne_of_lt hb⟩
   have nt:∀ b o,H5 b=some o->b≠s2.heap.objs.size:=λb o eb z=>by rw [z] at eb; rw [show H5 s2.heap.objs.size=none from pD2] at eb; cases eb
   have un:Un (vG X.stack) fp H2 (zW H5 s2.heap.objs.size (.lst ys)) s2.heap h':=
    ⟨λb o eb n1 n2 n3=>sb.extBut b o (nb b o eb).1 (I6.base.keep b o eb n1 n2 n3),
     λb o eb n1 n2 n3=>by
      obtain ⟨sl,e1⟩:=I6.base.slot b o eb n1 n2 n3
      exact ⟨sl,sb.extBut b _ (nb b o eb).1 e1⟩,
     λb o eb n1 n3=>by
      rw [zt (nb b o eb).2]
      exact I6.base.free b o eb n1 n3,
     λb o eb n3=>by
      obtain ⟨o',e1⟩:=I6.base.there b o eb n3
      exact ⟨o',sb.extBut b _ (nb b o eb).1 e1⟩,
     λb xs eb=>by
      have e1:=I6.base.tups b xs eb
      rw [zt (nt b _ e1)]
      exact e1,
     λb o u eb=>by
      have e1:=I6.base.frzs b o u eb
      rw [zt (nt b _ e1)]
      exact e1,
     λb ps eb=>by
      obtain ⟨more,e1⟩:=I6.base.tbls b ps eb
      refine ⟨more,?_⟩
      rw [zt (nt b _ e1)]
      exact e1⟩
   have ok5:xL X.prog X.w (zW H5 s2.heap.objs.size (.lst ys)) h':=λb u eb=>by
    by_cases hb:b=s2.heap.objs.size
    ·subst hb
     rw [xI] at eb
     cases eb
     exact ⟨hz5,its,k,rv5,sb.extBut _ _ hDC pD1⟩
    ·rw [zt hb] at eb
     refine (I6.hok b u eb).stay (λc v hcv ev=>sb.extBut c v ?_ ev) (λc ec=>by rw [zt (nt c _ ec)]; exact ec) λc xs ec=>by rw [zt (nt c _ ec)]; exact ec
     rintro rfl
     rcases hcv with z | z
     ·rw [<- z,hC5] at eb
      cases eb
     ·rw [hC5] at z
      cases z
   exact I2.call' (s':={ s6 with heap:=h' }) (ch:=fp) I6.os un ok5 I6.bare λb hb=>⟨(f2 b hb).2.2.2.1,(f2 b hb).2.1,(f2 b hb).2.2.2.2.1,(f2 b hb).2.2.2.2.2⟩
  ·refine zk (T.item (yZ X scope (ze own caps) HD.objs.size s2 H2 fp) rfl rfl rfl hc i _ s5 σ5 H5 _ I5 (stat5 fr5) st5 go) λr s6 ⟨u,hr,h6⟩=>?_
   subst hr
   refine zk h6 λ_ s7 ⟨x,H7,I7,r7,y7,st7,fr7⟩=>?_
   have I7':=I7.pinned (stat5 fr7) (T.obj _ _ st7)
   refine zk (hg HD.objs.size s2 H2 fp _ s7 σ5 H7 x u _ I7' r7 (step x H7 y7)) λ_ s8 ⟨σ8,H8,I8,q8⟩=>?_
   refine zk (he HD.objs.size s2 H2 fp _ s8 σ8 H8 _ I8 q8) λyv s9 ⟨y,H9,I9,r9,n9⟩=>?_
   obtain ⟨m',hm',w9⟩:=hN y σ8 H9 n9
   have pD9:=(I9.pin (s2.heap.objs.size,yg its k) (List.mem_append_right _ (List.mem_append_left _ List.mem_cons_self))).2.1
   have hl:its.length=ys.length:=rv5.length.symm
   refine Kv (Y:=yZ X scope (ze own caps) HD.objs.size s2 H2 fp) (its:=its) (k:=k) (pl:=gC fp s7.heap) I9 (statD pD9) rfl (by omega) λh' k' tk keep I'=>?_
   refine ⟨m',hm',i + 1,ys++[y],σ8,H9,its++[yv],k',I',?_,λb hb=>?_,rv5.append (.cons r9 .nil),?_,w9⟩
   ·refine T.keep _ _ _ st7 λb hb o eb=>keep b o (u9 b hb) ?_
    exact (I9.pin (b,o) (List.mem_append_right _ (List.mem_append_right _ (jT hb eb)))).1
   ·obtain ⟨o,eb,_⟩:=T.obj _ _ st7 b hb
    exact (I9.pin (b,o) (List.mem_append_right _ (List.mem_append_right _ (jT hb eb)))).2.1
   ·rw [List.length_append,List.length_singleton]
    omega
 exact codeAny_compStart_list (loop _ rfl) (T.self _ 0 _ _ _ (T.keep _ _ _ st2 λb hb o eb=>old b o eb) (loop _ rfl))
theorem ZC (B:vS X scope own caps) (hc:X.calm=true) (hi:PI X tg iter wi) (hg:∀ C s₀ H₀ ex,PG (yZ X scope (ze own caps) C s₀ H₀ ex) tg g)
  (he:∀ C s₀ H₀ ex,PE (yZ X scope (ze own caps) C s₀ H₀ ex) elt te) (hs:∀ x,foldedSetIterable iter X.env x=pure x:=by intro _; rfl) :
  PE X (.ListComp elt [⟨tg,iter,[],0⟩] scope pos) (Ku own caps wi g te):=by
 intro pins s σ H Q I h
 rw [eval_ListComp]
 refine wpAny_comprehension_free (use:=none) rfl hs (UW B.free) B.kind B.locs ?_
 refine zk (hi pins s σ H _ I h) λxv s1 h1=>zk h1 λitv s2 h2=>?_
 obtain ⟨it,fp,tn,J,H2,e,I2,T,st2,f2,W,⟨m0,w0⟩,turn⟩:=h2
 subst e
 refine K6 (RR:=λacc C=>compPost (model X.prog X.w) X.A X.xe none (EP X pins σ Q) acc C) B hc hg he I2 T st2 f2 w0 turn λD C s6 H6 ys m hn hC J6 hC6 q=>?_
 exact ⟨m,hn,λh' sb=>⟨.ref D,_,J6 h' sb,rfl,q⟩⟩
theorem Ud {i:Nat} {y:Str} {py spos:Pos} (hN:X.N.Nodup) (hy:X.N[i]? = some y) (hl:X.env.scope.names.lookup y=some .local) (B:vS X scope own caps) (hc:X.calm=true) (hi:PI X tg iter wi) (hg:∀ C s₀ H₀ ex,PG (yZ X scope (ze own caps) C s₀ H₀ ex) tg g)
  (he:∀ C s₀ H₀ ex,PE (yZ X scope (ze own caps) C s₀ H₀ ex) elt te) (hsw:swapsWith (.ListComp elt [⟨tg,iter,[],0⟩] scope pos) (some (.Name y py)) spos.line X.env=pure true) (hs:∀ x,foldedSetIterable iter X.env x=pure x:=by intro _; rfl) :
  PS X (.Assign [.Name y py] (.ListComp elt [⟨tg,iter,[],0⟩] scope pos) spos) (uV (Ku own caps wi g te) (jt i)):=by
 intro pins s σ H D0 I h
 rw [exec_Assign_Name_used _ _ _ _ hsw]
 refine wpAny_bind (wpAny_standAt (wpAny_bind ?_))
 change wpAny _ X.A (do let _ <- comprehension (.ListComp elt [⟨tg,iter,[],0⟩] scope pos) scope X.env _ (newList []) false (eval iter X.env) (some (assign (.Name y py) X.env))) _ _ s
 refine wpAny_bind (wpAny_mono (wpAny_comprehension_free (use:=some (assign (.Name y py) X.env)) (Q:=λ_ s'=>SP X pins D0 .next s') rfl hs (UW B.free) B.kind B.locs ?_) (λ_ s' hq=>wpAny_pure (wpAny_pure hq)) λ_ _ e=>e)
 refine zk (hi pins s σ H _ I h) λxv s1 h1=>zk h1 λitv s2 h2=>?_
 obtain ⟨it,fp,tn,J,H2,e,I2,T,st2,f2,W,⟨m0,w0⟩,turn⟩:=h2
 subst e
 refine K6 (Q:=λx H1=>D0.nx (σ.set i (some x)) H1) (RR:=λacc C=>compPost (model X.prog X.w) X.A X.xe (some (assign (.Name y py) X.env)) (λ_ s'=>SP X pins D0 .next s') acc C) B hc hg he I2 T st2 f2 w0 turn λD C s6 H6 ys m hn hC J6 hC6 q=>?_
 have I6:zH X pins σ (zW H6 D (.lst ys)) s6:=J6 s6.heap (.refl ..)
 have CL:C≠X.env.locals:=λz=>by rw [z] at hC; exact absurd (Nat.lt_of_lt_of_le I2.lt hC) (Nat.lt_irrefl _)
 have CC:∀ x c,X.env.cells.lookup x=some c->c≠C:=λx c ec z=>by
  obtain ⟨v,o,ho,_⟩:=I2.cell x c ec
  rw [z] at ho
  exact absurd (Nat.lt_of_lt_of_le (Heap.lt_size ho) hC) (Nat.lt_irrefl _)
 have CP:∀ p∈X.pn++pins,p.1≠C:=λp hp z=>by
  have hl:=Heap.lt_size (I2.pin p hp).1
  rw [z] at hl
  exact absurd (Nat.lt_of_lt_of_le hl hC) (Nat.lt_irrefl _)
 change wpAny _ X.A (assign (.Name y py) X.env (.ref D)) _ _ s6
 refine wpAny_assign_Name (W0 I6 hN hy (.inl hl) (v:=.ref D) rfl (λs7 I7 ⟨a,sb,ha⟩=>?_) (.inr hl))
 have aC:C≠a:=λz=>by
  rcases ha with e | e
  ·exact CL (z.trans e)
  ·exact CC _ _ e z.symm
 refine ⟨m,hn.sameBut sb aC,λh' sb'=>⟨_,_,I7.turned (h':=h') (t':=s7.toks) (it:=C) (λb o hb eb=>sb'.extBut b o hb eb) hC6 CL (.inr (Nat.le_trans I2.sz hC)) CC CP,q⟩⟩
theorem zJR {pins:List (Addr × Obj)} {σ:St} {H2:Hp} {s2:Shared} {it:Addr} {fp:List Addr} {tn:Nat->Heap->Prop} {J:It} {W:Nat->Nat->List V->St->Hp->Prop} {m0:Nat} {Q:VK} {E:Value->Shared->Prop} {RR:Value->Addr->Result->Shared->Prop}
  (B:vS X scope own caps) (hc:X.calm=true) (hg:∀ C s₀ H₀ ex,PG (yZ X scope (ze own caps) C s₀ H₀ ex) tg g) (ht:∀ C s₀ H₀ ex,PT (yZ X scope (ze own caps) C s₀ H₀ ex) cond tc) (he:∀ C s₀ H₀ ex,PE (yZ X scope (ze own caps) C s₀ H₀ ex) elt te)
  (I2:zH X pins σ H2 s2) (T:xx X.prog X.w X.K tg J fp it tn) (st2:tn 0 s2.heap) (f2:∀ b∈fp,yU X pins H2 b) (w0:W 0 m0 [] (wU own caps σ) H2)
  (turn:∀ i m ys σ1 H,W i m ys σ1 H->(J.stop i H/\∀ p,H p=none->Q (.ref p) (zW H p (.lst ys)))∨
   (J.go i H/\ys.length < sizeLine/\∃ (N:V->St->Hp->Prop) (N0:St->Hp->Prop),(∀ y σ' H',N y σ' H'->∃ m',m' < m/\W (i + 1) m' (ys++[y]) σ' H')/\(∀ σ' H',N0 σ' H'->∃ m',m' < m/\W (i + 1) m' ys σ' H')∧
    ∀ x H',J.yld i H x H'->g x σ1 H' λσ2 H2=>tc σ2 H2 λb H3=>if b=true then te σ2 H3 λy H4=>N y σ2 H4 else N0 σ2 H3))
  (hRR:∀ D C s6 H6 ys m,s6.heap.Ns C m->s2.heap.objs.size<=C->(∀ h',Heap.SameBut C s6.heap h'->zH X pins σ (zW H6 D (.lst ys)) { s6 with heap:=h' })->zW H6 D (.lst ys) C=none->Q (.ref D) (zW H6 D (.lst ys))->RR (.ref D) C (.ok .next) s6) :
  wpAny (model X.prog X.w) X.A (newList []) (λacc s3=>wpAny (model X.prog X.w) X.A (newFunctionEnv scope X.env.globals (wS scope X.env) [] X.env.qual none .none (some X.env)) (λcenv s4=>
   codeAny (model X.prog X.w) X.A (.compStart (.ListComp elt [⟨tg,iter,[cond],0⟩] scope pos) 0 (.ref it) acc { cenv with scope:=relabel scope X.env }) (RR acc cenv.locals) s4) E s3) E s2:=by
 have hlt:∀ b∈fp,b < s2.heap.objs.size:=λb hb=>by
  obtain ⟨o,ho,_⟩:=T.obj _ _ st2 b hb
  exact Heap.lt_size ho
 refine wpAny_newObj_type (K4 ?_)
 dsimp only
 generalize hP:s2.heap.push { cls:=.type "list",dict:=none,data:=.seq ([]:List Value).toArray }=HD
 have hns:(pushCells (HD.push { cls:=.type "dict",data:=.dict #[] }) scope.names).Ns HD.objs.size (λ_=>none):=(Heap.Ns.new HD (.type "dict")).keeps (pushCells_keeps _ _)
 have hkp:∀ b o,HD.get? b=some o->(pushCells (HD.push { cls:=.type "dict",data:=.dict #[] }) scope.names).get? b=some o:=λb o e=>pushCells_keeps _ _ b o (Heap.get?_push_of_some _ e)
 have hcell:∀ x c,(cellsFrom (HD.objs.size + 1) scope.names (wS scope X.env)).lookup x=some c->(wS scope X.env).lookup x=some c\/(pushCells (HD.push { cls:=.type "dict",data:=.dict #[] }) scope.names).IsCell c none:=λx c e=>
  XX _ _ _ (by rw [Heap.size_push]; exact e)
 generalize hP4:pushCells (HD.push { cls:=.type "dict",data:=.dict #[] }) scope.names=h4 at hns hkp hcell |-
 have hCD:HD.objs.size=s2.heap.objs.size + 1:=by rw [<- hP,Heap.size_push]
 have hDC:s2.heap.objs.size≠HD.objs.size:=by omega
 have hle:s2.heap.objs.size<=HD.objs.size:=by omega
 have old:∀ b o,s2.heap.get? b=some o->h4.get? b=some o:=λb o eb=>hkp b o (by rw [<- hP]; exact Heap.get?_push_of_some _ eb)
 have hD4:h4.get? s2.heap.objs.size=some { cls:=.type "list",data:=.seq ([]:List Value).toArray 0 }:=hkp _ _ (by rw [<- hP]; exact Heap.get?_push_size _ rfl)
 have IY:zH (yZ X scope (ze own caps) HD.objs.size s2 H2 fp) [] (wU own caps σ) H2 { s2 with heap:=h4 }:=
  K5 B I2 f2 (by omega) hlt hns old hcell rfl I2.bare
 have stat:∀ {H':Hp},(∀ b∈fp,H' b=none)->∀ b∈fp,yU (yZ X scope (ze own caps) HD.objs.size s2 H2 fp) [] H' b:=λ{H'} hn b hb=>by
  have hb2:=hlt b hb
  refine ⟨hn b hb,?_,λz=>?_,.inl hb,λx c ec=>(match gM B ec with | .inl z=>j4 hb2 hle z.2 | .inr z=>(f2 b hb).2.2.2.2.1 x c z),λp hp=>by simp at hp⟩
  ·exact Nat.ne_of_lt (Nat.lt_of_lt_of_le hb2 hle)
  ·rcases List.mem_cons.mp (I2.stkSub b z) with e | z
   ·exact (f2 b hb).2.1 e
   ·exact (f2 b hb).2.2.1 z
 have statD:∀ {H':Hp},H' s2.heap.objs.size=none->yU (yZ X scope (ze own caps) HD.objs.size s2 H2 fp) [] H' s2.heap.objs.size:=λ{H'} hn=>by
  refine ⟨hn,hDC,λz=>?_,.inr (Nat.le_refl _),λx c ec z=>?_,λp hp=>by simp at hp⟩
  ·obtain ⟨_,o,ho,_⟩:=I2.stack.mem z
   exact absurd (Heap.lt_size ho) (Nat.lt_irrefl _)
  ·rcases gM B ec with ⟨_,y⟩ | y
   ·exact ZB hCD y z
   ·have:=Uc I2 y
    rw [z] at this
    exact Nat.lt_irrefl _ this
 have u9:∀ b∈fp,b≠s2.heap.objs.size:=λb hb=>Nat.ne_of_lt (hlt b hb)
 have IY':zH (yZ X scope (ze own caps) HD.objs.size s2 H2 fp) [(s2.heap.objs.size,yg [] 0)] (wU own caps σ) H2 { s2 with heap:=h4 }:=
  IY.pins_of λp hp=>by
   rw [List.mem_singleton.mp hp]
   have z:=statD (I2.hok.fresh (Nat.le_refl _))
   exact ⟨hD4,z.1,z.2.1,z.2.2.1,λv z=>by cases z⟩
 have loop:∀ s3:Shared,s3={ s2 with heap:=h4 }->
   codeAny (model X.prog X.w) X.A (.compLoop (.ListComp elt [⟨tg,iter,[cond],0⟩] scope pos) 0 (.ref it) (.ref s2.heap.objs.size) (compEnvC scope (cellsFrom (HD.objs.size + 1) scope.names (wS scope X.env)) HD.objs.size X.env))
    (RR (.ref s2.heap.objs.size) HD.objs.size) s3:=by
  rintro s3 rfl
  refine zJQ (λn s'=>∃ i ys σ' H' its k,zH (yZ X scope (ze own caps) HD.objs.size s2 H2 fp) [(s2.heap.objs.size,yg its k)] σ' H' s'/\tn i s'.heap/\(∀ b∈fp,H' b=none)∧
   zM ys its/\ys.length<=sizeLine/\W i n ys σ' H') ?_ m0 ⟨0,[],_,H2,[],0,IY',T.keep _ _ _ st2 λb hb o eb=>old b o eb,λb hb=>(f2 b hb).1,.nil,Nat.zero_le _,w0⟩
  rintro n s5 ⟨i,ys,σ5,H5,its,k,I5,st5,fr5,rv5,hz5,w5⟩
  have stat5:∀ {H':Hp},(∀ b∈fp,H' b=none)->∀ b∈fp,yU (yZ X scope (ze own caps) HD.objs.size s2 H2 fp) [(s2.heap.objs.size,yg its k)] H' b:=λ{H'} hn b hb=>by
   obtain ⟨a1,a2,a3,a4,a5,_⟩:=stat hn b hb
   refine ⟨a1,a2,a3,a4,a5,λp hp=>?_⟩
   have hp':p∈[(s2.heap.objs.size,yg its k)]:=hp
   rw [List.mem_singleton.mp hp']
   exact Ne.symm (u9 b hb)
  rcases turn i n ys σ5 H5 w5 with ⟨stop,qn⟩ | ⟨go,hlen,N,N0,hN,hN0,step⟩
  ·refine zk (T.done (yZ X scope (ze own caps) HD.objs.size s2 H2 fp) rfl rfl rfl hc i _ s5 σ5 H5 _ I5 (stat5 fr5) st5 stop) λr s6 ⟨hr,I6⟩=>?_
   subst hr
   obtain ⟨pD1,pD2,_⟩:=I6.pin (s2.heap.objs.size,yg its k) (List.mem_append_right _ List.mem_cons_self)
   obtain ⟨m6,hn6,_⟩:=I6.loc
   refine hRR _ _ s6 H5 ys m6 hn6 (by omega) (λh' sb=>?_) (by rw [zt (Ne.symm hDC)]; exact I6.free) (qn _ pD2)
   have hC5:H5 HD.objs.size=none:=I6.free
   have nb:∀ b o,s2.heap.get? b=some o->b≠HD.objs.size/\b≠s2.heap.objs.size:=λb o eb=>by
    have hb:=Heap.lt_size eb
    exact ⟨Nat.ne_of_lt (Nat.lt_of_lt_of_le hb hle),Nat.ne_of_lt hb⟩
   have nt:∀ b o,H5 b=some o->b≠s2.heap.objs.size:=λb o eb z=>by rw [z] at eb; rw [show H5 s2.heap.objs.size=none from pD2] at eb; cases eb
   have un:Un (vG X.stack) fp H2 (zW H5 s2.heap.objs.size (.lst ys)) s2.heap h':=
    ⟨λb o eb n1 n2 n3=>sb.extBut b o (nb b o eb).1 (I6.base.keep b o eb n1 n2 n3),
     λb o eb n1 n2 n3=>by
      obtain ⟨sl,e1⟩:=I6.base.slot b o eb n1 n2 n3
      exact ⟨sl,sb.extBut b _ (nb b o eb).1 e1⟩,
     λb o eb n1 n3=>by
      rw [zt (nb b o eb).2]
      exact I6.base.free b o eb n1 n3,
     λb o eb n3=>by
      obtain ⟨o',e1⟩:=I6.base.there b o eb n3
      exact ⟨o',sb.extBut b _ (nb b o eb).1 e1⟩,
     λb xs eb=>by
      have e1:=I6.base.tups b xs eb
      rw [zt (nt b _ e1)]
      exact e1,
     λb o u eb=>by
      have e1:=I6.base.frzs b o u eb
      rw [zt (nt b _ e1)]
      exact e1,
     λb ps eb=>by
      obtain ⟨more,e1⟩:=I6.base.tbls b ps eb
      refine ⟨more,?_⟩
      rw [zt (nt b _ e1)]
      exact e1⟩
   have ok5:xL X.prog X.w (zW H5 s2.heap.objs.size (.lst ys)) h':=λb u eb=>by
    by_cases hb:b=s2.heap.objs.size
    ·subst hb
     rw [xI] at eb
     cases eb
     exact ⟨hz5,its,k,rv5,sb.extBut _ _ hDC pD1⟩
    ·rw [zt hb] at eb
     refine (I6.hok b u eb).stay (λc v hcv ev=>sb.extBut c v ?_ ev) (λc ec=>by rw [zt (nt c _ ec)]; exact ec) λc xs ec=>by rw [zt (nt c _ ec)]; exact ec
     rintro rfl
     rcases hcv with z | z
     ·rw [<- z,hC5] at eb
      cases eb
     ·rw [hC5] at z
      cases z
   exact I2.call' (s':={ s6 with heap:=h' }) (ch:=fp) I6.os un ok5 I6.bare λb hb=>⟨(f2 b hb).2.2.2.1,(f2 b hb).2.1,(f2 b hb).2.2.2.2.1,(f2 b hb).2.2.2.2.2⟩
  ·refine zk (T.item (yZ X scope (ze own caps) HD.objs.size s2 H2 fp) rfl rfl rfl hc i _ s5 σ5 H5 _ I5 (stat5 fr5) st5 go) λr s6 ⟨u,hr,h6⟩=>?_
   subst hr
   refine zk h6 λ_ s7 ⟨x,H7,I7,r7,y7,st7,fr7⟩=>?_
   have I7':=I7.pinned (stat5 fr7) (T.obj _ _ st7)
   refine zk (hg HD.objs.size s2 H2 fp _ s7 σ5 H7 x u _ I7' r7 (step x H7 y7)) λ_ s8 ⟨σ8,H8,I8,q8⟩=>?_
   refine zk (ht HD.objs.size s2 H2 fp _ s8 σ8 H8 _ I8 q8) λok sT ⟨HT,IT,qT⟩=>?_
   cases ok with
   | false=>
    obtain ⟨m',hm',w9⟩:=hN0 σ8 HT qT
    refine ⟨m',hm',i + 1,ys,σ8,HT,its,k,IT.unpinned,?_,λb hb=>?_,rv5,hz5,w9⟩
    ·refine T.keep _ _ _ st7 λb hb o eb=>?_
     exact (IT.pin (b,o) (List.mem_append_right _ (List.mem_append_right _ (jT hb eb)))).1
    ·obtain ⟨o,eb,_⟩:=T.obj _ _ st7 b hb
     exact (IT.pin (b,o) (List.mem_append_right _ (List.mem_append_right _ (jT hb eb)))).2.1
   | true=>
    refine zk (he HD.objs.size s2 H2 fp _ sT σ8 HT _ IT qT) λyv s9 ⟨y,H9,I9,r9,n9⟩=>?_
    obtain ⟨m',hm',w9⟩:=hN y σ8 H9 n9
    have pD9:=(I9.pin (s2.heap.objs.size,yg its k) (List.mem_append_right _ (List.mem_append_left _ List.mem_cons_self))).2.1
    have hl:its.length=ys.length:=rv5.length.symm
    refine Kv (Y:=yZ X scope (ze own caps) HD.objs.size s2 H2 fp) (its:=its) (k:=k) (pl:=gC fp s7.heap) I9 (statD pD9) rfl (by omega) λh' k' tk keep I'=>?_
    refine ⟨m',hm',i + 1,ys++[y],σ8,H9,its++[yv],k',I',?_,λb hb=>?_,rv5.append (.cons r9 .nil),?_,w9⟩
    ·refine T.keep _ _ _ st7 λb hb o eb=>keep b o (u9 b hb) ?_
     exact (I9.pin (b,o) (List.mem_append_right _ (List.mem_append_right _ (jT hb eb)))).1
    ·obtain ⟨o,eb,_⟩:=T.obj _ _ st7 b hb
     exact (I9.pin (b,o) (List.mem_append_right _ (List.mem_append_right _ (jT hb eb)))).2.1
    ·rw [List.length_append,List.length_singleton]
     omega
 exact codeAny_compStart_list (loop _ rfl) (T.self _ 0 _ _ _ (T.keep _ _ _ st2 λb hb o eb=>old b o eb) (loop _ rfl))
theorem zLt {i:Nat} {y:Str} {py spos:Pos} (hN:X.N.Nodup) (hy:X.N[i]? = some y) (hl:X.env.scope.names.lookup y=some .local) (B:vS X scope own caps) (hc:X.calm=true) (hi:PI X tg iter wi) (hg:∀ C s₀ H₀ ex,PG (yZ X scope (ze own caps) C s₀ H₀ ex) tg g)
  (ht:∀ C s₀ H₀ ex,PT (yZ X scope (ze own caps) C s₀ H₀ ex) cond tc) (he:∀ C s₀ H₀ ex,PE (yZ X scope (ze own caps) C s₀ H₀ ex) elt te) (hsw:swapsWith (.ListComp elt [⟨tg,iter,[cond],0⟩] scope pos) (some (.Name y py)) spos.line X.env=pure true) (hs:∀ x,foldedSetIterable iter X.env x=pure x:=by intro _; rfl) :
  PS X (.Assign [.Name y py] (.ListComp elt [⟨tg,iter,[cond],0⟩] scope pos) spos) (uV (zQO own caps wi g tc te) (jt i)):=by
 intro pins s σ H D0 I h
 rw [exec_Assign_Name_used _ _ _ _ hsw]
 refine wpAny_bind (wpAny_standAt (wpAny_bind ?_))
 change wpAny _ X.A (do let _ <- comprehension (.ListComp elt [⟨tg,iter,[cond],0⟩] scope pos) scope X.env _ (newList []) false (eval iter X.env) (some (assign (.Name y py) X.env))) _ _ s
 refine wpAny_bind (wpAny_mono (wpAny_comprehension_free (use:=some (assign (.Name y py) X.env)) (Q:=λ_ s'=>SP X pins D0 .next s') rfl hs (UW B.free) B.kind B.locs ?_) (λ_ s' hq=>wpAny_pure (wpAny_pure hq)) λ_ _ e=>e)
 refine zk (hi pins s σ H _ I h) λxv s1 h1=>zk h1 λitv s2 h2=>?_
 obtain ⟨it,fp,tn,J,H2,e,I2,T,st2,f2,W,⟨m0,w0⟩,turn⟩:=h2
 subst e
 refine zJR (Q:=λx H1=>D0.nx (σ.set i (some x)) H1) (RR:=λacc C=>compPost (model X.prog X.w) X.A X.xe (some (assign (.Name y py) X.env)) (λ_ s'=>SP X pins D0 .next s') acc C) B hc hg ht he I2 T st2 f2 w0 turn λD C s6 H6 ys m hn hC J6 hC6 q=>?_
 have I6:zH X pins σ (zW H6 D (.lst ys)) s6:=J6 s6.heap (.refl ..)
 have CL:C≠X.env.locals:=λz=>by rw [z] at hC; exact absurd (Nat.lt_of_lt_of_le I2.lt hC) (Nat.lt_irrefl _)
 have CC:∀ x c,X.env.cells.lookup x=some c->c≠C:=λx c ec z=>by
  obtain ⟨v,o,ho,_⟩:=I2.cell x c ec
  rw [z] at ho
  exact absurd (Nat.lt_of_lt_of_le (Heap.lt_size ho) hC) (Nat.lt_irrefl _)
 have CP:∀ p∈X.pn++pins,p.1≠C:=λp hp z=>by
  have hl:=Heap.lt_size (I2.pin p hp).1
  rw [z] at hl
  exact absurd (Nat.lt_of_lt_of_le hl hC) (Nat.lt_irrefl _)
 change wpAny _ X.A (assign (.Name y py) X.env (.ref D)) _ _ s6
 refine wpAny_assign_Name (W0 I6 hN hy (.inl hl) (v:=.ref D) rfl (λs7 I7 ⟨a,sb,ha⟩=>?_) (.inr hl))
 have aC:C≠a:=λz=>by
  rcases ha with e | e
  ·exact CL (z.trans e)
  ·exact CC _ _ e z.symm
 refine ⟨m,hn.sameBut sb aC,λh' sb'=>⟨_,_,I7.turned (h':=h') (t':=s7.toks) (it:=C) (λb o hb eb=>sb'.extBut b o hb eb) hC6 CL (.inr (Nat.le_trans I2.sz hC)) CC CP,q⟩⟩
end
theorem yB {X:Cx} {scope S:Scope} {own N:List Str} {caps:List (Nat × Str)} (k:scope.kind=.function) (nd:(scope.names.map (·.1)).Nodup)
  (hS:X.env.scope=S) (hc:∃ n,X.env.cells=cellsFrom n S.names []) (hN:X.N=N) (fr:scope.names.all (λy=>y.2 != .free || S.names.lookup y.1 == some .cell)=true)
  (cp:caps.all (λp=>N[p.1]? == some p.2 && scope.names.lookup p.2 == some .free && S.names.lookup p.2 == some .cell)=true):vS X scope own caps:=by
 obtain ⟨nn,hc⟩:=hc
 refine ⟨k,nd,λy hy e=>?_,λy hy e=>?_,λp hp=>?_⟩
 ·exact j5 nd (by rw [<- e]; exact hy)
 ·have q:=List.all_eq_true.mp fr y hy
  rw [e] at q
  have q2:S.names.lookup y.1=some .cell:=by simpa using q
  rw [hc]
  exact PySem.W.cellsFrom_some S.names nn [] (.inl q2)
 ·have q:=List.all_eq_true.mp cp p hp
  simp only [Bool.and_eq_true,beq_iff_eq] at q
  refine ⟨by rw [hN]; exact q.1.1,q.1.2,.inl ?_⟩
  show X.env.scope.names.lookup p.2=some .cell
  rw [hS]
  exact q.2
theorem j6 {Y:Cx} {scope S:Scope} {own own0:List Str} {caps caps0:List (Nat × Str)} {C:Addr} {s₀:Shared} {H₀:Hp} {ex:List Addr} (k:scope.kind=.function) (nd:(scope.names.map (·.1)).Nodup)
  (ndS:(S.names.map (·.1)).Nodup) (fr:scope.names.all (λy=>y.2 != .free || S.names.lookup y.1 == some .cell || S.names.lookup y.1 == some .free)=true)
  (cp:caps.all (λp=>(ze own0 caps0)[p.1]? == some p.2 && scope.names.lookup p.2 == some .free)=true):vS (yZ Y S (ze own0 caps0) C s₀ H₀ ex) scope own caps:=by
 have fr':∀ y∈scope.names,y.2=.free->S.names.lookup y.1=some .cell\/S.names.lookup y.1=some .free:=λy hy e=>by
  have q:=List.all_eq_true.mp fr y hy
  rw [e] at q
  simpa using q
 refine ⟨k,nd,λy hy e=>?_,λy hy e=>?_,λp hp=>?_⟩
 ·exact j5 nd (by rw [<- e]; exact hy)
 ·show ((cellsFrom (C + 1) S.names (wS S Y.env)).lookup y.1).isSome=true
  refine PySem.W.cellsFrom_some _ _ _ ?_
  rcases fr' y hy e with z | z
  ·exact .inl z
  ·obtain ⟨c,e⟩:=UX (env:=Y.env) (gI z)
   exact .inr (by rw [e]; rfl)
 ·have q:=List.all_eq_true.mp cp p hp
  simp only [Bool.and_eq_true,beq_iff_eq] at q
  refine ⟨q.1,q.2,?_⟩
  show (relabel S Y.env).names.lookup p.2=some .cell\/(relabel S Y.env).names.lookup p.2=some .free
  rw [Kt]
  rcases fr' _ (gI q.2) rfl with z | z
  ·left
   show (S.names.lookup p.2).map _=_
   rw [z]
   rfl
  ·show (S.names.lookup p.2).map _=_\/(S.names.lookup p.2).map _=_
   rw [z,Option.map_some]
   split
   ·exact .inl rfl
   ·exact .inr rfl
end L2
namespace Sh
open PySem L2
theorem xA {H:Hp} {p:Addr} (h:H p=none) (o:HO):zD H (zW H p o):=λb u q=>by rw [zt (xn q h)]; exact q
def Tp (H:Hp) (v:V) (xs:List V):Prop:=∃ a,v=.ref a/\H a=some (.tup xs)
theorem j7 {α β:Type} {R:α->β->Prop}:∀ {xs:List α} {ys:List β} {i:Nat} {x:α},Paired R xs ys->xs[i]? = some x->∃ y,ys[i]? = some y/\R x y
 | _,_,_,_,.nil,e=>by simp at e
 | _,_,0,_,.cons r _,e=>by simp at e; subst e; exact ⟨_,rfl,r⟩
 | _,_,i + 1,x,.cons _ t,e=>by
  obtain ⟨y,h1,h2⟩:=j7 (i:=i) (x:=x) t (by simpa using e)
  exact ⟨y,by simpa using h1,h2⟩
theorem uy {α β:Type} {R:α->β->Prop} {x:α} {y:β} (r:R x y):∀ {xs:List α} {ys:List β},Paired R xs ys->Paired R (xs++[x]) (ys++[y])
 | _,_,.nil=>.cons r .nil
 | _,_,.cons q t=>.cons q (uy r t)
theorem ZD {α β:Type} {R:α->β->Prop}:∀ {xs zs:List α} {ys us:List β},Paired R xs ys->Paired R zs us->Paired R (xs++zs) (ys++us)
 | _,_,_,_,.nil,h=>h
 | _,_,_,_,.cons q t,h=>.cons q (ZD t h)
theorem uz {α:Type} {l:List α} {i:Nat} {x:α} (h:l[i]? = some x):l.take (i + 1)=l.take i++[x]:=by
 obtain ⟨hi,e⟩:=List.getElem?_eq_some_iff.mp h
 rw [List.take_succ_eq_append_getElem hi,e]
abbrev ZE (H:Hp) (vs:List V) (ks:List (List Int)):Prop:=Paired (λv (k:List Int)=>Tp H v (k.map V.int)) vs ks
theorem Ue {α β:Type} {R:α->β->Prop} {x:α} {y:β} (r:R x y):∀ {xs:List α} {ys:List β} (j:Nat),Paired R xs ys->Paired R (xs.set j x) (ys.set j y)
 | _,_,_,.nil=>.nil
 | _,_,0,.cons _ t=>.cons r t
 | _,_,j + 1,.cons q t=>.cons q (Ue r j t)
theorem XY {n j:Nat} (h:j < n):wG n (j:Int)=some j:=by
 unfold wG
 rw [if_pos (by omega),if_pos (by omega)]
 rfl
theorem zP7 {xs:List Int} {j:Nat} (h:j < xs.length):yL (xs.map V.int) (j:Int)=some (.int (xs[j]'h)):=Ke (by rw [List.getElem?_map,List.getElem?_eq_getElem h]; rfl)
theorem Uf {xs:List Int} {i:Nat} {x:V} (h:(xs.map V.int)[i]? = some x):∃ z,xs[i]? = some z/\x=V.int z:=by
 rw [List.getElem?_map] at h
 cases e:xs[i]? with
 | none=>rw [e] at h; cases h
 | some z=>rw [e] at h; exact ⟨z,rfl,(Option.some.inj h).symm⟩
end Sh
namespace L2
open PySem PySem.Spec PyProof.Rows
def u4 (K:PySem.W.Frag) (a b:Addr):It:=
 ⟨λi H=>∃ xs ys x y,zR K H a xs/\zR K H b ys/\xs[i]? = some x/\ys[i]? = some y,
  λi H v H'=>∃ T x y,v=.ref T/\H T=none/\H'=zW H T (.tup [x,y])/\(∀ xs,zR K H a xs->xs[i]? = some x)/\∀ ys,zR K H b ys->ys[i]? = some y,
  λi H=>∃ xs ys,zR K H a xs/\zR K H b ys/\i<=xs.length/\i<=ys.length/\(i=xs.length\/i=ys.length)⟩
theorem K7 {P:Program} {w:World} {K:PySem.W.Frag} {es:List Expr} {kk:Nat} {tp:Pos} {a b z TI TO i1 i2:Addr} (Z:Zp z TI TO i1 i2 [i1,a] [i2,b]) (na:a≠i1) (nb:b≠i2) :
  xx P w K (.Tuple es kk tp) (u4 K a b) [z,TI,TO,i1,i2] z (λi h=>IsZip h z TI TO .none/\IsPair h TI (.ref i1) (.ref i2)/\(∃ x y,IsPair h TO x y)/\h.IsListIter i1 a i/\h.IsListIter i2 b i) where
 mem:=by simp
 obj:=λi h ⟨t1,t2,⟨x,y,t3⟩,t4,t5⟩ c hc=>by
  simp only [List.mem_cons,List.not_mem_nil,or_false] at hc
  rcases hc with rfl | rfl | rfl | rfl | rfl
  ·exact ⟨_,t1,uH⟩
  ·exact ⟨_,t2,gL⟩
  ·exact ⟨_,t3,gL⟩
  ·obtain ⟨o,e,_,d⟩:=t4
   exact ⟨o,e,by rw [d]; exact uH⟩
  ·obtain ⟨o,e,_,d⟩:=t5
   exact ⟨o,e,by rw [d]; exact uH⟩
 keep:=λi h h' ⟨t1,t2,⟨x,y,t3⟩,t4,t5⟩ k=>⟨k z (by simp) _ t1,k TI (by simp) _ t2,⟨x,y,k TO (by simp) _ t3⟩,(by obtain ⟨o,e,r⟩:=t4; exact ⟨o,k i1 (by simp) o e,r⟩),(by obtain ⟨o,e,r⟩:=t5; exact ⟨o,k i2 (by simp) o e,r⟩)⟩
 item:=by
  intro X hP hw hK hc i pins s σ H E I hf ⟨t1,t2,⟨x0,y0,t3⟩,t4,t5⟩ hg
  subst hP hw hK
  obtain ⟨xs,ys,x,y,hq1,hq2,hx,hy⟩:=hg
  obtain ⟨its1,rv1,p1,_⟩:=I.list hq1
  obtain ⟨its2,rv2,p2,_⟩:=I.list hq2
  obtain ⟨u,hu,ru⟩:=rv1.get hx
  obtain ⟨v,hv,rv⟩:=rv2.get hy
  have hh:X.A.in1.handled=none:=I.ok.hd hc
  have l1:i < its1.toArray.size:=by rw [List.size_toArray]; exact (List.getElem?_eq_some_iff.mp hu).1
  have l2:i < its2.toArray.size:=by rw [List.size_toArray]; exact (List.getElem?_eq_some_iff.mp hv).1
  refine Kz (Draws.list hh i1 a na its1.toArray) (Draws.list hh i2 b nb its2.toArray) Z t1 t2 t3 ⟨t4,p1.isList⟩ ⟨t5,p2.isList⟩ l1 l2 ?_
  intro x' y' h1 tk px py z1 z2 z3 z4 z5 z6 keep
  have ex:x'=u:=by
   have q:its1.toArray[i]? = some x':=px
   simp only [List.getElem?_toArray] at q
   rw [hu] at q
   exact (Option.some.inj q).symm
  have ey:y'=v:=by
   have q:its2.toArray[i]? = some y':=py
   simp only [List.getElem?_toArray] at q
   rw [hv] at q
   exact (Option.some.inj q).symm
  subst ex ey
  refine ⟨_,rfl,wpAny_letOwnedTupleGo_zip (s:={ s with heap:=h1,toks:=tk }) z1 λh2 z7 sb=>?_⟩
  have zlt:z < s.heap.objs.size:=Heap.lt_size t1
  have keep2:∀ c o,c∉[z,TI,TO,i1,i2]->s.heap.get? c=some o->h2.get? c=some o:=λc o hc e=>by
   simp only [List.mem_cons,List.not_mem_nil,or_false,not_or] at hc
   exact sb.extBut c o hc.1 (keep c o hc.1 hc.2.2.1 hc.2.2.2.1 hc.2.2.2.2 e)
  have pT:IsPair h2 s.heap.objs.size x' y':=sb.extBut _ _ (Nat.ne_of_gt zlt) z6
  have I':=I.turnT (h':=h2) (tk:=tk) (ch:=[z,TI,TO,i1,i2]) (x:=x) (y:=y) hf keep2 (Nat.le_refl _) pT ru rv
  refine ⟨.ref s.heap.objs.size,_,I',rfl,⟨s.heap.objs.size,x,y,rfl,I.hok.fresh (Nat.le_refl _),rfl,λxs' q=>by rw [I.list_inj q hq1]; exact hx,λys' q=>by rw [I.list_inj q hq2]; exact hy⟩,
   ⟨z7,sb.extBut _ _ Z.a1 z2,⟨_,_,sb.extBut _ _ Z.a2 z3⟩,z4.1.extBut sb.extBut Z.a3,z5.1.extBut sb.extBut Z.a4⟩,λc hc=>?_⟩
  have:=(hf c hc).1
  rw [zt]
  ·exact this
  ·intro q
   obtain ⟨o,e,_⟩:∃ o,s.heap.get? c=some o/\True:=by
    simp only [List.mem_cons,List.not_mem_nil,or_false] at hc
    rcases hc with rfl | rfl | rfl | rfl | rfl
    ·exact ⟨_,t1,trivial⟩
    ·exact ⟨_,t2,trivial⟩
    ·exact ⟨_,t3,trivial⟩
    ·obtain ⟨o,e,_⟩:=t4; exact ⟨o,e,trivial⟩
    ·obtain ⟨o,e,_⟩:=t5; exact ⟨o,e,trivial⟩
   rw [q] at e
   exact absurd (Heap.lt_size e) (Nat.lt_irrefl _)
 done:=by
  intro X hP hw hK hc i pins s σ H E I hf ⟨t1,t2,⟨x0,y0,t3⟩,t4,t5⟩ hg
  subst hP hw hK
  obtain ⟨xs,ys,hq1,hq2,e1,e2,e3⟩:=hg
  obtain ⟨its1,rv1,p1,_⟩:=I.list hq1
  obtain ⟨its2,rv2,p2,_⟩:=I.list hq2
  have hh:X.A.in1.handled=none:=I.ok.hd hc
  have n1:its1.toArray.size=xs.length:=by rw [List.size_toArray]; exact rv1.length.symm
  have n2:its2.toArray.size=ys.length:=by rw [List.size_toArray]; exact rv2.length.symm
  refine K0 (Draws.list hh i1 a na its1.toArray) (Draws.list hh i2 b nb its2.toArray) Z t1 t2 t3 ⟨t4,p1.isList⟩ ⟨t5,p2.isList⟩ (by omega) (by omega) (by omega) ?_
  intro h1 tk keep
  refine ⟨rfl,I.turnN (h':=h1) (tk:=tk) (ch:=[z,TI,TO,i1,i2]) hf λc o hc e=>?_⟩
  simp only [List.mem_cons,List.not_mem_nil,or_false,not_or] at hc
  exact keep c o hc.1 hc.2.2.1 hc.2.2.2.1 hc.2.2.2.2 e
 self:=λ_ _ _ _ _ st h=>wpAny_pyIter_zip st.1 h
section
variable {X:Cx} {es:List Expr} {kk:Nat} {tp:Pos}
def ZF (K:PySem.W.Frag) (ta:TA):TI:=λσ H R=>ta σ H λvs H1=>∃ a b,vs=[.ref a,.ref b]/\(∃ xs,zR K H1 a xs)/\(∃ ys,zR K H1 b ys)/\R (u4 K a b) H1
theorem zPY {e1 e2:Expr} {ta:TA} {p pos:Pos} (hg:Gl X "zip") (hm:X.mg "zip" = none) (ha:PA X [e1,e2] ta) (hs:starEach [e1,e2] X.env=[(false,eval e1 X.env),(false,eval e2 X.env)]:=by rfl) (hs2:starEach [e2] X.env=[(false,eval e2 X.env)]:=by rfl) :
  PI X (.Tuple es kk tp) (.Call (.Name "zip" p) [e1,e2] [] pos) (ZF X.K ta):=by
 intro pins s σ H R I h
 refine Call_ (jQ I hg hm (show bootBuiltins "zip" = some (.type "zip") by decide +kernel) (PyProof.Rows.callWith_type1 (zk (ha pos pins s σ H _ I h) λus s1 ⟨vs,H1,I1,r1,q1⟩=>?_) (by rw [hs,hs2]) (by rw [hs2]; rfl)))
 obtain ⟨a,b,e,⟨xs,hx⟩,⟨ys,hy⟩,q⟩:=q1
 subst e
 obtain ⟨u,v,rfl,ru,rv⟩:=gD r1
 cases ru
 cases rv
 obtain ⟨its1,rv1,p1,_⟩:=I1.list hx
 obtain ⟨its2,rv2,p2,_⟩:=I1.list hy
 have la:a < s1.heap.objs.size:=by obtain ⟨o,n,e,_⟩:=p1; exact Heap.lt_size e
 have lb:b < s1.heap.objs.size:=by obtain ⟨o,n,e,_⟩:=p2; exact Heap.lt_size e
 refine call_zip_2 p1.isList p2.isList λh' z1 z2 z3 z4 z5 _ keep=>wpAny_pyIter_zip z1 ?_
 have I2:zH X pins σ H1 { s1 with heap:=h' }:=I1.kept (t':=s1.toks) keep
 refine ⟨s1.heap.objs.size + 4,[s1.heap.objs.size + 4,s1.heap.objs.size + 2,s1.heap.objs.size + 3,s1.heap.objs.size,s1.heap.objs.size + 1],_,_,H1,rfl,I2,
  K7 (a:=a) (b:=b) (UZ _ _ _ la lb) (Nat.ne_of_lt la) (Nat.ne_of_lt (Nat.lt_succ_of_lt lb)),⟨z1,z2,⟨_,_,z3⟩,z4,z5⟩,λc hc=>?_,q⟩
 ·have ge:s1.heap.objs.size<=c:=by
   simp only [List.mem_cons,List.not_mem_nil,or_false] at hc
   rcases hc with rfl | rfl | rfl | rfl | rfl
   ·exact Nat.le_add_right _ 4
   ·exact Nat.le_add_right _ 2
   ·exact Nat.le_add_right _ 3
   ·exact Nat.le_refl _
   ·exact Nat.le_add_right _ 1
  exact I1.fpOk ge (I1.hok.fresh ge)
end
theorem zMt {K:PySem.W.Frag} {a b:Addr} {xs ys:List V} {g:TG} {te:TE} {σ0:St} {H:Hp} {Q:VK} (Pv:Nat->List V->St->Hp->Prop) (h0:Pv 0 [] σ0 H) (hl:∀ i zs σ H,i<=xs.length->Pv i zs σ H->zR K H a xs/\zR K H b ys/\zs.length<=i) (hlen:xs.length<=ys.length) (hz:xs.length<=sizeLine)
  (hs:∀ i x y T zs σ H,xs[i]? = some x->ys[i]? = some y->H T=none->Pv i zs σ H->g (.ref T) σ (zW H T (.tup [x,y])) λσ2 H2=>te σ2 H2 λz H3=>Pv (i + 1) (zs++[z]) σ2 H3)
  (hd:∀ zs σ H,Pv xs.length zs σ H->∀ p,H p=none->Q (.ref p) (zW H p (.lst zs))):ku (u4 K a b) g te Q σ0 H:=by
 refine ⟨λi m zs σ H=>m=xs.length - i/\i<=xs.length/\Pv i zs σ H,⟨xs.length,by simp,Nat.zero_le _,h0⟩,?_⟩
 rintro i m zs σ H ⟨rfl,hi,p⟩
 obtain ⟨q1,q2,hy⟩:=hl i zs σ H hi p
 by_cases hlt:i < xs.length
 ·have hlt2:i < ys.length:=by omega
  refine .inr ⟨⟨xs,ys,xs[i],ys[i],q1,q2,by simp [hlt],by simp [hlt2]⟩,by omega,λz σ' H'=>Pv (i + 1) (zs++[z]) σ' H',λz σ' H' p'=>⟨xs.length - (i + 1),by omega,rfl,hlt,p'⟩,λv H' y=>?_⟩
  obtain ⟨T,x,y,rfl,hT,rfl,c1,c2⟩:=y
  exact hs i x y T zs σ H (c1 xs q1) (c2 ys q2) hT p
 ·have e:i=xs.length:=by omega
  subst e
  exact .inl ⟨⟨xs,ys,q1,q2,Nat.le_refl _,hlen,.inl rfl⟩,hd zs σ H p⟩
end L2
namespace L2
open PySem PySem.Spec PyProof.Rows
section
variable {X:Cx}
def ZG (K:PySem.W.Frag):R2:=λx y H Q=>∃ d e:PyData,Dp K H x d/\Dp K H y e/\d.canLay0=true/\e.canLay0=true/\d.depth<=60/\e.depth<=60/\Q (.bl (PyData.eqv d e)) H
theorem K8 (hu:X.A.units + 64 < cLine):yw X (compareOp .Eq) (ZG X.K):=by
 intro pins s σ H x y v u Q I rx ry h
 obtain ⟨d,e,hx,hy,hc,hc',hd,hd',q⟩:=h
 obtain ⟨_,r1⟩:=hx.reads I rx
 obtain ⟨_,r2⟩:=hy.reads I ry
 exact SeqAt.compareEq_reads r1 r2 hc hc' (by omega) ⟨.bl _,H,I,rfl,q⟩
end
end L2
namespace Sh
open PySem L2
theorem K9:∀ ns ms:List Int,PyData.eqvAll (ns.map PyData.int) (ms.map PyData.int)=decide (ns=ms)
 | [],[]=>by simp [PyData.eqvAll]
 | [],_ :: _=>by simp [PyData.eqvAll]
 | _ :: _,[]=>by simp [PyData.eqvAll]
 | a :: r,b :: t=>by
  have ih:=K9 r t
  simp only [List.map_cons,PyData.eqvAll,PyData.eqv,ih,List.cons.injEq]
  by_cases h1:a=b <;> by_cases h2:r=t <;> simp [h1,h2]
structure vT (ws:List Int) (n:Nat):Prop where
 len:ws.length=n
 bd:∀ w∈ws,Bd 1000 w
def yz (rows:List (List Int)) (nums:List Int) (j:Nat):Int:=((rows.zip nums).map λp=>p.1.getD j 0 * p.2).sum
def j8 (rows:List (List Int)) (tw:List Int) (o:Int) (nums:List Int) (n:Nat):Bool:=
 if o=0 then ((List.range n).map (yz rows nums)).all (λx=>decide (x=0)) && decide (yz rows nums n < 0)
 else decide ((List.range n).map (yz rows nums)=(tw.take n).map (o * ·)) && decide (yz rows nums n<=o * tw.getD n 0)
def lin (n:Nat) (c:Nat->Int) (r:List Int):Int:=((List.range n).map λi=>r.getD i 0 * c i).sum
end Sh
namespace L2
open PySem PySem.Spec PyProof.Rows
theorem zRB {c x y:Addr} (h:c∉[x,y]):c≠x/\c≠y:=by
 simp only [List.mem_cons,List.not_mem_nil,or_false,not_or] at h
 exact h
section
variable {X:Cx} {es:List Expr} {kk:Nat} {tp:Pos}
end
end L2
namespace L2
open PySem PySem.Spec PyProof.Rows
section
variable {prog:Program} {w:World} {A:Around} {E:Value->Shared->Prop} {s:Shared}
theorem zKS {T nw ini:String} {B1 B2:Builtin} {xs:List Value} {kw:List (Str × Value)} {S:PySem.Spec} {Q R1:Value->Shared->Prop} (ft:TypeCalled T nw ini)
  (c1:checkTypeCall T ⟨xs,kw⟩=pure ()) (c2:checkBuiltinCall nw ⟨.type T :: xs,kw⟩=pure ())
  (e1:entryFor table nw=some B1) (e2:entryFor table ini=some B2) (m1:Meets (B1 ⟨.type T :: xs,kw⟩) S)
  (hS:S A.in1 (wants R1 E) s)
  (nxt:∀ o s1,R1 o s1->s1.TypeIs o T/\argsOk ini ⟨o :: xs,kw⟩/\∃ S2,Meets (B2 ⟨o :: xs,kw⟩) S2/\S2 A.in1 (wants (λr s2=>r=.none/\Q o s2) E) s1) :
  wpAny (model prog w) A (call (.type T) xs kw) Q E s:=by
 obtain ⟨c,tl,k1⟩:=ft.mro
 have k2:=ft.made
 have k3:=ft.sub
 have k4:=ft.notType
 have k5:=ft.canCreate
 refine wpAny_call (codeAny_of_tree ?_)
 show wpAny _ _ (callAny (.type T) _) _ _ _
 refine wpAny_pure ⟨Code.quiet_builtin _ (by decide +kernel),codeAny_builtin F.entry_type_call ?_⟩
 rw [Around.under_plain (weight_type_call_type T xs kw) (units_type_call_type T xs kw)]
 repeat (any_goals (first | assumption | wp_step))
 refine codeAny_mono (codeAny_call_builtin ft.plain e1 (wpAny_of_eq c2 (m1 prog w A.in1 _ s hS))) λr s1 z=>?_
 cases r with
 | error e=>exact z
 | ok fl=>
  cases fl with
  | ret o=>
   obtain ⟨hT,ok,S2,m2,z2⟩:=nxt _ _ z
   have l1:=ft.init.lookup
   have l2:=ft.init.bind o
   repeat (any_goals (first | assumption | wp_step))
   refine codeAny_mono (codeAny_call_builtin ft.init.plain e2 (ft.init.check _ _ _ _ _ _ _ _ hT ok (m2 prog w A.in1 _ s1 z2))) λr2 s2 y=>?_
   cases r2 with
   | error e=>exact y
   | ok fl2=>
    cases fl2 with
    | ret r=>
     obtain ⟨rfl,y⟩:=y
     repeat (any_goals (first | assumption | wp_step))
    | _=>exact y.elim
  | _=>exact z.elim
theorem zN6 {T nw:String} {o a:Value} {kw:List (Str × Value)} (h1:typeLookup (.type T) "__init__" = pure (some (.builtin "object.__init__")))
  (h2:Bind.madeBy (.type T)=pure (some nw)) (h3:(some nw != some "object.__new__")=true) :
  Meets (Builtin.«object.__init__» ⟨[o,a],kw⟩) (λ_ R s=>s.TypeIs o T/\R (.ok (.ret .none)) s):=by
 refine Meets.of_wp λprog w A R s z=>?_
 obtain ⟨hT,q⟩:=z
 repeat (any_goals (first | assumption | wp_step))
 exact ⟨_,rfl,q⟩
theorem zN7 (o a v:Value):argsOk "object.__init__" ⟨[o,a],[("start",v)]⟩:=by
 unfold argsOk
 rw [signature?_of (id:="object.__init__") (n:=['_','_','t','i','n','i','_','_'])
  (o:=['t','c','e','j','b','o']) (by kernel_rfl) F.owner_object]
 kernel_rfl
theorem zRe (a v:Value):checkTypeCall "enumerate" ⟨[a],[("start",v)]⟩=pure ():=by kernel_rfl
theorem zRf (a v:Value):checkBuiltinCall "enumerate.__new__" ⟨[.type "enumerate",a],[("start",v)]⟩=pure ():=by kernel_rfl
end
open AutoSeq1 in
theorem zJF (l:Addr) (its:Array Value) (m:Nat) (dct:Option Addr) (sl:Array (Option Value)) (n:Int) (tn:Tok) (fit:Builtin.SmallTypes.fitsIndex n=true) :
  Meets (Builtin.«enumerate.__new__» ⟨[.type "enumerate",.ref l],[("start",.int n tn)]⟩) (λ_ R s=>s.heap.get? l=some { cls:=.type "list",dict:=dct,data:=.seq its m,slots:=sl }∧
   R (.ok (.ret (.ref (s.heap.push { cls:=.type "list_iterator",data:=.fields #[.ref l,.int 0 0] }).objs.size)))
    { s with heap:=(s.heap.push { cls:=.type "list_iterator",data:=.fields #[.ref l,.int 0 0] }).push { cls:=.type "enumerate",data:=.fields #[.none,.bool false,.ref s.heap.objs.size,rawInt n,.none,.none] } }):=
 .of_wp λprog w A R s z=>by
  obtain ⟨hp,g,d,tk,os⟩:=s
  obtain ⟨e1,z⟩:=z
  have k0:=sub_enumerate
  have k1:Heap.IsList (Shared.heap ⟨hp,g,d,tk,os⟩) l its:=⟨_,e1,rfl,m,rfl⟩
  wp_walk using wpAny_loadPart' e1
  refine wpAny_stack_any λst=>wpAny_pure ?_
  split
  ·rename_i c _ _ _ _ _
   cases (c == Value.type "enumerate")
   ·wp_walk using wpAny_loadPart' e1,wpAny_pyIter_list k1
    simp only [fit,Bool.not_true,Bool.false_eq_true,if_false]
    wp_walk using wpAny_loadPart' e1,wpAny_pyIter_list k1
    exact ⟨_,rfl,z⟩
   ·wp_walk using wpAny_loadPart' e1,wpAny_pyIter_list k1
    simp only [fit,Bool.not_true,Bool.false_eq_true,if_false]
    wp_walk using wpAny_loadPart' e1,wpAny_pyIter_list k1
    exact ⟨_,rfl,z⟩
  ·wp_walk using wpAny_loadPart' e1,wpAny_pyIter_list k1
   simp only [fit,Bool.not_true,Bool.false_eq_true,if_false]
   wp_walk using wpAny_loadPart' e1,wpAny_pyIter_list k1
   exact ⟨_,rfl,z⟩
section
variable {prog:Program} {w:World} {A:Around} {E:Value->Shared->Prop} {s:Shared}
theorem zK9 {l:Addr} {its:Array Value} {n:Int} {tn:Tok} {Q:Value->Shared->Prop} (hL:s.heap.IsList l its) (fit:Builtin.SmallTypes.fitsIndex n=true)
  (k:∀ g,IsEnum g (s.heap.objs.size + 1) s.heap.objs.size n .none->g.IsListIter s.heap.objs.size l 0->
   (∀ b o,s.heap.get? b=some o->g.get? b=some o)->Q (.ref (s.heap.objs.size + 1)) { s with heap:=g }) :
  wpAny (model prog w) A (call (.type "enumerate") [.ref l] [("start",.int n tn)]) Q E s:=by
 obtain ⟨⟨c,dc,dt,sl⟩,el,ec,m,ed⟩:=hL
 replace ec:c=.type "list":=ec
 replace ed:dt=.seq its m:=ed
 subst ec ed
 refine zKS (R1:=λo s1=>s1.TypeIs o "enumerate"/\Q o s1) F.called_enumerate (zRe _ _) (zRf _ _) F.entry_enumerate_new F.entry_object_init
  (zJF l its m dc sl n tn fit) ⟨el,?_⟩ (λo s1 q=>⟨q.1,zN7 o _ _,_,zN6 F.called_enumerate.init.lookup F.called_enumerate.made (by decide),q.1,rfl,q.2⟩)
 have sz:(s.heap.push { cls:=.type "list_iterator",data:=.fields #[.ref l,.int 0 0] }).objs.size=s.heap.objs.size + 1:=
  Heap.size_push ..
 show _/\_
 rw [sz]
 have ee:IsEnum ((s.heap.push { cls:=.type "list_iterator",data:=.fields #[.ref l,.int 0 0] }).push
   { cls:=.type "enumerate",data:=.fields #[.none,.bool false,.ref s.heap.objs.size,rawInt n,.none,.none] }) (s.heap.objs.size + 1) s.heap.objs.size n .none:=by
  have y:=Heap.get?_push_size (s.heap.push { cls:=.type "list_iterator",data:=.fields #[.ref l,.int 0 0] })
   (o:={ cls:=.type "enumerate",data:=.fields #[.none,.bool false,.ref s.heap.objs.size,rawInt n,.none,.none] }) rfl
  rw [sz] at y
  exact y
 exact ⟨⟨_,ee,rfl⟩,k _ ee ⟨_,Heap.get?_push_of_some _ (Heap.get?_push_size _ rfl),rfl,rfl⟩ λb o x=>Heap.get?_push_of_some _ (Heap.get?_push_of_some _ x)⟩
theorem zO5 {it l:Addr} {its:Array Value} (k:Nat) (hh:A.handled=none) (ne:l≠it) :
  Draws prog w A it [it,l] (k + its.size) (λj x=>its[j - k]? = some x) (λj h=>k<=j/\h.IsListIter it l (j - k)/\h.IsList l its) where
 live:=λj h ⟨_,⟨o,e,_⟩,_⟩=>⟨o,e⟩
 frame:=λj h h' ⟨a,⟨o,e,r⟩,⟨o2,e2,r2⟩⟩ kp=>⟨a,⟨o,kp it (by simp) o e,r⟩,⟨o2,kp l (by simp) o2 e2,r2⟩⟩
 item:=λj s Q E lt ⟨le,hi,hl⟩ kQ=>by
  have jl:j - k < its.size:=by omega
  refine wpAny_nextOf_list_item hi hl (x:=its[j - k]) (by simp [jl]) λg gi same=>?_
  refine kQ _ g s.toks (by simp [jl]) ⟨by omega,?_,hl.extBut same.extBut ne⟩ same
  rw [show j + 1 - k=j - k + 1 by omega]
  exact gi
 done:=λs Q E ⟨le,hi,hl⟩ kE=>wpAny_nextOf_list_end hh hi hl (by simp) kE
end
section
variable {M:Model} {A:Around} {E:Value->Shared->Prop} {s:Shared}
theorem zP2 {pos:Pos} {T:String} {x:Sem Value} {more:List (Bool × Sem Value)} {kws:List (Option Str × Sem Value)} {Q:Value->Shared->Prop}
  (p1:more.any (·.1)=false) (p2:kws.any (·.1.isNone)=false) (p3:kws.all (·.1.isSome)=true)
  (h:wpAny M A (spliced ((false,x) :: more)) (λvs s1=>wpAny M A (evalAll (kws.map (·.2))) (λks s2=>wpAny M A (call (.type T) vs ((kws.filterMap (·.1)).zip ks)) Q E s2) E s1) E s) :
  wpAny M A (callWith pos (.type T) [] ((false,x) :: more) kws) Q E s:=by
 unfold callWith
 refine wpAny_bind (wpAny_holding (wpAny_mono (evalArgs_kwB (f:=.type T) (Q:=λa s1=>wpAny M A (call (.type T) a.pos a.kw) Q E s1) p3 h) (λa s1 q=>wpAny_bind (wpAny_standAt ?_)) λ_ _ z=>z))
 have e:(((false,x) :: more).any (·.1))=false:=by
  show (false || more.any (·.1))=false
  rw [p1]
  rfl
 simp only [e,p2,Bool.or_false]
 refine wpAny_bind (wpAny_pure ?_)
 exact wpAny_bind (wpAny_mono q (λr s2 y=>wpAny_bind (wpAny_holding (wpAny_point (wpAny_pure y)))) λ_ _ z=>z)
end
def j9 (K:PySem.W.Frag) (a:Addr) (k:Nat):It:=
 ⟨λi H=>∃ xs x,zR K H a xs/\xs[i]? = some x,
  λi H v H'=>∃ T x,v=.ref T/\H T=none/\H'=zW H T (.tup [.int ((k + i:Nat):Int),x])/\∀ xs,zR K H a xs->xs[i]? = some x,
  λi H=>∃ xs,zR K H a xs/\i=xs.length⟩
theorem zKW {P:Program} {w:World} {K:PySem.W.Frag} {es:List Expr} {kk:Nat} {tp:Pos} {a e it:Addr} {k:Nat} (ne:e≠it) (nl:a≠it) :
  xx P w K (.Tuple es kk tp) (j9 K a k) [e,it] e (λi h=>(∃ old,IsEnum h e it ((k + i:Nat):Int) old)/\h.IsListIter it a i) where
 mem:=by simp
 obj:=λi h ⟨⟨old,t1⟩,t2⟩ c hc=>by
  simp only [List.mem_cons,List.not_mem_nil,or_false] at hc
  rcases hc with rfl | rfl
  ·exact ⟨_,t1,uH⟩
  ·obtain ⟨o,e,_,d⟩:=t2
   exact ⟨o,e,by rw [d]; exact uH⟩
 keep:=λi h h' ⟨⟨old,t1⟩,t2⟩ z=>⟨⟨old,z e (by simp) _ t1⟩,(by obtain ⟨o,q,r⟩:=t2; exact ⟨o,z it (by simp) o q,r⟩)⟩
 item:=by
  intro X hP hw hK hc i pins s σ H E I hf ⟨⟨old,t1⟩,t2⟩ hg
  subst hP hw hK
  obtain ⟨xs,x,hq,hx⟩:=hg
  obtain ⟨its,rv,p,_⟩:=I.list hq
  obtain ⟨u,hu,ru⟩:=rv.get hx
  have li:i < its.length:=(List.getElem?_eq_some_iff.mp hu).1
  have nea:e≠a:=λz=>by
   obtain ⟨o,eo,cl,_⟩:=p.isList
   rw [z] at t1
   rw [t1] at eo
   cases eo
   have cl2:Value.type "enumerate" = Value.type "list":=cl
   exact absurd (Value.type.inj cl2) (by decide)
  have D:=zO5 (prog:=X.prog) (w:=X.w) (A:=X.A.in1) (it:=it) (l:=a) (its:=its.toArray) k (I.ok.hd hc) nl
  refine wpAny_pyNext_enum_itemD D (i:=k + i) t1 ⟨by omega,by rw [Nat.add_sub_cancel_left]; exact t2,p.isList⟩ (by simp; omega) ne (by simp [ne,nea]) ?_
  intro v h1 tk hv z1 z2 z3 z4 keep
  rw [Nat.add_sub_cancel_left] at hv
  have ev:v=u:=by
   have:its[i]? = some v:=by simpa using hv
   rw [hu] at this
   exact (Option.some.inj this).symm
  subst ev
  refine ⟨_,rfl,wpAny_letOwnedTupleGo_enum (s:={ s with heap:=h1,toks:=tk + 1 }) z1 λh2 z5 sb=>?_⟩
  have elt:e < s.heap.objs.size:=Heap.lt_size t1
  have keep2:∀ c o,c∉[e,it]->s.heap.get? c=some o->h2.get? c=some o:=λc o hc q=>by
   obtain ⟨c1,c2⟩:=zRB hc
   exact sb.extBut c o c1 (keep c o c1 c2 q)
  have pT:IsPair h2 s.heap.objs.size (.int ((k + i:Nat):Int) tk) v:=sb.extBut _ _ (Nat.ne_of_gt elt) z3
  have I':=I.turnT (h':=h2) (tk:=tk + 1) (ch:=[e,it]) (x:=.int ((k + i:Nat):Int)) (y:=x) hf keep2 (Nat.le_refl _) pT ⟨_,rfl⟩ ru
  have z2':h1.IsListIter it a (i + 1):=by
   have:=z2.2.1
   rw [show k + i + 1 - k=i + 1 by omega] at this
   exact this
  refine ⟨.ref s.heap.objs.size,_,I',rfl,⟨s.heap.objs.size,x,rfl,I.hok.fresh (Nat.le_refl _),rfl,λxs' q=>by rw [I.list_inj q hq]; exact hx⟩,
   ⟨⟨v,by rw [show ((k + (i + 1):Nat):Int)=((k + i:Nat):Int) + 1 by omega]; exact z5⟩,z2'.extBut sb.extBut (Ne.symm ne)⟩,λc hc=>?_⟩
  have:=(hf c hc).1
  rw [zt]
  ·exact this
  ·intro q
   obtain ⟨o,e1⟩:∃ o,s.heap.get? c=some o:=by
    simp only [List.mem_cons,List.not_mem_nil,or_false] at hc
    rcases hc with rfl | rfl
    ·exact ⟨_,t1⟩
    ·obtain ⟨o,e1,_⟩:=t2; exact ⟨o,e1⟩
   rw [q] at e1
   exact absurd (Heap.lt_size e1) (Nat.lt_irrefl _)
 done:=by
  intro X hP hw hK hc i pins s σ H E I hf ⟨⟨old,t1⟩,t2⟩ hg
  subst hP hw hK
  obtain ⟨xs,hq,e1⟩:=hg
  obtain ⟨its,rv,p,_⟩:=I.list hq
  have n1:its.length=xs.length:=rv.length.symm
  have D:=zO5 (prog:=X.prog) (w:=X.w) (A:=X.A.in1) (it:=it) (l:=a) (its:=its.toArray) k (I.ok.hd hc) nl
  refine wpAny_pyNext_enum_endD D t1 ⟨by simp,by simp; rw [n1,<- e1]; exact t2,p.isList⟩ ?_
  intro h1 ext
  refine ⟨rfl,I.turnN (h':=h1) (tk:=s.toks) (ch:=[e,it]) hf λc o hc q=>?_⟩
  exact ext c o (zRB hc).2 q
 self:=λ_ _ _ _ _ ⟨⟨_,st⟩,_⟩ h=>wpAny_pyIter_enum st h
section
variable {X:Cx} {es:List Expr} {kk:Nat} {tp:Pos}
def zRP (K:PySem.W.Frag) (ta:TA) (te:TE):TI:=λσ H R=>ta σ H λvs H1=>∃ a,vs=[.ref a]/\te σ H1 λv H2=>∃ k:Nat,v=.int (k:Int)/\Builtin.SmallTypes.fitsIndex (k:Int)=true/\(∃ xs,zR K H2 a xs)/\R (j9 K a k) H2
theorem zNs {e1 e2:Expr} {ta:TA} {te:TE} {p pos kp:Pos} (hg:Gl X "enumerate") (hm:X.mg "enumerate" = none) (ha:PA X [e1] ta) (he:PE X e2 te) (hs:starEach [e1] X.env=[(false,eval e1 X.env)]:=by rfl) (hs2:starEach [] X.env=[]:=by rfl) :
  PI X (.Tuple es kk tp) (.Call (.Name "enumerate" p) [e1] [⟨some "start",e2,kp⟩] pos) (zRP X.K ta te):=by
 intro pins s σ H R I h
 refine wpAny_Call_Name_kw (jQ I hg hm (show bootBuiltins "enumerate" = some (.type "enumerate") by decide +kernel) ?_)
 have h1:=ha pos pins s σ H _ I h
 rw [hs] at h1 |-
 refine zP2 (T:="enumerate") rfl rfl rfl (zk h1 λus s1 ⟨vs,H1,I1,r1,q1⟩=>?_)
 obtain ⟨a,e,q2⟩:=q1
 subst e
 obtain ⟨u,rfl,ru⟩:=ux r1
 cases ru
 refine kws_cons (zk (he pins s1 σ H1 _ I1 q2) λu2 s2 ⟨v,H2,I2,r2,q3⟩=>kws_nil ?_)
 obtain ⟨k,rfl,fit,⟨xs,hx⟩,q⟩:=q3
 obtain ⟨tk,rfl⟩:=r2
 obtain ⟨its,rv,p1,_⟩:=I2.list hx
 have la:a < s2.heap.objs.size:=by obtain ⟨o,n,e,_⟩:=p1; exact Heap.lt_size e
 refine zK9 p1.isList fit λh' z1 z2 keep=>wpAny_pyIter_enum z1 ?_
 have I3:zH X pins σ H2 { s2 with heap:=h' }:=I2.kept (t':=s2.toks) keep
 refine ⟨s2.heap.objs.size + 1,[s2.heap.objs.size + 1,s2.heap.objs.size],_,_,H2,rfl,I3,zKW (a:=a) (k:=k) (Nat.succ_ne_self _) (Nat.ne_of_lt la),⟨⟨_,z1⟩,z2⟩,λc hc=>?_,q⟩
 have ge:s2.heap.objs.size<=c:=by
  simp only [List.mem_cons,List.not_mem_nil,or_false] at hc
  rcases hc with rfl | rfl
  ·exact Nat.le_add_right _ 1
  ·exact Nat.le_refl _
 exact I2.fpOk ge (I2.hok.fresh ge)
end
end L2
namespace Sh
open PySem L2
inductive Kd where
 | int | bool | non | str | lst | tup | dic
 deriving DecidableEq
def Kd.nm:Kd->String
 | .int=>"int" | .bool=>"bool" | .non=>"NoneType" | .str=>"str" | .lst=>"list" | .tup=>"tuple" | .dic=>"dict"
def Kd.whole:Kd->Bool
 | .int=>true
 | _=>false
def Kd.isInt:Kd->Bool
 | .int=>true
 | .bool=>true
 | _=>false
def Kd.isBool:Kd->Bool
 | .bool=>true
 | _=>false
def Kd.isTup:Kd->Bool
 | .tup=>true
 | _=>false
def Kd.isLst:Kd->Bool
 | .lst=>true
 | _=>false
section
variable (K:PySem.W.Frag)
theorem jV (k:Kd):PySem.W.kitOne K (.type k.nm) (.type "int")=some k.isInt:=by
 cases k <;> first | rfl | decide +kernel | (unfold PySem.W.kitOne; rw [if_pos (by decide +kernel)]; rfl) | (unfold PySem.W.kitOne; rw [if_neg (by decide +kernel)]; rfl)
theorem jW (k:Kd):PySem.W.kitOne K (.type k.nm) (.type "bool")=some k.isBool:=by
 cases k <;> first | rfl | decide +kernel | (unfold PySem.W.kitOne; rw [if_pos (by decide +kernel)]; rfl) | (unfold PySem.W.kitOne; rw [if_neg (by decide +kernel)]; rfl)
theorem jX (k:Kd):PySem.W.kitOne K (.type k.nm) (.type "tuple")=some k.isTup:=by
 cases k <;> first | rfl | decide +kernel | (unfold PySem.W.kitOne; rw [if_pos (by decide +kernel)]; rfl) | (unfold PySem.W.kitOne; rw [if_neg (by decide +kernel)]; rfl)
theorem jY (k:Kd):PySem.W.kitOne K (.type k.nm) (.type "list")=some k.isLst:=by
 cases k <;> first | rfl | decide +kernel | (unfold PySem.W.kitOne; rw [if_pos (by decide +kernel)]; rfl) | (unfold PySem.W.kitOne; rw [if_neg (by decide +kernel)]; rfl)
end
end Sh
namespace L2
open PySem PySem.Spec PyProof.Rows
section
variable {X:Cx}
end
end L2
namespace L2
open PySem PySem.Spec PyProof.Rows
structure zE (K:PySem.W.Frag) (mg:Str->Option Value) (x:Str) (C:Addr):Prop where
 cl:uW K C
 mgC:mg x=some (.ref C)
 ha:PySem.W.findIn K (.ref C) "__class__" = some (some (.builtin "object.__class__"))
 hn:PySem.W.specialIn K (.builtin "object.__class__") "__get__" = some (some (.builtin "getset_descriptor.__get__"))
 htk:PySem.W.takesIn K (.builtin "object.__class__")=some true
 hm:PySem.W.mroIn K C (.type "object")=some true
theorem zE.ty {K:PySem.W.Frag} {mg:Str->Option Value} {x:Str} {C a dx:Addr} {H:Hp} {fs:List (Str × V)} (T:zE K mg x C) (e:H a=some (.ins C dx fs)):yV K H (.ref a) (.ref C):=.ins e T.cl T.ha T.hn T.htk T.hm
structure vi (P:Program) (w:World) (K:PySem.W.Frag) (mg:Str->Option Value) (base:Heap) (C:Addr) (m:Str) (ps:List Str) (k:Nat) (sp:Sp):Prop where
 ex:∃ f fd,zG P w K mg base zY k f fd ps sp/\jx K C m f/\wm K fd ps []
structure uI (P:Program) (w:World) (K:PySem.W.Frag) (mg:Str->Option Value) (base:Heap) (C:Addr) (ps:List Str) (k:Nat) (sp:Sp):Prop where
 ex:∃ f fd,zG P w K mg base zY k f fd ps sp/\Mk K C f/\wm K fd ps []
structure vU (P:Program) (w:World) (K:PySem.W.Frag) (mg:Str->Option Value) (base:Heap) (C:Addr) (ps:List Str) (k:Nat) (sp:Sp) (dv:V):Prop where
 ex:∃ f fd d,zG P w K mg base zY k f fd ps sp/\Mk K C f/\wm K fd ps []/\wm K fd ps [d]/\zU dv d
theorem vi.mono {P:Program} {w:World} {K:PySem.W.Frag} {mg:Str->Option Value} {base:Heap} {C:Addr} {m:Str} {ps:List Str} {j k:Nat} {sp:Sp} (F:vi P w K mg base C m ps j sp) (h:j<=k:=by decide):vi P w K mg base C m ps k sp:=by
 obtain ⟨f,fd,a,b,c⟩:=F.ex
 exact ⟨f,fd,a.mono h,b,c⟩
theorem uI.mono {P:Program} {w:World} {K:PySem.W.Frag} {mg:Str->Option Value} {base:Heap} {C:Addr} {ps:List Str} {j k:Nat} {sp:Sp} (F:uI P w K mg base C ps j sp) (h:j<=k:=by decide):uI P w K mg base C ps k sp:=by
 obtain ⟨f,fd,a,b,c⟩:=F.ex
 exact ⟨f,fd,a.mono h,b,c⟩
theorem vU.mono {P:Program} {w:World} {K:PySem.W.Frag} {mg:Str->Option Value} {base:Heap} {C:Addr} {ps:List Str} {j k:Nat} {sp:Sp} {dv:V} (F:vU P w K mg base C ps j sp dv) (h:j<=k:=by decide):vU P w K mg base C ps k sp dv:=by
 obtain ⟨f,fd,d,a,b,c⟩:=F.ex
 exact ⟨f,fd,d,a.mono h,b,c⟩
theorem vU.fn {P:Program} {w:World} {K:PySem.W.Frag} {mg:Str->Option Value} {base:Heap} {C:Addr} {ps:List Str} {k:Nat} {sp:Sp} {dv:V} (F:vU P w K mg base C ps k sp dv):uI P w K mg base C ps k sp:=by
 obtain ⟨f,fd,d,a,b,c,_⟩:=F.ex
 exact ⟨f,fd,a,b,c⟩
section
variable {X:Cx} {C:Addr} {m x:Str} {ps:List Str} {k:Nat} {sp:Sp} {o e:Expr} {es:List Expr} {ta:TE} {t:TA} {p pos apos:Pos} {dv:V}
theorem zLx {pl:Sem Bool} (F:vi X.prog X.w X.K X.mg X.base C m ps k sp) (T:zE X.K X.mg x C) (hr:zo k X.A) (he:PE X o ta)
  (ht:eval (.Call (.Attribute o m apos) [] [] pos) X.env=(do
   let ov <- eval o X.env
   standAt apos.atName
   let (f,first) <- holding [ov] (getMethod ov m pl)
   callWith pos f first (backTo pos (starEach [] X.env)) (backToKw pos (keywordEach [] X.env))):=by rfl) :
  PE X (.Call (.Attribute o m apos) [] [] pos) (KM C m sp [] E0 ta vz):=by
 obtain ⟨f,fd,a,b,c⟩:=F.ex
 exact zNu he T.cl b a hr c .nil XN ht
theorem zNv (F:uI X.prog X.w X.K X.mg X.base C ps k sp) (T:zE X.K X.mg x C) (hr:zo (k + 1) X.A) (hg:Gl X x) (ha:PA X (e :: es) t)
  (hdb:(x == ("__debug__" : Str))=false:=by decide) (he:starEach (e :: es) X.env=(false,eval e X.env) :: starEach es X.env:=by rfl) (hpl:(backTo pos (starEach es X.env)).any (·.1)=false:=by rfl) :
  PE X (.Call (.Name x p) (e :: es) [] pos) (XI C sp [] E0 t):=by
 obtain ⟨f,fd,a,b,c⟩:=F.ex
 exact zPZ b a hr hg T.mgC c .nil XN ha hdb he hpl
theorem ZH (T:zE X.K X.mg x C) (hg:Gl X x) (hd:(x == ("__debug__" : Str))=false:=by decide):PE X (.Name x pos) (tC (.ref C)):=Qy hg T.mgC rfl hd
def zOk (K:PySem.W.Frag):List V->Hp->VK->Prop:=λxs H Q=>∃ x C t b,xs=[x,.ref C]/\yV K H x t/\PySem.W.kitOne K t (.ref C)=some b/\Q (.bl b) H
theorem ZI:vL X (.builtin "isinstance") (zOk X.K):=by
 intro pins s σ H xs us Q I r h
 obtain ⟨x,C,t,b,rfl,ty,e,q⟩:=h
 obtain ⟨u,v,rfl,ru,rv⟩:=gD r
 cases (show v=Value.ref C from rv)
 exact KI I ru ty e λtk=>⟨.bl b,H,I.tok tk,rfl,q⟩
end
end L2
namespace L2
open PySem PySem.Spec PyProof.Rows
section
variable {X:Cx} {pos:Pos}
end
end L2
namespace L2
open PySem PySem.Spec PyProof.Rows PySem.SeqAt
section
variable {X:Cx}
end
end L2
namespace L2
open PySem PySem.Spec PyProof.Rows
open PySem
def SqE (K:PySem.W.Frag) (H:Hp) (a:Addr) (xs:List V):Prop:=yS K H a xs\/zR K H a xs
section
variable {X:Cx} {es:List Expr} {kk:Nat} {tp:Pos}
theorem ZJ {pins:List (Addr × Obj)} {σ:St} {H:Hp} {s:Shared} (I:zH X pins σ H s) {c:Addr} (hc:c∈[s.heap.objs.size + 4,s.heap.objs.size + 2,s.heap.objs.size + 3,s.heap.objs.size,s.heap.objs.size + 1]):yU X pins H c:=by
 have ge:s.heap.objs.size<=c:=by
  simp only [List.mem_cons,List.not_mem_nil,or_false] at hc
  rcases hc with rfl | rfl | rfl | rfl | rfl
  ·exact Nat.le_add_right _ 4
  ·exact Nat.le_add_right _ 2
  ·exact Nat.le_add_right _ 3
  ·exact Nat.le_refl _
  ·exact Nat.le_add_right _ 1
 exact I.fpOk ge (I.hok.fresh ge)
def orZ (K:PySem.W.Frag) (H:Hp) (a b:Addr) (R:It->Hp->Prop):Prop:=
 ((∃ xs,yS K H a xs)/\(∃ ys,zR K H b ys)/\R (K1 K a b) H)\/((∃ xs,zR K H a xs)/\(∃ ys,zR K H b ys)/\R (u4 K a b) H)
def ZK (K:PySem.W.Frag) (ta:TA):TI:=λσ H R=>ta σ H λvs H1=>∃ a b,vs=[.ref a,.ref b]/\orZ K H1 a b R
theorem zPX {e1 e2:Expr} {ta:TA} {p pos:Pos} (hg:Gl X "zip") (hm:X.mg "zip" = none) (ha:PA X [e1,e2] ta) (hs:starEach [e1,e2] X.env=[(false,eval e1 X.env),(false,eval e2 X.env)]:=by rfl) (hs2:starEach [e2] X.env=[(false,eval e2 X.env)]:=by rfl) :
  PI X (.Tuple es kk tp) (.Call (.Name "zip" p) [e1,e2] [] pos) (ZK X.K ta):=by
 intro pins s σ H R I h
 refine Call_ (jQ I hg hm (show bootBuiltins "zip" = some (.type "zip") by decide +kernel) (PyProof.Rows.callWith_type1 (zk (ha pos pins s σ H _ I h) λus s1 ⟨vs,H1,I1,r1,q1⟩=>?_) (by rw [hs,hs2]) (by rw [hs2]; rfl)))
 obtain ⟨a,b,e,q1⟩:=q1
 subst e
 obtain ⟨u,v,rfl,ru,rv⟩:=gD r1
 cases ru
 cases rv
 rcases q1 with ⟨⟨xs,hx⟩,⟨ys,hy⟩,q⟩ | ⟨⟨xs,hx⟩,⟨ys,hy⟩,q⟩
 ·obtain ⟨its1,rv1,p1,_⟩:=I1.tuple hx
  obtain ⟨its2,rv2,p2,_⟩:=I1.list hy
  have la:a < s1.heap.objs.size:=by obtain ⟨o,e,_⟩:=p1; exact Heap.lt_size e
  have lb:b < s1.heap.objs.size:=by obtain ⟨o,n,e,_⟩:=p2; exact Heap.lt_size e
  refine zJS p1 p2.isList λh' z1 z2 z3 z4 z5 keep=>wpAny_pyIter_zip z1 ?_
  have I2:zH X pins σ H1 { s1 with heap:=h' }:=I1.kept (t':=s1.toks) keep
  exact ⟨s1.heap.objs.size + 4,[s1.heap.objs.size + 4,s1.heap.objs.size + 2,s1.heap.objs.size + 3,s1.heap.objs.size,s1.heap.objs.size + 1],_,_,H1,rfl,I2,
   zNR (a:=a) (b:=b) (UZ _ _ _ la lb) (Nat.ne_of_lt la) (Nat.ne_of_lt (Nat.lt_succ_of_lt lb)),⟨z1,z2,⟨_,_,z3⟩,z4,z5⟩,λc hc=>ZJ I1 hc,q⟩
 ·obtain ⟨its1,rv1,p1,_⟩:=I1.list hx
  obtain ⟨its2,rv2,p2,_⟩:=I1.list hy
  have la:a < s1.heap.objs.size:=by obtain ⟨o,n,e,_⟩:=p1; exact Heap.lt_size e
  have lb:b < s1.heap.objs.size:=by obtain ⟨o,n,e,_⟩:=p2; exact Heap.lt_size e
  refine call_zip_2 p1.isList p2.isList λh' z1 z2 z3 z4 z5 _ keep=>wpAny_pyIter_zip z1 ?_
  have I2:zH X pins σ H1 { s1 with heap:=h' }:=I1.kept (t':=s1.toks) keep
  exact ⟨s1.heap.objs.size + 4,[s1.heap.objs.size + 4,s1.heap.objs.size + 2,s1.heap.objs.size + 3,s1.heap.objs.size,s1.heap.objs.size + 1],_,_,H1,rfl,I2,
   K7 (a:=a) (b:=b) (UZ _ _ _ la lb) (Nat.ne_of_lt la) (Nat.ne_of_lt (Nat.lt_succ_of_lt lb)),⟨z1,z2,⟨_,_,z3⟩,z4,z5⟩,λc hc=>ZJ I1 hc,q⟩
def ZM (K:PySem.W.Frag):R2:=λx y H Q=>∃ p xs i v,x=.ref p/\y=.int i/\SqE K H p xs/\yL xs i=some v/\Q v H
theorem zPp:XJ X (ZM X.K):=by
 intro value slice pins s σ H x y v u Q I rx ry h hs
 obtain ⟨p,xs,i,z,e1,e2,hq,he,q⟩:=h
 rcases hq with hq | hq
 ·exact zRK value slice pins s σ H x y v u Q I rx ry ⟨p,xs,i,z,e1,e2,hq,he,q⟩ hs
 ·exact uG value slice pins s σ H x y v u Q I rx ry ⟨p,xs,i,z,e1,e2,hq,he,q⟩ hs
end
section
variable {prog:Program} {w:World} {A:Around} {E:Value->Shared->Prop}
theorem zRh {it l:Addr} {xs:Array Value} (ne:l≠it):∀ (m j:Nat) (s:Shared) (R:List Value->Shared->Prop),s.heap.IsListIter it l j->s.heap.IsList l xs->j + m<=xs.size->
  (∀ g,g.IsListIter it l (j + m)->Heap.SameBut it s.heap g->R ((xs.toList.drop j).take m) { s with heap:=g })->wpAny (model prog w) A (draw (.ref it) m) R E s
 | 0,j,s,R,hi,_,_,k=>wpAny_pure (by simpa using k s.heap hi (Heap.SameBut.refl ..))
 | m + 1,j,s,R,hi,hl,le,k=>by
  have lt:j < xs.size:=by omega
  have step:=λg (z:Heap.SameBut it s.heap g)=>(hl.extBut z.extBut ne:g.IsList l xs)
  show wpAny _ _ (pyNext (.ref it) >>= _) R E s
  refine wpAny_bind (wpAny_pyNext_list_item hi hl (x:=xs[j]) (by simp [lt]) λg1 i1 b1=>?_)
  refine wpAny_bind (wpAny_holding (zRh ne m (j + 1) _ _ i1 (step g1 b1) (by omega) λg2 i2 b2=>wpAny_pure ?_))
  have z:=k g2 (by rw [show j + (m + 1)=j + 1 + m by omega]; exact i2) (b1.trans b2)
  rw [show xs.toList.drop j=xs[j] :: xs.toList.drop (j + 1) by simp [List.drop_eq_getElem_cons,lt],List.take_succ_cons] at z
  exact z
theorem zRL {s:Shared} {l:Addr} {xs:Array Value} {R:List Value->Shared->Prop} (hd:A.handled=none) (hl:s.heap.IsList l xs)
  (k:∀ g,Heap.ExtBut s.heap.objs.size s.heap g->R xs.toList { s with heap:=g }):wpAny (model prog w) A (unpackItems (.ref l) xs.size none) R E s:=by
 have ne:l≠s.heap.objs.size:=by
  obtain ⟨o,eo,_⟩:=hl
  exact Nat.ne_of_lt (Heap.lt_size eo)
 unfold unpackItems
 refine wpAny_bind ?_
 unfold notIterableAtAll
 refine wpAny_bind (wpAny_specialOf hl.typeIs slot_list_iter.lookup ?_)
 refine wpAny_pure ?_
 simp only [Bool.false_eq_true,if_false]
 refine wpAny_bind (wpAny_holding (wpAny_pyIter_list hl ?_))
 refine wpAny_bind (wpAny_holding (zRh ne xs.size 0 _ _ ⟨_,Heap.get?_push_size _ rfl,rfl,rfl⟩ (hl.push _) (by omega) λg1 i1 b1=>?_))
 rw [show List.take xs.size (List.drop 0 xs.toList)=xs.toList by rw [List.drop_zero]; exact List.take_of_length_le (by simp),if_neg (by simp)]
 refine wpAny_bind (wpAny_holding (wpAny_pyNext_list_end hd i1 ((hl.push _).extBut b1.extBut ne) (by simp) λg2 x2=>?_))
 simp only [Option.isSome_none,Bool.false_eq_true,if_false]
 exact wpAny_pure (k g2 λc o n e=>x2 c o n (b1.extBut c o n (Heap.get?_push_of_some _ e)))
end
section
variable {X:Cx} {pos:Pos}
def Ug (K:PySem.W.Frag) (n:Nat) (t:uv):TG:=λv σ H Q=>∃ a xs,v=.ref a/\zR K H a xs/\xs.length=n/\t xs σ H Q
theorem zQs {es:List Expr} {k:Nat} {t:uv} {n:Nat} (hc:X.calm=true) (h:q9 X es t)
  (hn:(assignEach es X.env).length=n:=by rfl) (hst:(assignEach es X.env).findIdx? (·.1)=none:=by rfl):PG X (.Tuple es k pos) (Ug X.K n t):=by
 intro pins s σ H v u Q I r hw
 obtain ⟨a,xs,e1,hq,hl,hw⟩:=hw
 subst e1
 cases r
 obtain ⟨its,rv,ht,hz⟩:=I.list hq
 rw [assign_Tuple]
 refine wpAny_bind (wpAny_standAt ?_)
 unfold unpack
 rw [show (assignEach es X.env).length=its.toArray.size by simp [hn,<- hl,rv.length],hst]
 refine wpAny_bind (wpAny_holding (zRL (I.ok.hd hc) ht.isList λg hx=>?_))
 have I1:zH X pins σ H { s with heap:=g }:=I.kept (t':=s.toks) λb o e=>hx b o (Nat.ne_of_lt (Heap.lt_size e)) e
 exact h pins _ σ H xs _ Q I1 (by simpa using rv) hw
end
end L2
namespace L2
open PySem PySem.Spec PyProof.Rows
inductive u5 (i:Nat) (σ:St) (H:Hp) (Q:VK):Prop
 | mk (v:V) (_:σ[i]? = some (some v)) (_:Q v H):u5 i σ H Q
inductive qA (x:V) (vs:List V) (H:Hp) (Q:VK):Prop
 | mk (l:Addr) (xs:List V) (y:V) (_:x=.ref l) (_:vs=[y]) (_:H l=some (.lst xs)) (_:xs.length < sizeLine) (_:Q .non (zW H l (.lst (xs++[y])))):qA x vs H Q
section
variable {X:Cx}
theorem yb:Ki X "list.append" qA:=λpins s σ H x xs v us Q I rx rv ⟨l,ys,y,h1,h2,h3,h4,q⟩=>zMP pins s σ H x xs v us Q I rx rv ⟨l,ys,y,h1,h2,h3,h4,q⟩
theorem yi (i:Nat) {x:Str} {pos:Pos} (hN:X.N[i]? = some x:=by rfl) (hv:jp X.env.scope x:=by first | exact Or.inl rfl | exact Or.inr (Or.inl rfl) | exact Or.inr (Or.inr rfl)) (hd:(x == ("__debug__" : Str))=false:=by decide)
  (hcd:(x == ("__classdict__" : Str))=false:=by decide):PE X (.Name x pos) (u5 i):=λpins s σ H Q I ⟨v,e,h⟩=>W1 hN hv hd hcd pins s σ H Q I ⟨v,e,h⟩
end
end L2
namespace Sh
open PySem L2
def vV (H:Hp) (v:V) (r:List Int):Prop:=∃ a,v=.ref a/\H a=some (.lst (r.map V.int))
abbrev yj (H:Hp) (vs:List V) (tab:List (List Int)):Prop:=Paired (vV H) vs tab
theorem vV.same {H H':Hp} {v:V} {r:List Int} (s:zD H H') (h:vV H v r):vV H' v r:=let ⟨a,e,q⟩:=h; ⟨a,e,s _ _ q⟩
theorem yj.same {H H':Hp} {vs:List V} {tab:List (List Int)} (s:zD H H') (h:yj H vs tab):yj H' vs tab:=Paired.mapP h λ_ _ z=>z.same s
def zRp (p:Addr) (H H':Hp):Prop:=∀ b o,H b=some o->b≠p->H' b=some o
structure MD where
 rows:List (List Int)
 nexts:List (List Int)
 steer:List Int
 push:List (List Int)
 add:List Int
 div:Int
structure xH (m:MD) (n p:Nat):Prop where
 rows:∀ r∈m.rows,r.length=n + 1
 few:m.rows.length<=900
 nexts:m.nexts.length=n/\∀ r∈m.nexts,r.length=n
 steer:m.steer.length=n
 push:m.push.length=n/\∀ r∈m.push,r.length=p
 add:m.add.length=n
 div:1<=m.div
 n3:n<=3
 p6:p<=12
def ZN (r n s p a:V) (d:Int):List (Str × V):=[("rows",r),("nexts",n),("steer",s),("push",p),("add",a),("divisor",.int d)]
structure zO7 (C:Addr) (H:Hp) (o:Addr) (m:MD) where
 dx:Addr
 r:Addr
 rv:List V
 n:Addr
 nv:List V
 s:Addr
 p:Addr
 pv:List V
 a:Addr
structure zO7.Ok {C:Addr} {H:Hp} {o:Addr} {m:MD} (M:zO7 C H o m):Prop where
 ins:H o=some (.ins C M.dx (ZN (.ref M.r) (.ref M.n) (.ref M.s) (.ref M.p) (.ref M.a) m.div))
 hr:H M.r=some (.lst M.rv)
 hrv:ZE H M.rv m.rows
 hn:H M.n=some (.lst M.nv)
 hnv:yj H M.nv m.nexts
 hs:H M.s=some (.lst (m.steer.map V.int))
 hp:H M.p=some (.lst M.pv)
 hpv:yj H M.pv m.push
 ha:H M.a=some (.lst (m.add.map V.int))
structure wp (n:Nat) (bs:List (Int × Int)) (ms:List MD):Prop where
 n1:1<=n
 n3:n<=3
 bok:∀ b∈bs,b.1<=b.2
 b6:bs.length<=6
 m1:1<=ms.length
 m40:ms.length<=40
 mok:∀ m∈ms,xH m n bs.length
theorem Uh {K:PySem.W.Frag} {C:Addr}:PySem.W.kitOne K (.ref C) (.ref C)=some true:=by
 unfold PySem.W.kitOne
 rw [if_pos (by simp)]
end Sh
namespace Sh
open PySem L2
def off (B:List Addr) (H H':Hp):Prop:=∀ b o,H b=some o->b∉B->H' b=some o
def yT (B:List Addr) (H:Hp):Hp:=λb=>if b∈B then none else H b
theorem uJ {B:List Addr} {H:Hp}:zD (yT B H) H:=λb o h=>by
 unfold yT at h
 by_cases e:b∈B
 ·rw [if_pos e] at h; cases h
 ·rw [if_neg e] at h; exact h
theorem gN {B:List Addr} {H:Hp} {b:Addr} (e:b∉B):yT B H b=H b:=by unfold yT; rw [if_neg e]
theorem zPs {B:List Addr} {H:Hp} {b:Addr} (e:b∈B):yT B H b=none:=by unfold yT; rw [if_pos e]
theorem zOH {B:List Addr} {H:Hp} {b:Addr} {o:HO} (h:yT B H b=some o):b∉B:=λe=>by rw [zPs e] at h; cases h
theorem zOG {B:List Addr} {H H':Hp} (s:off B H H'):zD (yT B H) (yT B H'):=λb o h=>by
 have e:=zOH h
 rw [gN e] at h |-
 exact s _ _ h e
theorem ZO {B:List Addr} {H H':Hp} (s:zD H H'):zD (yT B H) (yT B H'):=zOG λb o h _=>s _ _ h
theorem zNg {H H1 H2:Hp} {x:Addr} (s:zD H H1) (b:zRp x H1 H2) (n:H x=none):zD H H2:=λc o e=>b _ _ (s _ _ e) (xn e n)
theorem zLk {H:Hp} {x dx:Addr} (hx:H x=none) (hdx:H dx=none) (ne:dx≠x) (u o:HO):zD H (zW (zW H dx u) x o):=
 (xA hdx _).trans (xA ((zt (Ne.symm ne)).trans hx) _)
end Sh
namespace L2
open PySem PySem.Spec PyProof.Rows
section
variable {X:Cx} {e:Expr}
end
theorem zG.no {P:Program} {w:World} {K:PySem.W.Frag} {mg:Str->Option Value} {base:Heap} {CX:v0} {k:Nat} {f:Addr} {fd:FuncData} {ps:List Str} {sp:Sp} (hn:∀ vs H Q E,¬ sp vs H Q E):zG P w K mg base CX k f fd ps sp:=
 ⟨λ_ _ _ _ h=>(hn _ _ _ _ h).elim,λ_ _ _ _ _ _ _ _ _ _ _ _ _ h=>(hn _ _ _ _ h).elim⟩
end L2
namespace Sh
inductive RT where
 | str (ns:List Int) (a d:Int)
 | stp (t:RT) (lo hi:Int)
 | prt (row:List Int) (x y:RT)
def RT.dep:RT->Nat
 | .str _ _ _=>1
 | .stp t _ _=>t.dep + 1
 | .prt _ x y=>max x.dep y.dep + 1
def RT.rows:RT->List (List Int)
 | .str _ _ _=>[]
 | .stp t _ _=>t.rows
 | .prt r x y=>[r]++x.rows++y.rows
def xM (pts:List (Int × Int)):RT->Int × Int
 | .str ns a d=>(UT ((jU ns pts).1 + a * (jU ns pts).2) ((jU ns pts).2 * d),UU ((jU ns pts).1 + a * (jU ns pts).2) ((jU ns pts).2 * d))
 | .stp t lo hi=>if (xM pts t).1 < lo * (xM pts t).2 then (lo,1) else if hi * (xM pts t).2 < (xM pts t).1 then (hi,1) else xM pts t
 | .prt row x y=>if (jU (row.take pts.length) pts).1<=row.getD pts.length 0 * (jU (row.take pts.length) pts).2 then xM pts x else xM pts y
end Sh
namespace Sh
open PySem L2
end Sh
namespace Sh
open PySem L2
end Sh
namespace L2
open PySem PySem.Spec PyProof.Rows Sh
section
variable {X:Cx}
inductive zQa (K:PySem.W.Frag) (x y:V) (H:Hp) (Q:VK):Prop
 | mk (a b:Addr) (xs ys:List V) (_:x=.ref a) (_:y=.ref b) (_:H a=some (.tup xs)) (_:H b=some (.tup ys)) (_:xs≠[]) (_:xs.length + ys.length<=sizeLine) (_:∀ p H',zD H H'->H' p=some (.tup (xs++ys))->Q (.ref p) H'):zQa K x y H Q
theorem zPc:yw X (binaryOp .Add) (zQa X.K):=by
 intro pins s σ H x y v u Q I rx ry h
 obtain ⟨a,b,xs,ys,rfl,rfl,ha,hb,hne,hz,q⟩:=h
 exact zPd pins s σ H _ _ v u Q I rx ry ⟨a,b,xs,ys,rfl,rfl,yS.of ha,yS.of hb,hne,hz,λz=>q a H (zD.refl _) (ha.trans (by rw [z,List.append_nil])),λ_ p hp=>q p _ (xA hp _) xI⟩
end
end L2
namespace Sh
section
variable {pts:List (Int × Int)} (hp:∀ p∈pts,0 < p.2)
include hp
end
end Sh
namespace Sh
open PySem L2
end Sh
namespace Sh
open PySem L2
end Sh
namespace L2
open PySem PySem.Spec PyProof.Rows
abbrev Ui:=Array Value->Option Addr->Prop
def Uj (base:Heap) (l:List Env) (e:Addr) (cls:Value) (P:Ui) (fl:Value) (h:Heap):Prop:=
 base.StaysIn h/\base.get? e=none/\h.FunFrames base l/\∃ (oe:Obj) (vs:Array Value) (T:Addr) (oT:Obj) (ts:Array Value),h.get? e=some oe/\oe.cls=cls/\oe.data=.fields vs/\P vs oe.dict/\vs[1]? = some (.ref T)/\base.get? T=none/\T≠e/\h.get? T=some oT/\oT.data=.fields ts/\ts[3]? = some fl
section
variable {M:Model} {A:Around} {E:Value->Shared->Prop} {s:Shared} {base:Heap} {env:Env} {outer:List Env} {L e:Addr} {cls:Value} {P:Ui} {Q:Unit->Shared->Prop} {oe:Obj} {vs:Array Value}
end
def P0:Ui:=λvs _=>vs[2]? = some .none
end L2
namespace L2
open PySem PySem.Spec PyProof.Rows
section
variable {P:Program} {w:World} {H:Hp} {h:Heap} {a:Addr}
end
structure XL (P:Program) (w:World) (outer:List Env) (H H':Hp) (s s':Shared) (B:Heap) (e:Addr) (cls a0:Value):Prop where
 os:s'.os=s.os
 bare:AllBare s'.gens
 keep:∀ b o,s.heap.get? b=some o->H b=none->b∉vG outer->B.get? b=some o
 slot:∀ b o,s.heap.get? b=some o->H b=none->b∈vG outer->∃ sl,s'.heap.get? b=some { o with slots:=sl }
 free:∀ b o,s.heap.get? b=some o->H b=none->H' b=none
 there:∀ b o,s.heap.get? b=some o->b∉vG outer->∃ o',B.get? b=some o'
 tups:∀ b xs,H b=some (.tup xs)->H' b=some (.tup xs)
 frzs:∀ b o u,H b=some (.frz o u)->H' b=some (.frz o u)
 tbls:∀ b ps,H b=some (.tbl ps)->∃ more,H' b=some (.tbl (ps++more))
 hok:xL P w H' B
 fly:Uj B outer e cls P0 .none s'.heap
section
variable {P:Program} {w:World} {outer:List Env} {H H':Hp} {s s':Shared} {B:Heap} {e:Addr} {cls a0:Value}
end
section
variable {P:Program} {w:World} {K:PySem.W.Frag} {mg:Str->Option Value} {base:Heap} {N:List Str} {qual:Str} {scope:Scope} {f:Addr} {cd:Value} {A:Around} {outer:List Env} {s:Shared} {H:Hp} {E:XK}
end
section
variable {P:Program} {w:World} {K:PySem.W.Frag} {mg:Str->Option Value} {base:Heap}
end
section
variable {X:Cx}
end
section
variable {X:Cx} {pins:List (Addr × Obj)} {σ:St} {H:Hp} {s:Shared} {e:Addr}
end
end L2
namespace L2
open PySem PySem.Spec PyProof.Rows
def XP (X:Cx) (pins:List (Addr × Obj)) (ES:St->XK) (ev:Value) (s':Shared):Prop:=
 ∃ (σ1:St) (s1:Shared) (H1 H2:Hp) (e:Addr) (cls a0:Value) (B:Heap),zH X pins σ1 H1 s1/\ev=.ref e/\XL X.prog X.w X.stack H1 H2 s1 s' B e cls a0/\ES σ1 cls none H2
section
variable {X:Cx} {call:Expr} {tb:XK->TE} {pos pos':Pos}
end
end L2
namespace L2
open PySem PySem.Spec PyProof.Rows
section
variable {X:Cx} {C:Addr} {m x:Str} {ps:List Str} {k:Nat} {sp:Sp} {o e:Expr} {es:List Expr} {ta:TE} {t:TA} {p pos apos:Pos}
end
section
variable {P:Program} {w:World} {K:PySem.W.Frag} {mg:Str->Option Value} {base:Heap} {N:List Str} {qual:Str} {scope:Scope} {f:Addr} {cd:Value} {A:Around} {outer:List Env} {s:Shared} {H:Hp} {E:XK}
variable {C:Addr} {m x:Str} {ps:List Str} {k:Nat} {sp:Sp} {o e:Expr} {es:List Expr} {ta:TE} {t:TA} {p pos apos:Pos}
end
end L2
namespace L2
open PySem PySem.Spec PyProof.Rows
section
variable {P:Program} {w:World} {K:PySem.W.Frag} {mg:Str->Option Value} {base:Heap} {k:Nat} {f C:Addr} {fd:FuncData} {x m:Str} {ps:List Str} {sp:Sp}
end
end L2
namespace L2
open PySem PySem.Spec PyProof.Rows PySem.Builtin PySem.Builtin.ObjectAttr PySem.Builtin.Getset_descriptor
section
variable {prog:Program} {w:World} {A:Around} {E:Value->Shared->Prop} {K:PySem.W.Frag} {s:Shared} {e C:Addr} {oe:Obj}
end
section
variable {X:Cx}
end
end L2
namespace Sh
open PySem L2
inductive AK where
 | int (i:Int)
 | bool (b:Bool)
 | non
 | str (x:Str)
 | dic
 | lst (as:List AK)
 | tup (as:List AK)
 | mode (r n s p a d:AK)
def AK.isInt:AK->Bool
 | .int _=>true
 | .bool _=>true
 | _=>false
def AK.isBool:AK->Bool
 | .bool _=>true
 | _=>false
def AK.isLst:AK->Bool
 | .lst _=>true
 | _=>false
def AK.isTup:AK->Bool
 | .tup _=>true
 | _=>false
inductive ZP where
 | made | bad | many
def ZP.str:ZP->Str
 | .made=>"made"
 | .bad=>"bad"
 | .many=>"many"
end Sh
namespace HT
open PySem PySem.Spec PyProof.Rows
section
variable {prog:Program} {w:World} {A:Around} {E:Value->Shared->Prop} {s:Shared}
theorem cat_tup0 {t b:Addr} {vs ws:List Value} {Q:Value->Shared->Prop} (ht:IsTup s.heap t vs.toArray) (hb:IsTup s.heap b ws.toArray) (hv:vs=[]) (h0:Q (.ref b) s):wpAny (model prog w) A (binaryOp .Add (.ref t) (.ref b)) Q E s:=by
 obtain ⟨⟨cls,dd,data,sl⟩,ho,hc,n,hd⟩:=id ht
 obtain ⟨⟨cls2,dd2,data2,sl2⟩,ho2,hc2,n2,hd2⟩:=id hb
 simp only at hc hd hc2 hd2
 subst hc hd hc2 hd2
 exact concat_meets ⟨_,ho,rfl⟩ ⟨_,ho2,rfl⟩ noFill_tuple_add seq_tuple_add PySem.F.slot_tuple_add PySem.F.entry_tuple_add (PySem.F.args_tuple_add_2 _ _)
  (tuple_addW0 t b vs.toArray ws.toArray n n2 dd dd2 sl sl2 (by simp [hv])) ⟨ho,ho2,h0⟩
theorem getItem_tuple_all {t sl:Addr} {items:Array Value} {vl vu:Value} {lo hi:Option Int} {Q:Value->Shared->Prop} (ht:IsTup s.heap t items) (hs:s.heap.IsSliceOf sl vl vu .none) (pl:IsPart vl lo) (pu:IsPart vu hi)
  (hw:sIx items.size 0 lo=0/\sIx items.size items.size hi=items.size) (h:Q (.ref t) s):wpAny (model prog w) A (getItem (.ref t) (.ref sl)) Q E s:=by
 obtain ⟨os,hos,hcs,hds⟩:=id hs
 have hTs:s.TypeIs (.ref sl) "slice":=⟨os,hos,hcs⟩
 unfold getItem
 try with_reducible refine wpAny_holding ?_
 first | refine wpAny_bind (wpAny_pure ?_) | skip
 refine wpAny_bind (wpAny_sequenceKey ht.typeIs (by decide) ?_)
 refine wpAny_bind (wpAny_callSpecial?_slot (name:=Str.ofString "__getitem__") ht.typeIs PyProof.Rows.slot_tuple_getitem
  (wpAny_call_entry PyProof.Rows.slot_tuple_getitem ht.typeIs entry_tuple_getitem ?_ (args_tuple_getitem _ _)))
 show wpAny _ _ (Builtin.Tuple.tupleItemsOf (.ref t) >>= _) _ _ s
 refine wpAny_bind (tupleItemsOf_ ht ?_)
 refine wpAny_bind (wpAny_typeOf hTs ?_)
 rw [if_pos (by decide)]
 refine wpAny_bind (KZ hs pl pu ?_)
 have hyes:(((sIx items.size 0 lo:Nat):Int) == 0 && (1:Int) == 1 && (sIx items.size items.size hi - sIx items.size 0 lo) == items.size)=true:=by
  rw [hw.1,hw.2]
  simp
 show wpAny _ _ (if (((sIx items.size 0 lo:Nat):Int) == 0 && (1:Int) == 1 && (sIx items.size items.size hi - sIx items.size 0 lo) == items.size)=true then _ else _) _ _ s
 rw [if_pos hyes]
 unfold Builtin.Tuple.tupleIsExact
 refine wpAny_bind (wpAny_bind (wpAny_typeOf ht.typeIs (wpAny_pure ?_)))
 rw [if_pos (by decide)]
 refine wpAny_bind (wpAny_rule ?_)
 exact wpAny_pure ⟨_,rfl,wpAny_pure h⟩
end
end HT
namespace L2
open PySem PySem.Spec PyProof.Rows
section
variable {X:Cx}
inductive Uk (x y:V) (H:Hp) (Q:VK):Prop
 | mk (a b:Addr) (xs ys:List V) (_:x=.ref a) (_:y=.ref b) (_:H a=some (.tup xs)) (_:H b=some (.tup ys)) (_:xs.length + ys.length<=sizeLine) (_:∀ p H',zD H H'->H' p=some (.tup (xs++ys))->Q (.ref p) H'):Uk x y H Q
theorem ZQ:yw X (binaryOp .Add) Uk:=by
 intro pins s σ H x y v u Q I rx ry h
 obtain ⟨a,b,xs,ys,rfl,rfl,ha,hb,hz,q⟩:=h
 by_cases hne:xs=[]
 ·subst hne
  cases rx
  cases ry
  obtain ⟨its,r1,p1,_⟩:=I.tuple (yS.of ha)
  obtain ⟨its2,r2,p2,_⟩:=I.tuple (yS.of hb)
  exact HT.cat_tup0 p1 p2 (r1.nil_iff.mpr rfl) ⟨.ref b,H,I,rfl,q b H (zD.refl _) hb⟩
 ·exact zPc pins s σ H _ _ v u Q I rx ry ⟨a,b,xs,ys,rfl,rfl,ha,hb,hne,hz,q⟩
inductive ZR (x:V) (lo hi:Option Int) (H:Hp) (Q:VK):Prop
 | mk (a:Addr) (xs:List V) (_:x=.ref a) (_:H a=some (.tup xs)) (_:∀ p H',zD H H'->H' p=some (.tup (wn xs lo hi))->Q (.ref p) H'):ZR x lo hi H Q
theorem zOD:jy X ZR:=by
 intro pins s σ H x v vl vu lo hi sl Q I rx hs pl pu h
 obtain ⟨a,xs,rfl,hx,q⟩:=h
 by_cases hw:HT.sIx xs.length 0 lo=0/\HT.sIx xs.length xs.length hi=xs.length
 ·cases rx
  obtain ⟨its,r,ht,hz⟩:=I.tuple (yS.of hx)
  have hlen:its.toArray.size=xs.length:=by rw [List.size_toArray]; exact r.length.symm
  refine ⟨"tuple",_,PyProof.Rows.slot_tuple_getitem.lookup,ht.typeIs,?_⟩
  refine HT.getItem_tuple_all ht hs pl pu (by rw [hlen]; exact hw) ⟨.ref a,H,I,rfl,q a H (zD.refl _) (hx.trans ?_)⟩
  unfold wn
  rw [hw.1,hw.2,List.drop_zero,Nat.sub_zero,List.take_length]
 ·exact zQS pins s σ H _ v vl vu lo hi sl Q I rx hs pl pu ⟨a,xs,rfl,yS.of hx,hw,λp hp=>q p _ (Sh.xA hp _) xI⟩
end
end L2
set_option linter.all false
namespace Sh
def bt:List (Int × Int)->Int
 | []=>1
 | p :: ps=>p.2 * bt ps
def tp:List Int->List (Int × Int)->Int
 | w :: ws,p :: ps=>w * p.1 * bt ps + p.2 * tp ws ps
 | _,_=>0
def zN:List Int->List Int->Int
 | r :: rs,a :: as=>r * a + zN rs as
 | _,_=>0
def zS (nums:List Int) (ls:List (List Int)) (j:Nat):Int:=((nums.zip ls).map λq=>q.1 * q.2.getD j 0).sum
theorem qB (r:Int) (rs:List Int) (c:List Int) (cs:List (List Int)) (j:Nat):zS (r :: rs) (c :: cs) j=r * c.getD j 0 + zS rs cs j:=by
 simp only [zS,List.zip_cons_cons,List.map_cons,List.sum_cons]
end Sh
set_option linter.all false
namespace Sh
def yd (pl:Int) (n:Nat) (nu:Int):List Int:=(List.range n).map λ(i:Nat)=>if (i:Int)=pl then nu else 0
theorem u6 (pl:Int) (n:Nat) (nu:Int):(yd pl n nu).length=n:=by
 unfold yd
 rw [List.length_map,List.length_range]
def wH (n p:Nat) (r:List Int):List Int:=(r.take n++List.replicate p 0)++[r.getD n 0]
def v5 (n p:Nat) (i:Nat) (b:Int × Int):List (List Int):=[yd ((n + i:Nat):Int) (n + p) 1++[b.2],yd ((n + i:Nat):Int) (n + p) (-1)++[-b.1]]
def jZ (n:Nat) (bs:List (Int × Int)) (rows:List (List Int)):List (List Int):=rows.map (wH n bs.length)++(bs.mapIdx (v5 n bs.length)).flatten
theorem zLR {j n:Nat} {x:Int}:(List.replicate n (0:Int)).set j x=yd (j:Int) n x:=by
 refine List.ext_getElem (by simp [yd]) λi h1 h2=>?_
 simp only [yd,List.getElem_set,List.getElem_replicate,List.getElem_map,List.getElem_range]
 by_cases e:j=i
 ·simp [e]
 ·rw [if_neg e,if_neg (by omega)]
theorem zNP {j n:Nat} {x:Int} (h:j < n):yd (j:Int) n x=List.replicate j 0++x :: List.replicate (n - j - 1) 0:=by
 rw [<- zLR]
 refine List.ext_getElem (by simp; omega) λi h1 h2=>?_
 simp only [List.getElem_set,List.getElem_replicate,List.getElem_append,List.length_replicate,List.getElem_cons]
 split
 ·rename_i e
  rw [dif_neg (by omega),dif_pos (by omega)]
 ·split
  ·rfl
  ·rw [dif_neg (by omega)]
def hB (pts:List (Int × Int)) (ws:List Int) (b:Int):Bool:=decide (tp ws pts<=b * bt pts)
def hR (pts:List (Int × Int)) (r:List Int):Bool:=hB pts (r.take pts.length) (r.getD pts.length 0)
end Sh
set_option linter.all false
namespace Sh
def yJ (T O:List (List Int)) (w:Nat):List (List Int):=T.map λns=>(List.range w).map (zS ns O)
def vW (n:Nat):List (List Int):=(List.range n).map λ(i:Nat)=>yd (i:Int) n 1
theorem ja:∀ (ns:List Int) (ls:List (List Int)) (j:Nat),zS ns ls j=zN ns (ls.map λr=>r.getD j 0)
 | [],_,_=>by simp [zS,zN]
 | _ :: _,[],_=>by simp [zS,zN]
 | n :: ns,l :: ls,j=>by rw [qB,List.map_cons,ja ns ls j]; rfl
theorem zJf {α:Type} (x:Int) (f g:α->Int):∀ (l:List α) (v:List Int),zN (l.map λj=>x * f j + g j) v=x * zN (l.map f) v + zN (l.map g) v
 | [],_=>by simp [zN]
 | _ :: _,[]=>by simp [zN]
 | a :: l,y :: v=>by
  simp only [List.map_cons,zN,zJf x f g l v]
  grind
theorem Ul {α:Type}:∀ (l:List α) (v:List Int),zN (l.map λ_=>(0:Int)) v=0
 | [],_=>by simp [zN]
 | _ :: _,[]=>by simp [zN]
 | a :: l,y :: v=>by
  simp only [List.map_cons,zN,Ul l v]
  grind
theorem XZ {a:List Int} {k:Nat} (h:a.length=k):(List.range k).map (λj=>a.getD j 0)=a:=by
 refine List.ext_getElem (by simp [h]) λi h1 h2=>?_
 simp only [List.getElem_map,List.getElem_range,List.getD_eq_getElem?_getD,List.getElem?_eq_getElem h2]
 rfl
theorem Xa {k:Nat} {v:List Int}:∀ (r:List Int) (A:List (List Int)),(∀ a∈A,a.length=k)->zN ((List.range k).map (zS r A)) v=zN r (A.map λa=>zN a v)
 | [],A,_=>by
  rw [show (zS ([]:List Int) A)=λ_=>(0:Int) from funext λj=>by simp [zS],Ul]
  simp [zN]
 | x :: r,[],_=>by
  rw [show (zS (x :: r) [])=λ_=>(0:Int) from funext λj=>by simp [zS],Ul]
  simp [zN]
 | x :: r,a :: A,h=>by
  rw [show (zS (x :: r) (a :: A))=λj=>x * a.getD j 0 + zS r A j from funext λj=>qB x r a A j,zJf,XZ (h a (by simp)),Xa r A λc m=>h c (by simp [m])]
  rfl
theorem qC {f g:Nat->Int} {n:Nat} (h:∀ j,j < n->f j=g j):(List.range n).map f=(List.range n).map g:=List.map_congr_left λj m=>h j (List.mem_range.mp m)
theorem jb {f:Nat->Int} {n j:Nat} (h:j < n):((List.range n).map f).getD j 0=f j:=by
 rw [List.getD_eq_getElem?_getD,List.getElem?_map,List.getElem?_range h]
 rfl
theorem ZS {k w:Nat} {A B:List (List Int)} (hA:∀ a∈A,a.length=k) (x:List Int):(List.range w).map (zS ((List.range k).map (zS x A)) B)=(List.range w).map (zS x (yJ A B w)):=by
 refine qC λj hj=>?_
 rw [ja,Xa x A hA,ja x]
 unfold yJ
 rw [List.map_map]
 congr 1
 refine List.map_congr_left λa _=>?_
 show _=((List.range w).map (zS a B)).getD j 0
 rw [jb hj,ja]
theorem qD {k w:Nat} {X A B:List (List Int)} (hA:∀ a∈A,a.length=k):yJ (yJ X A k) B w=yJ X (yJ A B w) w:=by
 unfold yJ
 rw [List.map_map]
 exact List.map_congr_left λx _=>ZS hA x
theorem zH9:∀ (k:Nat) (v:List Int),zN (List.replicate k (0:Int)) v=0
 | 0,_=>by simp [zN]
 | _ + 1,[]=>by simp [zN,List.replicate_succ]
 | k + 1,y :: v=>by
  simp only [List.replicate_succ,zN,zH9 k v]
  grind
theorem zJe (k:Nat):∀ (i:Nat) (v:List Int),i < v.length->zN (List.replicate i 0++1 :: List.replicate k 0) v=v.getD i 0
 | 0,y :: v,_=>by
  simp only [List.replicate_zero,List.nil_append,zN,zH9]
  show _=y
  omega
 | i + 1,y :: v,h=>by
  simp only [List.replicate_succ,List.cons_append,zN,zJe k i v (by simpa using h)]
  show _=v.getD i 0
  omega
 | _,[],h=>by simp at h
theorem Um {n i:Nat} {v:List Int} (h:v.length=n) (hi:i < n):zN (yd (i:Int) n 1) v=v.getD i 0:=by
 rw [zNP hi]
 exact zJe _ i v (by omega)
theorem zIA:∀ (a b:List Int),zN a b=zN b a
 | [],b=>by cases b <;> simp [zN]
 | _ :: _,[]=>by simp [zN]
 | x :: a,y :: b=>by
  simp only [zN,zIA a b]
  grind
theorem zLQ {n j:Nat} (h:j < n):(vW n).map (λr=>r.getD j 0)=yd (j:Int) n 1:=by
 unfold vW
 rw [List.map_map]
 unfold yd
 refine List.map_congr_left λi _=>?_
 show ((List.range n).map λ(k:Nat)=>if (k:Int)=(i:Int) then (1:Int) else 0).getD j 0=_
 rw [jb h]
 by_cases e:(j:Int)=(i:Int)
 ·rw [if_pos e,if_pos e.symm]
 ·rw [if_neg e,if_neg (λz=>e z.symm)]
theorem zJl {n:Nat} {x:List Int} (h:x.length=n):(List.range n).map (zS x (vW n))=x:=by
 refine Eq.trans (qC λj hj=>?_) (XZ h)
 rw [ja,zLQ hj,zIA,Um h hj]
theorem zKl {n:Nat} {X:List (List Int)} (h:∀ x∈X,x.length=n):yJ X (vW n) n=X:=by
 unfold yJ
 refine Eq.trans (List.map_congr_left λx hx=>zJl (h x hx)) (List.map_id'' (λ_=>rfl) X)
theorem zLO {n:Nat} {f:List Int->List Int} {X:List (List Int)} (hX:X.length=n) (hf:∀ i,i < n->f (yd (i:Int) n 1)=X.getD i []):(vW n).map f=X:=by
 unfold vW
 rw [List.map_map]
 refine List.ext_getElem (by simp [hX]) λi h1 h2=>?_
 simp only [List.getElem_map,List.getElem_range,Function.comp]
 rw [hf i (by omega),List.getD_eq_getElem?_getD,List.getElem?_eq_getElem h2]
 rfl
theorem Xb {n w:Nat} {X:List (List Int)} (hX:X.length=n) (h:∀ x∈X,x.length=w):yJ (vW n) X w=X:=by
 refine zLO hX λi hi=>?_
 have lt:i < X.length:=by omega
 have e:X.getD i []=X[i]:=by rw [List.getD_eq_getElem?_getD,List.getElem?_eq_getElem lt]; rfl
 rw [e]
 refine Eq.trans (qC λj hj=>?_) (XZ (h X[i] (List.getElem_mem _)))
 rw [ja,Um (by rw [List.length_map,hX]) hi,List.getD_eq_getElem?_getD,List.getElem?_map,List.getElem?_eq_getElem lt]
 rfl
theorem zLP {n:Nat} {v:List Int} (h:v.length=n):(vW n).map (λr=>zN r v)=v:=by
 unfold vW
 rw [List.map_map]
 refine Eq.trans (List.map_congr_left λi hi=>?_) (XZ h)
 exact Um h (List.mem_range.mp hi)
theorem Uo {n:Nat} {T B:List (List Int)} {v:List Int} (hT:∀ r∈T,r.length=n) (e:yJ B T n=vW n) (h:v.length=n):B.map (λns=>zN ns (T.map λq=>zN q v))=v:=by
 have:B.map (λns=>zN ns (T.map λq=>zN q v))=(yJ B T n).map (λr=>zN r v):=by
  unfold yJ
  rw [List.map_map]
  exact List.map_congr_left λr _=>(Xa r T hT).symm
 rw [this,e,zLP h]
def Sg (n:Nat) (f:Nat->Int):Int:=((List.range n).map f).sum
theorem gO (n:Nat) (f:Nat->Int):Sg (n + 1) f=Sg n f + f n:=by
 unfold Sg
 rw [List.range_succ,List.map_append,List.sum_append]
 simp
theorem zNG (f:Nat->Int):Sg 0 f=0:=rfl
theorem uK {n:Nat} {f g:Nat->Int} (h:∀ k,k < n->f k=g k):Sg n f=Sg n g:=by
 unfold Sg
 rw [qC h]
theorem jc (x:Int) (f g:Nat->Int):∀ n,Sg n (λk=>f k + x * g k)=Sg n f + x * Sg n g
 | 0=>by simp [zNG]
 | n + 1=>by
  rw [gO,gO,gO,jc x f g n]
  grind
theorem Xc (x:Int) {i:Nat}:∀ n,Sg n (λk=>if k=i then x else 0)=if i < n then x else 0
 | 0=>by simp [zNG]
 | n + 1=>by
  rw [gO,Xc x n]
  by_cases e:n=i
  ·subst e
   simp
  ·rw [if_neg e]
   by_cases c:i < n
   ·rw [if_pos c,if_pos (by omega)]; omega
   ·rw [if_neg c,if_neg (by omega)]; omega
def uL (n:Nat) (t b:Nat->Nat->Int):Prop:=∀ r c,r < n->c < n->Sg n (λk=>t r k * b k c)=if r=c then 1 else 0
def yr (i j:Nat) (y:Int) (t:Nat->Nat->Int) (r k:Nat):Int:=if r=i then t i k + y * t j k else t r k
def yW (i j:Nat) (y:Int) (b:Nat->Nat->Int) (k c:Nat):Int:=if c=j then b k j - y * b k i else b k c
def yk (i:Nat) (t:Nat->Nat->Int) (r k:Nat):Int:=if r=i then 0 - t i k else t r k
def ym (i:Nat) (b:Nat->Nat->Int) (k c:Nat):Int:=if c=i then 0 - b k i else b k c
theorem zPr {n i j:Nat} {y:Int} {t b:Nat->Nat->Int} (h:uL n t b) (hi:i < n) (hj:j < n) (ne:i≠j):uL n (yr i j y t) (yW i j y b):=λr c hr hc=>by
 have col:∀ r,r < n->∀ x:Nat->Int,(∀ k,x k=t r k)->Sg n (λk=>x k * yW i j y b k c)=(if r=c then 1 else 0) + (if c=j then -y else 0) * (if r=i then 1 else 0):=λr hr x hx=>by
  by_cases cj:c=j
  ·have e1:=h r j hr hj
   have e2:=h r i hr hi
   rw [uK (g:=λk=>t r k * b k j + (-y) * (t r k * b k i)) (λk _=>by rw [hx]; unfold yW; rw [if_pos cj]; grind),jc,e1,e2,cj,if_pos rfl]
  ·rw [uK (g:=λk=>t r k * b k c) (λk _=>by rw [hx]; unfold yW; rw [if_neg cj]),h r c hr hc,if_neg cj]
   omega
 by_cases ri:r=i
 ·have e1:=col i hi (t i) (λ_=>rfl)
  have e2:=col j hj (t j) (λ_=>rfl)
  rw [uK (g:=λk=>t i k * yW i j y b k c + y * (t j k * yW i j y b k c)) (λk _=>by unfold yr; rw [if_pos ri]; grind),jc,e1,e2,ri]
  clear e1 e2 col
  have h0:(if i=i then (1:Int) else 0)=1:=if_pos rfl
  have h1:(if j=i then (1:Int) else 0)=0:=if_neg (λz=>ne z.symm)
  rw [h0,h1]
  by_cases cj:c=j
  ·rw [if_pos cj,if_pos cj.symm]; grind
  ·rw [if_neg cj,if_neg (λz:j=c=>cj z.symm)]; grind
 ·rw [uK (g:=λk=>t r k * yW i j y b k c) (λk _=>by unfold yr; rw [if_neg ri]),col r hr (t r) (λ_=>rfl),if_neg ri]
  omega
theorem zOF {n i j:Nat} {y:Int} {t b:Nat->Nat->Int} (h:uL n b t) (hi:i < n) (hj:j < n) (ne:i≠j):uL n (yW i j y b) (yr i j y t):=λr c hr hc=>by
 have e:∀ k,yW i j y b r k * yr i j y t k c=(b r k * t k c + 1 * (if k=i then y * (b r i * t j c) else 0)) + (-1) * (if k=j then y * (b r i * t j c) else 0):=λk=>by
  unfold yW yr
  by_cases ki:k=i
  ·rw [if_neg (λz=>ne (ki.symm.trans z)),if_pos ki,if_pos ki,if_neg (λz=>ne (ki.symm.trans z)),ki]; grind
  ·by_cases kj:k=j
   ·rw [if_pos kj,if_neg ki,if_neg ki,if_pos kj,kj]; grind
   ·rw [if_neg kj,if_neg ki,if_neg ki,if_neg kj]; grind
 rw [uK (λk _=>e k),jc,jc,Xc,Xc,if_pos hi,if_pos hj,h r c hr hc]
 omega
theorem zPq {n i:Nat} {t b:Nat->Nat->Int} (h:uL n t b) (hi:i < n):uL n (yk i t) (ym i b):=λr c hr hc=>by
 by_cases ri:r=i
 ·by_cases ci:c=i
  ·rw [uK (g:=λk=>t r k * b k c) (λk _=>by unfold yk ym; rw [if_pos ri,if_pos ci,ri,ci]; grind)]
   exact h r c hr hc
  ·rw [uK (g:=λk=>(0 - t r k * b k c) + 0 * 0) (λk _=>by unfold yk ym; rw [if_pos ri,if_neg ci,ri]; grind)]
   have:=h r c hr hc
   rw [if_neg (by omega)] at this |-
   rw [uK (g:=λk=>0 * 0 + (-1) * (t r k * b k c)) (λk _=>by grind),jc,this]
   have z:=jc 0 (λ_=>(0:Int)) (λ_=>0) n
   simp only [Int.mul_zero] at z |-
   have z2:∀ n,Sg n (λ_=>(0:Int))=0:=λn=>by
    induction n with
    | zero=>rfl
    | succ n ih=>rw [gO,ih]; rfl
   rw [z2]
   rfl
 ·by_cases ci:c=i
  ·have:=h r c hr hc
   rw [if_neg (by omega)] at this |-
   have z2:∀ n,Sg n (λ_=>(0:Int))=0:=λn=>by
    induction n with
    | zero=>rfl
    | succ n ih=>rw [gO,ih]; rfl
   rw [uK (g:=λk=>0 + (-1) * (t r k * b k c)) (λk _=>by unfold yk ym; rw [if_neg ri,if_pos ci,ci]; grind),jc,this,z2]
   rfl
  ·rw [uK (g:=λk=>t r k * b k c) (λk _=>by unfold yk ym; rw [if_neg ri,if_neg ci])]
   exact h r c hr hc
theorem zOE {n i:Nat} {t b:Nat->Nat->Int} (h:uL n b t):uL n (ym i b) (yk i t):=λr c hr hc=>by
 rw [uK (g:=λk=>b r k * t k c) (λk _=>by
  unfold yk ym
  by_cases ki:k=i
  ·rw [if_pos ki,if_pos ki,ki]; grind
  ·rw [if_neg ki,if_neg ki])]
 exact h r c hr hc
def yX (n:Nat) (t:Nat->Nat->Int):List (List Int):=(List.range n).map λr=>(List.range n).map (t r)
theorem gP (n:Nat) (t:Nat->Nat->Int):(yX n t).length=n:=by
 unfold yX
 rw [List.length_map,List.length_range]
theorem zJc {n:Nat} {t:Nat->Nat->Int} {r:List Int} (h:r∈yX n t):r.length=n:=by
 obtain ⟨i,_,rfl⟩:=List.mem_map.mp h
 rw [List.length_map,List.length_range]
theorem zGk (f g:Nat->Int):∀ l:List Nat,zN (l.map f) (l.map g)=(l.map λk=>f k * g k).sum
 | []=>rfl
 | a :: l=>by
  simp only [List.map_cons,zN,List.sum_cons,zGk f g l]
theorem zJ6 {n:Nat} {t b:Nat->Nat->Int} (h:uL n t b):yJ (yX n t) (yX n b) n=vW n:=by
 unfold yJ vW
 rw [show yX n t=(List.range n).map λr=>(List.range n).map (t r) from rfl,List.map_map]
 refine List.map_congr_left λr hr=>?_
 have hr:=List.mem_range.mp hr
 unfold yd
 refine qC λc hc=>?_
 rw [ja]
 unfold yX
 rw [List.map_map,show ((λr:List Int=>r.getD c 0) ∘ λr=>(List.range n).map (b r))=λk=>b k c from funext λk=>jb hc,zGk]
 have:=h r c hr hc
 unfold Sg at this
 rw [this]
 by_cases e:r=c
 ·rw [if_pos e,if_pos (by omega)]
 ·rw [if_neg e,if_neg (by omega)]
theorem zJ5 (n:Nat):uL n (λr k=>if r=k then 1 else 0) (λr k=>if r=k then 1 else 0):=λr c hr hc=>by
 rw [uK (g:=λk=>if k=r then (if r=c then 1 else 0) else 0) (λk _=>by
  show (if r=k then (1:Int) else 0) * (if k=c then 1 else 0)=_
  by_cases e:k=r
  ·rw [if_pos e.symm,if_pos e,e,Int.one_mul]
  ·rw [if_neg (λz:r=k=>e z.symm),if_neg e,Int.zero_mul]),Xc,if_pos hr]
end Sh
set_option linter.all false
namespace Sh
def zb (n:Nat) (B:List (List Int)) (r:List Int):List Int:=(List.range n).map (zS (r.take n) B)++r.drop n
theorem zH8 {n:Nat} {B:List (List Int)} {r:List Int} (h:n<=r.length):(zb n B r).length=r.length:=by
 unfold zb
 rw [List.length_append,List.length_map,List.length_range,List.length_drop]
 omega
theorem zNS {n j:Nat} {B:List (List Int)} {r:List Int} (h:j < n):(zb n B r).getD j 0=zS (r.take n) B j:=by
 unfold zb
 rw [List.getD_eq_getElem?_getD,List.getElem?_append_left (by rw [List.length_map,List.length_range]; exact h),<- List.getD_eq_getElem?_getD,jb h]
theorem Xd {n j:Nat} {B:List (List Int)} {r:List Int} (h:n<=j):(zb n B r).getD j 0=r.getD j 0:=by
 unfold zb
 rw [List.getD_eq_getElem?_getD,List.getElem?_append_right (by rw [List.length_map,List.length_range]; exact h),List.length_map,List.length_range,List.getElem?_drop,List.getD_eq_getElem?_getD]
 congr 2
 omega
theorem zJu (B:List (List Int)) (j:Nat):zS [] B j=0:=by unfold zS; simp
theorem Up {α:Type} (c:Int) (f g:α->Int):∀ (l:List α) (B:List (List Int)) (j:Nat),zS (l.map λi=>f i * c + g i) B j=zS (l.map f) B j * c + zS (l.map g) B j
 | [],B,j=>by simp [zJu]
 | a :: l,[],j=>by unfold zS; simp
 | a :: l,b :: B,j=>by
  have:=Up c f g l B j
  rw [List.map_cons,List.map_cons,List.map_cons,qB,qB,qB,this]
  grind
theorem gQ {α:Type}:∀ (l:List α) (B:List (List Int)) (j:Nat),zS (l.map λ_=>(0:Int)) B j=0
 | [],B,j=>by simp [zJu]
 | a :: l,[],j=>by unfold zS; simp
 | a :: l,b :: B,j=>by
  rw [List.map_cons,qB,gQ l B j]
  omega
theorem ZT (r:List Int) (rows:List (List Int)) (x:Int) (nums:List Int) (j:Nat):yz (r :: rows) (x :: nums) j=r.getD j 0 * x + yz rows nums j:=by unfold yz; simp
theorem zJt (nums:List Int) (j:Nat):yz [] nums j=0:=by unfold yz; simp
theorem Xe (rows:List (List Int)) (j:Nat):yz rows [] j=0:=by unfold yz; simp
theorem zNW {n:Nat} {r:List Int} (h:n<=r.length):(List.range n).map (λi=>r.getD i 0)=r.take n:=by
 apply List.ext_getElem?
 intro i
 rw [List.getElem?_map,List.getElem?_take]
 by_cases hi:i < n
 ·rw [List.getElem?_range hi,if_pos hi,List.getElem?_eq_getElem (show i < r.length by omega)]
  show some (r.getD i 0)=_
  rw [List.getD_eq_getElem?_getD,List.getElem?_eq_getElem (show i < r.length by omega)]
  rfl
 ·rw [if_neg hi,List.getElem?_eq_none (by rw [List.length_range]; omega)]
  rfl
theorem zJs {n:Nat} {B:List (List Int)} {j:Nat} (hj:j < n):∀ (rows:List (List Int)) (nums:List Int),(∀ r∈rows,n<=r.length)->yz (rows.map (zb n B)) nums j=zS ((List.range n).map (yz rows nums)) B j
 | [],nums,_=>by
  rw [List.map_nil,zJt,show (List.range n).map (yz [] nums)=(List.range n).map λ_=>(0:Int) from List.map_congr_left λi _=>zJt nums i,gQ]
 | r :: rows,[],_=>by
  rw [Xe,show (List.range n).map (yz (r :: rows) [])=(List.range n).map λ_=>(0:Int) from List.map_congr_left λi _=>Xe _ i,gQ]
 | r :: rows,x :: nums,h=>by
  have ih:=zJs (B:=B) hj rows nums λq hq=>h q (List.mem_cons_of_mem _ hq)
  rw [List.map_cons,ZT,ih,zNS hj,show (List.range n).map (yz (r :: rows) (x :: nums))=(List.range n).map λi=>r.getD i 0 * x + yz rows nums i from List.map_congr_left λi _=>ZT r rows x nums i,Up,zNW (h r List.mem_cons_self)]
theorem Uq {n:Nat} {B:List (List Int)} {j:Nat} (hj:n<=j):∀ (rows:List (List Int)) (nums:List Int),yz (rows.map (zb n B)) nums j=yz rows nums j
 | [],nums=>rfl
 | r :: rows,[]=>by rw [Xe,Xe]
 | r :: rows,x :: nums=>by rw [List.map_cons,ZT,ZT,Uq hj rows nums,Xd hj]
structure TB (n:Nat) (T B:List (List Int)):Prop where
 tl:T.length=n
 tr:∀ r∈T,r.length=n
 bl:B.length=n
 br:∀ r∈B,r.length=n
 tb:yJ T B n=vW n
 bt:yJ B T n=vW n
def fB (n:Nat) (B:List (List Int)) (x:List Int):List Int:=(List.range n).map (zS x B)
theorem Ur {n:Nat} {T B:List (List Int)} (h:TB n T B) {x:List Int} (l:x.length=n):fB n T (fB n B x)=x:=by
 unfold fB
 rw [ZS h.br x,h.bt]
 exact zJl l
theorem zO2 {n:Nat} {T B:List (List Int)} (h:TB n T B) {x y:List Int} (lx:x.length=n) (ly:y.length=n) (e:fB n B x=fB n B y):x=y:=by
 rw [<- Ur h lx,e,Ur h ly]
theorem zRc (n:Nat) (B:List (List Int)) (o:Int) (x:List Int):fB n B (x.map (o * ·))=(fB n B x).map (o * ·):=by
 unfold fB
 rw [List.map_map]
 refine List.map_congr_left λj _=>?_
 have:=Up o (λi:Int=>i) (λ_=>0) x B j
 rw [gQ] at this
 have e1:x.map (λi=>i * o + 0)=x.map (o * ·):=List.map_congr_left λi _=>by show i * o + 0=o * i; rw [Int.add_zero,Int.mul_comm]
 rw [e1,List.map_id'] at this
 show zS (x.map (o * ·)) B j=o * zS x B j
 rw [this,Int.add_zero,Int.mul_comm]
theorem Xf (n p:Nat) (f:Nat->Int):(List.range (n + p)).map f=(List.range n).map f++(List.range p).map λj=>f (n + j):=by
 rw [List.range_add,List.map_append,List.map_map]
 rfl
theorem zKO {l:List Int}:(l.all λx=>decide (x=0))=true ↔ l=l.map λ_=>0:=by
 induction l with
 | nil=>simp
 | cons a t ih=>
  rw [List.all_cons,Bool.and_eq_true,decide_eq_true_iff,List.map_cons,List.cons.injEq,ih]
theorem zKa {n p:Nat} {T B rows:List (List Int)} {tw nums:List Int} {o:Int} (h:TB n T B) (hr:∀ r∈rows,r.length=n + p + 1) (ht:tw.length=n + p + 1) :
  j8 (rows.map (zb n B)) (zb n B tw) o nums (n + p)=j8 rows tw o nums (n + p):=by
 have lo:(List.range n).map (yz (rows.map (zb n B)) nums)=fB n B ((List.range n).map (yz rows nums)):=List.map_congr_left λj hj=>zJs (List.mem_range.mp hj) rows nums λr hr'=>by have:=hr r hr'; omega
 have hi:(List.range p).map (λj=>yz (rows.map (zb n B)) nums (n + j))=(List.range p).map λj=>yz rows nums (n + j):=List.map_congr_left λj _=>Uq (by omega) rows nums
 have la:yz (rows.map (zb n B)) nums (n + p)=yz rows nums (n + p):=Uq (by omega) rows nums
 have lv:((List.range n).map (yz rows nums)).length=n:=by rw [List.length_map,List.length_range]
 unfold j8
 by_cases c:o=0
 ·rw [if_pos c,if_pos c,la,Xf,Xf,hi,lo,List.all_append,List.all_append]
  congr 2
  rw [Bool.eq_iff_iff,zKO,zKO]
  generalize (List.range n).map (yz rows nums)=v at lv
  have z:fB n B (v.map λ_=>0)=(fB n B v).map λ_=>0:=by
   unfold fB
   rw [List.map_map]
   exact List.map_congr_left λj _=>gQ v B j
  constructor
  ·intro e
   exact zO2 h lv (by rw [List.length_map]; exact lv) (e.trans z.symm)
  ·intro e
   rw [<- z,<- e]
 ·rw [if_neg c,if_neg c,la,Xd (show n<=n + p by omega),Xf,Xf,hi,lo]
  congr 2
  have t1:(zb n B tw).take (n + p)=fB n B (tw.take n)++(tw.drop n).take p:=by
   unfold zb fB
   rw [List.take_append,List.length_map,List.length_range,List.take_of_length_le (by rw [List.length_map,List.length_range]; omega),show n + p - n=p by omega]
  have t2:tw.take (n + p)=tw.take n++(tw.drop n).take p:=List.take_add
  have lt:(tw.take n).length=n:=by rw [List.length_take]; omega
  rw [t1,t2,List.map_append,List.map_append,<- zRc]
  generalize (List.range n).map (yz rows nums)=v at lv
  have lf:∀ x:List Int,(fB n B x).length=n:=λx=>by unfold fB; rw [List.length_map,List.length_range]
  refine propext ⟨?_,?_⟩
  ·intro e
   obtain ⟨e1,e2⟩:=List.append_inj e (by rw [lf,lf])
   rw [zO2 h lv (by rw [List.length_map]; exact lt) e1,e2]
  ·intro e
   obtain ⟨e1,e2⟩:=List.append_inj e (by rw [lv,List.length_map,lt])
   rw [e1,e2]
theorem zLJ {n p:Nat} {B:List (List Int)} {r:List Int} (h:r.length=n + 1):wH n p (zb n B r)=zb n B (wH n p r):=by
 have e1:(zb n B r).take n=fB n B (r.take n):=by
  unfold zb fB
  rw [List.take_append,List.length_map,List.length_range,Nat.sub_self,List.take_zero,List.append_nil,List.take_of_length_le (by rw [List.length_map,List.length_range]; omega)]
 have lt:(r.take n).length=n:=by rw [List.length_take]; omega
 have e2:(wH n p r).take n=r.take n:=by
  unfold wH
  rw [List.append_assoc,List.take_append,lt,Nat.sub_self,List.take_zero,List.append_nil,List.take_of_length_le (by omega)]
 have e3:(wH n p r).drop n=List.replicate p 0++[r.getD n 0]:=by
  unfold wH
  rw [List.append_assoc,List.drop_append,lt,Nat.sub_self,List.drop_zero,List.drop_eq_nil_of_le (by omega),List.nil_append]
 rw [show zb n B (wH n p r)=fB n B ((wH n p r).take n)++(wH n p r).drop n from rfl,e2,e3]
 unfold wH
 rw [e1,Xd (Nat.le_refl n),List.append_assoc]
theorem zH4 {n p i:Nat} {B:List (List Int)} {x c:Int} (hi:i < p):zb n B (yd ((n + i:Nat):Int) (n + p) x++[c])=yd ((n + i:Nat):Int) (n + p) x++[c]:=by
 have lu:=u6 ((n + i:Nat):Int) (n + p) x
 have z:(yd ((n + i:Nat):Int) (n + p) x++[c]).take n=(List.range n).map λ_=>(0:Int):=by
  rw [List.take_append_of_le_length (by omega)]
  unfold yd
  rw [<- List.map_take,List.take_range,Nat.min_eq_left (by omega)]
  exact List.map_congr_left λj hj=>if_neg (by have:=List.mem_range.mp hj; omega)
 have e:(List.range n).map (zS ((yd ((n + i:Nat):Int) (n + p) x++[c]).take n) B)=(yd ((n + i:Nat):Int) (n + p) x++[c]).take n:=by
  rw [z]
  exact List.map_congr_left λj _=>gQ _ B j
 unfold zb
 rw [e,List.take_append_drop]
theorem zKZ {n:Nat} {bs:List (Int × Int)} {B rows:List (List Int)} (h:∀ r∈rows,r.length=n + 1):jZ n bs (rows.map (zb n B))=(jZ n bs rows).map (zb n B):=by
 unfold jZ
 rw [List.map_append,List.map_map,List.map_map]
 congr 1
 ·exact List.map_congr_left λr hr=>zLJ (h r hr)
 ·symm
  refine (List.map_congr_left (g:=id) λr hr=>?_).trans (List.map_id _)
  obtain ⟨l,hl,hr⟩:=List.mem_flatten.mp hr
  obtain ⟨i,hi,rfl⟩:=List.mem_mapIdx.mp hl
  rcases List.mem_cons.mp hr with rfl | hr
  ·exact zH4 hi
  ·rw [List.mem_singleton.mp hr]
   exact zH4 hi
def Us (n p:Nat) (ws:List Int) (b:Int) (N P:List (List Int)) (A:List Int) (d:Int):List Int:=((List.range n).map (zS ws N)++(List.range p).map (zS ws P))++[d * b - zN ws A]
theorem zKj {n p:Nat} {T B N P:List (List Int)} {ws A:List Int} {b d:Int} (h:TB n T B) (lw:ws.length=n) (lN:N.length=n) (hN:∀ r∈N,r.length=n) (lP:P.length=n) (hP:∀ r∈P,r.length=p) (lA:A.length=n) :
  Us n p (fB n B ws) b (yJ (yJ T N n) B n) (yJ T P p) (T.map λq=>zN q A) d=zb n B (Us n p ws b N P A d):=by
 have pr:∀ (X:List (List Int)) (w:Nat),∀ r∈yJ T X w,r.length=w:=λX w r hr=>by
  obtain ⟨q,_,rfl⟩:=List.mem_map.mp hr
  rw [List.length_map,List.length_range]
 have e1:fB n (yJ (yJ T N n) B n) (fB n B ws)=fB n B (fB n N ws):=by
  unfold fB
  rw [ZS h.br,ZS hN,<- qD (pr N n),<- qD h.tr,h.bt,Xb lN hN]
 have e2:(List.range p).map (zS (fB n B ws) (yJ T P p))=(List.range p).map (zS ws P):=by
  unfold fB
  rw [ZS h.br,<- qD h.tr,h.bt,Xb lP hP]
 have e3:zN (fB n B ws) (T.map λq=>zN q A)=zN ws A:=by
  unfold fB
  rw [Xa ws B h.br,Uo h.tr h.bt lA]
 have lf:(fB n N ws).length=n:=by unfold fB; rw [List.length_map,List.length_range]
 unfold Us
 rw [e3,e2,show (List.range n).map (zS (fB n B ws) (yJ (yJ T N n) B n))=fB n B (fB n N ws) from e1]
 show _=fB n B (((fB n N ws++(List.range p).map (zS ws P))++[d * b - zN ws A]).take n)++((fB n N ws++(List.range p).map (zS ws P))++[d * b - zN ws A]).drop n
 rw [List.append_assoc,List.append_assoc,List.take_append_of_le_length (by omega),List.take_of_length_le (by omega),List.drop_append_of_le_length (by omega),List.drop_eq_nil_of_le (by omega),List.nil_append]
end Sh
namespace Pu
open PySem L2 Sh
inductive D where
 | int (i:Int)
 | bool (b:Bool)
 | non
 | str (x:Str)
 | scr (ns:List Int)
 | lst (ds:List D)
 | tup (ds:List D)
 | obj (c:Addr) (ns:List Str) (ds:List D)
inductive DV (H:Hp):V->D->Prop where
 | int (i:Int):DV H (.int i) (.int i)
 | bool (b:Bool):DV H (.bl b) (.bool b)
 | non:DV H .non .non
 | str (x:Str):DV H (.str x) (.str x)
 | scr {a:Addr} {ns:List Int} (e:Rd H a (.lst (ns.map V.int))):DV H (.ref a) (.scr ns)
 | lst {a:Addr} {xs:List V} {ds:List D} (e:H a=some (.lst xs)) (h:Paired (DV H) xs ds):DV H (.ref a) (.lst ds)
 | tup {a:Addr} {xs:List V} {ds:List D} (e:H a=some (.tup xs)) (h:Paired (DV H) xs ds):DV H (.ref a) (.tup ds)
 | obj {o dx c:Addr} {ns:List Str} {xs:List V} {ds:List D} (e:H o=some (.ins c dx (ns.zip xs))) (l:ns.length=xs.length) (h:Paired (DV H) xs ds):DV H (.ref o) (.obj c ns ds)
theorem Xg {H H':Hp} (s:zD H H') {a:Addr} {u:HO} (h:Rd H a u):Rd H' a u:=h.imp (s _ _) λ⟨o,e⟩=>⟨o,s _ _ e⟩
theorem DV.same {H H':Hp} (s:zD H H'):∀ {v:V} {d:D},DV H v d->DV H' v d
 | _,_,.int i=>.int i
 | _,_,.bool b=>.bool b
 | _,_,.non=>.non
 | _,_,.str x=>.str x
 | _,_,.scr e=>.scr (Xg s e)
 | _,_,.lst e h=>.lst (s _ _ e) (go s h)
 | _,_,.tup e h=>.tup (s _ _ e) (go s h)
 | _,_,.obj e l h=>.obj (s _ _ e) l (go s h)
where
 go {H H':Hp} (s:zD H H'):∀ {xs:List V} {ds:List D},Paired (DV H) xs ds->Paired (DV H') xs ds
  | _,_,.nil=>.nil
  | _,_,.cons h t=>.cons (DV.same s h) (go s t)
abbrev yK (H:Hp):List V->List D->Prop:=Paired (DV H)
theorem xT {H H':Hp} (s:zD H H') {xs:List V} {ds:List D} (h:yK H xs ds):yK H' xs ds:=DV.same.go s h
theorem Xh {H:Hp}:∀ {xs:List V} {ns:List Int},yK H xs (ns.map D.int)->xs=ns.map V.int
 | _,[],.nil=>rfl
 | _,_ :: _,.cons h t=>by cases h; rw [Xh t]; rfl
theorem zId {H:Hp}:∀ {xs:List V} {bs:List Bool},yK H xs (bs.map D.bool)->xs=bs.map V.bl
 | _,[],.nil=>rfl
 | _,_ :: _,.cons h t=>by cases h; rw [zId t]; rfl
theorem zIc {H:Hp}:∀ {ns:List Int},yK H (ns.map V.int) (ns.map D.int)
 | []=>.nil
 | _ :: _=>.cons (.int _) zIc
open Classical in
noncomputable def zT (Z:Addr->Prop) (H:Hp):Hp:=λb=>if Z b then none else H b
theorem xy {Z:Addr->Prop} {H:Hp} {b:Addr} (h:¬ Z b):zT Z H b=H b:=if_neg h
theorem qE {Z:Addr->Prop} {H:Hp} {b:Addr} {o:HO} (h:zT Z H b=some o):¬ Z b/\H b=some o:=by
 unfold zT at h
 by_cases c:Z b
 ·rw [if_pos c] at h; cases h
 ·rw [if_neg c] at h; exact ⟨c,h⟩
theorem yC {Z:Addr->Prop} {H:Hp}:zD (zT Z H) H:=λ_ _ h=>(qE h).2
theorem yY {Z:Addr->Prop} {H H':Hp} (s:zD H H'):zD (zT Z H) (zT Z H'):=λb o h=>by
 obtain ⟨h1,h2⟩:=qE h
 rw [xy h1]
 exact s _ _ h2
theorem Xi {Z Z':Addr->Prop} {H:Hp} (s:∀ b,Z' b->Z b):zD (zT Z H) (zT Z' H):=λb o h=>by
 obtain ⟨h1,h2⟩:=qE h
 rw [xy λz=>h1 (s _ z)]
 exact h2
def ZL (Z:Addr->Prop) (H:Hp):Prop:=∀ b,Z b->∃ u,H b=some u/\∀ xs,u≠.tup xs
theorem ZL.same {Z:Addr->Prop} {H H':Hp} (z:ZL Z H) (s:zD H H'):ZL Z H':=λb hb=>let ⟨u,e,n⟩:=z b hb; ⟨u,s _ _ e,n⟩
theorem ZL.new {Z:Addr->Prop} {H:Hp} (z:ZL Z H) {p:Addr} (h:H p=none):¬ Z p:=λq=>by
 obtain ⟨u,e,_⟩:=z p q
 rw [h] at e
 cases e
inductive Sl where
 | no
 | sh (d:D)
 | ow (ds:List D)
 | ob (o c:Addr) (ns:List Str) (ds:List D)
def slot:List Sl->Nat->Sl
 | [],_=>.no
 | x :: _,0=>x
 | _ :: t,i + 1=>slot t i
def yH:List Sl->Nat->Sl->List Sl
 | [],_,_=>[]
 | _ :: t,0,y=>y :: t
 | x :: t,i + 1,y=>x :: yH t i y
theorem gR:∀ (Γ:List Sl) (i:Nat) (y:Sl),(yH Γ i y).length=Γ.length
 | [],_,_=>rfl
 | _ :: _,0,_=>rfl
 | _ :: t,i + 1,y=>by show (yH t i y).length + 1=_; rw [gR t i y]; rfl
theorem xj:∀ (Γ:List Sl) (i j:Nat) (y:Sl),slot (yH Γ i y) j=if j=i/\i < Γ.length then y else slot Γ j
 | [],i,j,y=>by rw [if_neg (λh=>absurd h.2 (Nat.not_lt_zero _))]; rfl
 | x :: t,0,0,y=>(if_pos ⟨rfl,Nat.zero_lt_succ _⟩).symm
 | x :: t,0,j + 1,y=>(if_neg (λh=>nomatch h.1)).symm
 | x :: t,i + 1,0,y=>(if_neg (λh=>nomatch h.1)).symm
 | x :: t,i + 1,j + 1,y=>by
  show slot (yH t i y) j=if j + 1=i + 1/\i + 1 < t.length + 1 then y else slot t j
  rw [xj t i j y]
  by_cases c:j=i/\i < t.length
  ·rw [if_pos c,if_pos ⟨by omega,by omega⟩]
  ·rw [if_neg c,if_neg (λh=>c ⟨by omega,by omega⟩)]
theorem ua:∀ {Γ:List Sl} {i:Nat},slot Γ i≠.no->i < Γ.length
 | [],_,h=>absurd rfl h
 | _ :: _,0,_=>Nat.zero_lt_succ _
 | _ :: _,_ + 1,h=>Nat.succ_lt_succ (ua (Γ:=_) h)
structure yn (Z:Addr->Prop) (Γ:List Sl) (σ:St) (H:Hp):Prop where
 sh:∀ i d,slot Γ i=.sh d->∃ v,σ[i]? = some (some v)/\DV (zT Z H) v d
 ow:∀ i ds,slot Γ i=.ow ds->∃ l xs,σ[i]? = some (some (.ref l))/\Z l/\H l=some (.lst xs)/\yK (zT Z H) xs ds
 ob:∀ i o c ns ds,slot Γ i=.ob o c ns ds->∃ dx xs,σ[i]? = some (some (.ref o))/\Z o/\H o=some (.ins c dx (ns.zip xs))/\ns.length=xs.length/\yK (zT Z H) xs ds
 ne:∀ i j as bs l,slot Γ i=.ow as->slot Γ j=.ow bs->σ[i]? = some (some (.ref l))->σ[j]? = some (some (.ref l))->i=j
 zd:ZL Z H
 len:Γ.length=σ.length
theorem yn.same {Z:Addr->Prop} {Γ:List Sl} {σ:St} {H H':Hp} (E:yn Z Γ σ H) (s:zD H H'):yn Z Γ σ H' where
 sh:=λi d e=>let ⟨v,h1,h2⟩:=E.sh i d e; ⟨v,h1,h2.same (yY s)⟩
 ow:=λi ds e=>let ⟨l,xs,h1,h2,h3,h4⟩:=E.ow i ds e; ⟨l,xs,h1,h2,s _ _ h3,xT (yY s) h4⟩
 ob:=λi o c ns ds e=>let ⟨dx,xs,h1,h2,h3,h5,h4⟩:=E.ob i o c ns ds e; ⟨dx,xs,h1,h2,s _ _ h3,h5,xT (yY s) h4⟩
 ne:=E.ne
 zd:=E.zd.same s
 len:=E.len
theorem yn.set {Z:Addr->Prop} {Γ:List Sl} {σ:St} {H:Hp} (E:yn Z Γ σ H) {v:V} {d:D} (h:DV (zT Z H) v d) (i:Nat):yn Z (yH Γ i (.sh d)) (σ.set i (some v)) H where
 sh:=λj e q=>by
  rw [xj] at q
  by_cases c:j=i/\i < Γ.length
  ·rw [if_pos c] at q
   cases q
   rw [c.1]
   exact ⟨v,by rw [List.getElem?_set_self (by have:=E.len; omega)],h⟩
  ·rw [if_neg c] at q
   obtain ⟨u,h1,h2⟩:=E.sh j e q
   have hj:=ua (Γ:=Γ) (i:=j) (by rw [q]; exact λz=>nomatch z)
   exact ⟨u,by rw [List.getElem?_set_ne (λz=>c ⟨z.symm,by omega⟩)]; exact h1,h2⟩
 ow:=λj e q=>by
  rw [xj] at q
  by_cases c:j=i/\i < Γ.length
  ·rw [if_pos c] at q; cases q
  ·rw [if_neg c] at q
   obtain ⟨l,xs,h1,h2⟩:=E.ow j e q
   have hj:=ua (Γ:=Γ) (i:=j) (by rw [q]; exact λz=>nomatch z)
   exact ⟨l,xs,by rw [List.getElem?_set_ne (λz=>c ⟨z.symm,by omega⟩)]; exact h1,h2⟩
 ob:=λj o0 c0 ns e q=>by
  rw [xj] at q
  by_cases c:j=i/\i < Γ.length
  ·rw [if_pos c] at q; cases q
  ·rw [if_neg c] at q
   obtain ⟨dx,xs,h1,h2⟩:=E.ob j o0 c0 ns e q
   have hj:=ua (Γ:=Γ) (i:=j) (by rw [q]; exact λz=>nomatch z)
   exact ⟨dx,xs,by rw [List.getElem?_set_ne (λz=>c ⟨z.symm,by omega⟩)]; exact h1,h2⟩
 ne:=λj k as bs l q r e f=>by
  rw [xj] at q r
  by_cases c:j=i/\i < Γ.length
  ·rw [if_pos c] at q; cases q
  ·by_cases c':k=i/\i < Γ.length
   ·rw [if_pos c'] at r; cases r
   ·rw [if_neg c] at q
    rw [if_neg c'] at r
    have hj:=ua (Γ:=Γ) (i:=j) (by rw [q]; exact λz=>nomatch z)
    have hk:=ua (Γ:=Γ) (i:=k) (by rw [r]; exact λz=>nomatch z)
    rw [List.getElem?_set_ne (λz=>c ⟨z.symm,by omega⟩)] at e
    rw [List.getElem?_set_ne (λz=>c' ⟨z.symm,by omega⟩)] at f
    exact E.ne j k as bs l q r e f
 zd:=E.zd
 len:=by rw [gR,List.length_set]; exact E.len
abbrev yF:=List Sl->(D->Prop)->Prop
abbrev wq:=List Sl->(Bool->Prop)->Prop
abbrev y6:=List Sl->(List D->Prop)->Prop
abbrev ZU:=List Sl->(Option Int->Prop)->Prop
inductive tP (p:yF) (σ:St) (H:Hp) (Q:VK):Prop
 | mk (Z:Addr->Prop) (Γ:List Sl) (R:D->Prop) (E:yn Z Γ σ H) (h:p Γ R) (q:∀ d v H',R d->zD H H'->DV (zT Z H') v d->Q v H'):tP p σ H Q
inductive xU (p:wq) (σ:St) (H:Hp) (Q:Bool->Hp->Prop):Prop
 | mk (Z:Addr->Prop) (Γ:List Sl) (R:Bool->Prop) (E:yn Z Γ σ H) (h:p Γ R) (q:∀ b H',R b->zD H H'->Q b H'):xU p σ H Q
inductive wV (p:y6) (σ:St) (H:Hp) (Q:List V->Hp->Prop):Prop
 | mk (Z:Addr->Prop) (Γ:List Sl) (R:List D->Prop) (E:yn Z Γ σ H) (h:p Γ R) (q:∀ ds vs H',R ds->zD H H'->yK (zT Z H') vs ds->Q vs H'):wV p σ H Q
inductive ZV (p:ZU) (σ:St) (H:Hp) (Q:Option Int->Hp->Prop):Prop
 | mk (Z:Addr->Prop) (Γ:List Sl) (R:Option Int->Prop) (E:yn Z Γ σ H) (h:p Γ R) (q:∀ o H',R o->zD H H'->Q o H'):ZV p σ H Q
section
variable {X:Cx} {a b e c:Expr} {es:List Expr} {pos:Pos} {pa pb pc:yF} {qa qb:wq} {pl:y6}
theorem yO {t t':TE} (h:PE X e t) (w:∀ σ H Q,t' σ H Q->t σ H Q):PE X e t':=λpins s σ H Q I q=>h pins s σ H Q I (w σ H Q q)
theorem Ut {t t':TT} (h:PT X e t) (w:∀ σ H Q,t' σ H Q->t σ H Q):PT X e t':=λpins s σ H Q I q=>h pins s σ H Q I (w σ H Q q)
theorem pww {t t':TT} (h:PW X e t) (w:∀ σ H Q,t' σ H Q->t σ H Q):PW X e t':=λwh pins s σ H Q I q=>h wh pins s σ H Q I (w σ H Q q)
theorem paw {t t':TA} (h:PA X es t) (w:∀ σ H Q,t' σ H Q->t σ H Q):PA X es t':=λpos pins s σ H Q I q=>h pos pins s σ H Q I (w σ H Q q)
def zQz (i:Nat):yF:=λΓ R=>match slot Γ i with | .sh d=>R d | _=>False
theorem zA (i:Nat) {x:Str} {pos:Pos} (hN:X.N[i]? = some x:=by rfl) (hv:jp X.env.scope x:=by first | exact Or.inl rfl | exact Or.inr (Or.inl rfl) | exact Or.inr (Or.inr rfl)) (hd:(x == ("__debug__" : Str))=false:=by decide)
  (hcd:(x == ("__classdict__" : Str))=false:=by decide):PE X (.Name x pos) (tP (zQz i)):=yO (W1 hN hv hd hcd) λσ H Q ⟨Z,Γ,R,E,h,q⟩=>by
 unfold zQz at h
 cases s:slot Γ i with
 | sh d=>
  rw [s] at h
  obtain ⟨v,e,k⟩:=E.sh i d s
  exact ⟨v,e,q d v H h (zD.refl _) k⟩
 | _=>rw [s] at h; exact h.elim
def pC (d:D):yF:=λ_ R=>R d
theorem zF {i j pos}:PE X (.Constant (.int i) j pos) (tP (pC (.int i))):=yO vx λ_ H _ ⟨_,_,_,_,h,q⟩=>q _ _ H h (zD.refl _) (.int i)
theorem xk {i j pos}:PE X (.Constant (.bool i) j pos) (tP (pC (.bool i))):=yO kC λ_ H _ ⟨_,_,_,_,h,q⟩=>q _ _ H h (zD.refl _) (.bool i)
theorem ZW {j pos}:PE X (.Constant .none j pos) (tP (pC .non)):=yO zQv λ_ H _ ⟨_,_,_,_,h,q⟩=>q _ _ H h (zD.refl _) .non
theorem Uu {x:Str} {i:Int} {pos:Pos} (hg:Gl X x) (hm:∃ t,X.mg x=some (.int i t)) (hd:(x == ("__debug__" : Str))=false:=by decide):PE X (.Name x pos) (tP (pC (.int i))):=
 let ⟨_,e⟩:=hm
 yO (Qy (v:=.int i) hg e ⟨_,rfl⟩ hd) λ_ H _ ⟨_,_,_,_,h,q⟩=>q _ _ H h (zD.refl _) (.int i)
abbrev F2:=D->D->(D->Prop)->Prop
def xz (f:F2) (pa pb:yF):yF:=λΓ R=>pa Γ λx=>pb Γ λy=>f x y R
def wr (r:R2) (f:F2):Prop:=∀ (Z:Addr->Prop) (H:Hp) (x y:V) (a b:D) (R:D->Prop) (Q:VK),ZL Z H->DV (zT Z H) x a->DV (zT Z H) y b->f a b R->(∀ d v H',R d->zD H H'->DV (zT Z H') v d->Q v H')->r x y H Q
theorem Xj {r:R2} {f:F2} (o:wr r f) (σ:St) (H:Hp) (Q:VK):tP (xz f pa pb) σ H Q->kO r (tP pa) (tP pb) σ H Q:=λ⟨Z,Γ,R,E,h,q⟩=>
 ⟨Z,Γ,_,E,h,λd v H1 hd s1 hv=>⟨Z,Γ,_,E.same s1,hd,λd2 v2 H2 hd2 s2 hv2=>o Z H2 v v2 d d2 R Q (E.same (s1.trans s2)).zd (hv.same (yY s2)) hv2 hd2 λd3 v3 H3 h3 s3 hv3=>q d3 v3 H3 h3 (s1.trans (s2.trans s3)) hv3⟩⟩
theorem gS {op:Operator} {r:R2} {f:F2} (ho:yw X (binaryOp op) r) (o:wr r f) (ha:PE X a (tP pa)) (hb:PE X b (tP pb)):PE X (.BinOp a op b pos) (tP (xz f pa pb)):=yO (vH ho ha hb) (Xj o)
theorem Xk {op:CmpOp} {r:R2} {f:F2} (ho:yw X (compareOp op) r) (o:wr r f) (hm:behindInMarks op b=false) (ha:PE X a (tP pa)) (hb:PE X b (tP pb)):PE X (.Compare a [op] [b] pos) (tP (xz f pa pb)):=yO (UH ho ha hb hm) (Xj o)
theorem u7 {Z:Addr->Prop} {H:Hp} {p:Addr} {xs:List V} {ds:List D} (zd:ZL Z H) (hp:H p=none) (h:yK (zT Z H) xs ds):DV (zT Z (zW H p (.lst xs))) (.ref p) (.lst ds):=
 .lst ((xy (zd.new hp)).trans xI) (xT (yY (xA hp _)) h)
theorem ZX {Z:Addr->Prop} {H:Hp} {p:Addr} {xs:List V} {ds:List D} (zd:ZL Z H) (hp:H p=none) (h:yK (zT Z H) xs ds):DV (zT Z (zW H p (.tup xs))) (.ref p) (.tup ds):=
 .tup ((xy (zd.new hp)).trans xI) (xT (yY (xA hp _)) h)
theorem zL6 {Z:Addr->Prop} {H:Hp} {p:Addr} {xs:List V} {ds:List D} (zd:ZL Z H) (e:H p=some (.tup xs)) (h:yK (zT Z H) xs ds):DV (zT Z H) (.ref p) (.tup ds):=
 .tup ((xy λz=>by
  obtain ⟨u,e',n⟩:=zd p z
  rw [e] at e'
  cases e'
  exact n xs rfl).trans e) h
theorem DV.lst_inv {H:Hp} {v:V} {ds:List D} (h:DV H v (.lst ds)):∃ p xs,v=.ref p/\H p=some (.lst xs)/\yK H xs ds:=by cases h with | lst e h=>exact ⟨_,_,rfl,e,h⟩
theorem DV.tup_inv {H:Hp} {v:V} {ds:List D} (h:DV H v (.tup ds)):∃ p xs,v=.ref p/\H p=some (.tup xs)/\yK H xs ds:=by cases h with | tup e h=>exact ⟨_,_,rfl,e,h⟩
theorem few {n:Nat} (h:n<=1000):n<=sizeLine:=Nat.le_of_lt (uj h)
def qF:F2
 | .int i,.int j,R=>R (.int (i + j))
 | .lst as,.lst bs,R=>as.length + bs.length<=1000/\R (.lst (as++bs))
 | .tup as,.tup bs,R=>as.length + bs.length<=1000/\R (.tup (as++bs))
 | _,_,_=>False
theorem zPk:wr (λx y H Q=>uE (λi j=>.int (i + j)) x y H Q\/(km x y H Q\/Uk x y H Q)) qF:=λZ H x y a b R Q zd hx hy h q=>by
 unfold qF at h
 split at h
 ·cases hx; cases hy; exact .inl ⟨_,_,rfl,rfl,q _ _ H h (zD.refl _) (.int _)⟩
 ·obtain ⟨p,xs,rfl,e1,h1⟩:=hx.lst_inv
  obtain ⟨r,ys,rfl,e2,h2⟩:=hy.lst_inv
  have l1:=Paired.length h1
  have l2:=Paired.length h2
  exact .inr (.inl ⟨p,r,xs,ys,rfl,rfl,yC _ _ e1,yC _ _ e2,few (by omega),λn hn=>q _ _ _ h.2 (xA hn _) (u7 zd hn (ZD h1 h2))⟩)
 ·obtain ⟨p,xs,rfl,e1,h1⟩:=hx.tup_inv
  obtain ⟨r,ys,rfl,e2,h2⟩:=hy.tup_inv
  have l1:=Paired.length h1
  have l2:=Paired.length h2
  exact .inr (.inr ⟨p,r,xs,ys,rfl,rfl,yC _ _ e1,yC _ _ e2,few (by omega),λn H' s e=>q _ _ _ h.2 s (zL6 (zd.same s) e (xT (yY s) (ZD h1 h2)))⟩)
 ·exact h.elim
def qG:F2
 | .int i,.int j,R=>R (.int (i - j))
 | _,_,_=>False
theorem zOs {g:Int->Int->V} {k:Int->Int->D} {f:F2} (hg:∀ i j H,DV H (g i j) (k i j)) (hf:∀ a b R,f a b R->∃ i j,a=.int i/\b=.int j/\R (k i j)):wr (uE g) f:=λZ H x y a b R Q zd hx hy h q=>by
 obtain ⟨i,j,rfl,rfl,k⟩:=hf a b R h
 cases hx; cases hy
 exact ⟨_,_,rfl,rfl,q _ _ H k (zD.refl _) (hg i j _)⟩
theorem Uv {C:Int->Int->Prop} {g:Int->Int->V} {k:Int->Int->D} {f:F2} (hg:∀ i j H,DV H (g i j) (k i j)) (hf:∀ a b R,f a b R->∃ i j,a=.int i/\b=.int j/\C i j/\R (k i j)):wr (rI C g) f:=λZ H x y a b R Q zd hx hy h q=>by
 obtain ⟨i,j,rfl,rfl,c,k⟩:=hf a b R h
 cases hx; cases hy
 exact ⟨_,_,rfl,rfl,c,q _ _ H k (zD.refl _) (hg i j _)⟩
theorem zPe:wr (uE λi j=>.int (i - j)) qG:=zOs (k:=λi j=>.int (i - j)) (λ_ _ _=>.int _) λa b R h=>by
 unfold qG at h
 split at h
 ·exact ⟨_,_,rfl,rfl,h⟩
 ·exact h.elim
def qH:F2
 | .int i,.int j,R=>Bd 60000 i/\Bd 60000 j/\R (.int (i * j))
 | .lst [d],.int k,R=>0<=k/\k<=1000/\R (.lst (List.replicate k.toNat d))
 | _,_,_=>False
theorem ZY {α:Type} (x:α):∀ n:Nat,(List.replicate n [x]).flatten=List.replicate n x
 | 0=>rfl
 | n + 1=>by rw [List.replicate_succ,List.flatten_cons,ZY x n]; rfl
theorem zGo {α β:Type} {R:α->β->Prop} {x:α} {y:β} (h:R x y):∀ n:Nat,Paired R (List.replicate n x) (List.replicate n y)
 | 0=>.nil
 | n + 1=>.cons h (zGo h n)
theorem zPg:wr (λx y H Q=>rI XQ (λi j=>.int (i * j)) x y H Q\/ko x y H Q) qH:=λZ H x y a b R Q zd hx hy h q=>by
 unfold qH at h
 split at h
 ·cases hx; cases hy; exact .inl ⟨_,_,rfl,rfl,⟨h.1,h.2.1⟩,q _ _ H h.2.2 (zD.refl _) (.int _)⟩
 ·rename_i d k
  obtain ⟨p,xs,rfl,e1,h1⟩:=hx.lst_inv
  cases hy
  cases h1 with
  | @cons x _ _ _ h1 h2=>
  cases h2
  refine .inr ⟨p,_,_,rfl,rfl,yC _ _ e1,by omega,by omega,few (by rw [List.length_singleton]; omega),λn hn=>?_⟩
  rw [ZY]
  exact q _ _ _ h.2.2 (xA hn _) (u7 zd hn (zGo h1 _))
 ·exact h.elim
def Uw:F2
 | .int i,.int j,R=>j≠0/\Bd 8000 j/\R (.int (i.fdiv j))
 | _,_,_=>False
theorem zNz:wr (rI Kr λi j=>.int (i.fdiv j)) Uw:=Uv (k:=λi j=>.int (i.fdiv j)) (λ_ _ _=>.int _) λa b R h=>by
 unfold Uw at h
 split at h
 ·exact ⟨_,_,rfl,rfl,⟨h.1,h.2.1⟩,h.2.2⟩
 ·exact h.elim
def qI:F2
 | .int i,.int j,R=>j≠0/\R (.int (i.fmod j))
 | _,_,_=>False
theorem zPh:wr (rI (λ_ j=>j≠0) λi j=>.int (i.fmod j)) qI:=Uv (k:=λi j=>.int (i.fmod j)) (λ_ _ _=>.int _) λa b R h=>by
 unfold qI at h
 split at h
 ·exact ⟨_,_,rfl,rfl,h.1,h.2⟩
 ·exact h.elim
def qJ:F2
 | .int i,.int j,R=>jw i j/\R (.int (i ^ j.toNat))
 | _,_,_=>False
theorem zPf:wr (rI jw λi j=>.int (i ^ j.toNat)) qJ:=Uv (k:=λi j=>.int (i ^ j.toNat)) (λ_ _ _=>.int _) λa b R h=>by
 unfold qJ at h
 split at h
 ·exact ⟨_,_,rfl,rfl,h.1,h.2⟩
 ·exact h.elim
def wt (g:Int->Int->Bool):F2
 | .int i,.int j,R=>R (.bool (g i j))
 | _,_,_=>False
theorem gT {g:Int->Int->Bool}:wr (uE λi j=>.bl (g i j)) (wt g):=zOs (k:=λi j=>.bool (g i j)) (λ_ _ _=>.bool _) λa b R h=>by
 unfold wt at h
 split at h
 ·exact ⟨_,_,rfl,rfl,h⟩
 ·exact h.elim
theorem zr (ha:PE X a (tP pa)) (hb:PE X b (tP pb)):PE X (.BinOp a .Add b pos) (tP (xz qF pa pb)):=gS (kS.or (zQ7.or ZQ)) zPk ha hb
theorem xr (ha:PE X a (tP pa)) (hb:PE X b (tP pb)):PE X (.BinOp a .Sub b pos) (tP (xz qG pa pb)):=gS XA zPe ha hb
theorem xE (ha:PE X a (tP pa)) (hb:PE X b (tP pb)):PE X (.BinOp a .Mult b pos) (tP (xz qH pa pb)):=gS (gJ.or zQ1) zPg ha hb
theorem wu (ha:PE X a (tP pa)) (hb:PE X b (tP pb)):PE X (.BinOp a .FloorDiv b pos) (tP (xz Uw pa pb)):=gS zNy zNz ha hb
theorem xB (ha:PE X a (tP pa)) (hb:PE X b (tP pb)):PE X (.BinOp a .Mod b pos) (tP (xz qI pa pb)):=gS XB zPh ha hb
theorem u8 (ha:PE X a (tP pa)) (hb:PE X b (tP pb)):PE X (.BinOp a .Pow b pos) (tP (xz qJ pa pb)):=gS zQ2 zPf ha hb
theorem ZZ (ha:PE X a (tP pa)) (hb:PE X b (tP pb)):PE X (.Compare a [.Lt] [b] pos) (tP (xz (wt λi j=>decide (i < j)) pa pb)):=Xk KB gT (vy _) ha hb
theorem zQe (ha:PE X a (tP pa)) (hb:PE X b (tP pb)):PE X (.Compare a [.LtE] [b] pos) (tP (xz (wt λi j=>decide (i<=j)) pa pb)):=Xk kX gT (vy _) ha hb
theorem zQg (ha:PE X a (tP pa)) (hb:PE X b (tP pb)):PE X (.Compare a [.GtE] [b] pos) (tP (xz (wt λi j=>decide (j<=i)) pa pb)):=Xk KC gT (vy _) ha hb
def Za:D->(D->Prop)->Prop
 | .int i,R=>R (.int (-i))
 | _,_=>False
def Zb (f:D->(D->Prop)->Prop) (pa:yF):yF:=λΓ R=>pa Γ λx=>f x R
theorem xl (ha:PE X a (tP pa)):PE X (.UnaryOp .USub a pos) (tP (Zb Za pa)):=yO (kP zQF ha) λσ H Q ⟨Z,Γ,R,E,h,q⟩=>
 ⟨Z,Γ,_,E,h,λd v H1 hd s1 hv=>by
  unfold Za at hd
  split at hd
  ·cases hv; exact ⟨_,rfl,q _ _ H1 hd s1 (.int _)⟩
  ·exact hd.elim⟩
end
end Pu
namespace Pu
open PySem L2 Sh
mutual
def D.py:D->PyData
 | .int i=>.int i
 | .bool b=>.bool b
 | .non=>.none
 | .str x=>.str x
 | .scr _=>.none
 | .lst ds=>.list (wd ds)
 | .tup ds=>.tuple (wd ds)
 | .obj _ _ _=>.none
def wd:List D->List PyData
 | []=>[]
 | d :: ds=>d.py :: wd ds
end
def D.pl:Nat->D->Bool
 | 0,_=>false
 | _ + 1,.int _=>true
 | _ + 1,.bool _=>true
 | _ + 1,.non=>true
 | _ + 1,.str x=>PyData.strOk x
 | _ + 1,.scr _=>false
 | n + 1,.lst ds=>ds.all (D.pl n)
 | n + 1,.tup ds=>ds.all (D.pl n)
 | _ + 1,.obj ..=>false
structure DpO (n:Nat) (d:D):Prop where
 dp:∀ K H v,DV H v d->Dp K H v d.py
 lay:d.py.canLay0=true
 dep:d.py.depth<=n
theorem Ux {n:Nat}:∀ {ds:List D},(∀ d∈ds,DpO n d)->(∀ K H xs,yK H xs ds->uZ K H xs (wd ds))/\PyData.canLayAll0 (wd ds)=true/\PyData.depthAll (wd ds)<=n
 | [],_=>⟨λK H xs h=>by cases h; exact .nil,by simp [wd,PyData.canLayAll0],by simp [wd,PyData.depthAll]⟩
 | d :: ds,h=>by
  obtain ⟨h1,h2,h3⟩:=Ux (ds:=ds) λx m=>h x (List.mem_cons_of_mem _ m)
  have g:=h d List.mem_cons_self
  have l:=g.lay
  have p:=g.dep
  refine ⟨λK H xs q=>?_,by simp [wd,PyData.canLayAll0,l,h2],by simp only [wd,PyData.depthAll]; omega⟩
  cases q with
  | cons q r=>exact .cons (g.dp K H _ q) (h1 K H _ r)
theorem ub:∀ (n:Nat) (d:D),D.pl n d=true->DpO n d
 | 0,_,h=>by cases h
 | n + 1,.int i,_=>⟨λK H v h=>by cases h; exact .int i,by simp [D.py,PyData.canLay0],by simp [D.py,PyData.depth]⟩
 | n + 1,.bool i,_=>⟨λK H v h=>by cases h; exact .bl i,by simp [D.py,PyData.canLay0],by simp [D.py,PyData.depth]⟩
 | n + 1,.non,_=>⟨λK H v h=>by cases h; exact .non,by simp [D.py,PyData.canLay0],by simp [D.py,PyData.depth]⟩
 | n + 1,.str i,h=>⟨λK H v h=>by cases h; exact .str i,by simp only [D.py,PyData.canLay0]; exact h,by simp [D.py,PyData.depth]⟩
 | n + 1,.scr _,h=>by cases h
 | n + 1,.obj ..,h=>by cases h
 | n + 1,.lst ds,h=>by
  obtain ⟨h1,h2,h3⟩:=Ux (n:=n) (ds:=ds) λd m=>ub n d (List.all_eq_true.mp h d m)
  refine ⟨λK H v q=>?_,by simp [D.py,PyData.canLay0,h2],by simp only [D.py,PyData.depth]; omega⟩
  obtain ⟨p,xs,rfl,e,q⟩:=q.lst_inv
  exact .lst (zR.of e) (h1 K H _ q)
 | n + 1,.tup ds,h=>by
  obtain ⟨h1,h2,h3⟩:=Ux (n:=n) (ds:=ds) λd m=>ub n d (List.all_eq_true.mp h d m)
  refine ⟨λK H v q=>?_,by simp [D.py,PyData.canLay0,h2],by simp only [D.py,PyData.depth]; omega⟩
  obtain ⟨p,xs,rfl,e,q⟩:=q.tup_inv
  exact .tup (yS.of e) (h1 K H _ q)
theorem Uy:∀ ns:List Int,wd (ns.map D.int)=ns.map PyData.int
 | []=>rfl
 | n :: t=>by rw [List.map_cons,List.map_cons,wd,Uy t,D.py]
theorem qK (n:Nat) (ns:List Int):(ns.map D.int).all (D.pl (n + 1))=true:=List.all_eq_true.mpr λd m=>by
 obtain ⟨i,_,rfl⟩:=List.mem_map.mp m
 rfl
abbrev L (ns:List Int):D:=.lst (ns.map D.int)
abbrev U (ns:List Int):D:=.tup (ns.map D.int)
theorem Zc (ns ms:List Int):PyData.eqv (L ns).py (L ms).py=decide (ns=ms):=by
 show PyData.eqvAll (wd (ns.map D.int)) (wd (ms.map D.int))=_
 rw [Uy,Uy]
 exact K9 ns ms
theorem Zd (ds:List D):PyData.eqv (D.lst ds).py (D.lst []).py=ds.isEmpty:=by cases ds <;> rfl
section
variable {X:Cx} {a b e c:Expr} {es:List Expr} {pos:Pos} {pa pb pc:yF} {qa qb:wq} {pl:y6}
def Xl:F2
 | .int i,.int j,R=>R (.bool (decide (i=j)))
 | .bool i,.bool j,R=>R (.bool (i == j))
 | .lst as,.lst bs,R=>(D.lst as).pl 50=true/\(D.lst bs).pl 50=true/\R (.bool (PyData.eqv (D.lst as).py (D.lst bs).py))
 | .tup as,.tup bs,R=>(D.tup as).pl 50=true/\(D.tup bs).pl 50=true/\R (.bool (PyData.eqv (D.tup as).py (D.tup bs).py))
 | _,_,_=>False
theorem zOt {K:PySem.W.Frag}:wr (λx y H Q=>Q7 x y H Q\/ZG K x y H Q) Xl:=λZ H x y a b R Q zd hx hy h q=>by
 unfold Xl at h
 split at h
 ·cases hx; cases hy
  refine .inl ⟨rfl,?_⟩
  rw [XC,Bool.beq_eq_decide_eq]
  exact q _ _ H h (zD.refl _) (.bool _)
 ·cases hx; cases hy
  refine .inl ⟨rfl,?_⟩
  rw [XD]
  exact q _ _ H h (zD.refl _) (.bool _)
 ·have d1:=ub _ _ h.1
  have d2:=ub _ _ h.2.1
  have e1:=d1.dep
  have e2:=d2.dep
  exact .inr ⟨_,_,d1.dp K H _ (hx.same yC),d2.dp K H _ (hy.same yC),d1.lay,d2.lay,by omega,by omega,q _ _ H h.2.2 (zD.refl _) (.bool _)⟩
 ·have d1:=ub _ _ h.1
  have d2:=ub _ _ h.2.1
  have e1:=d1.dep
  have e2:=d2.dep
  exact .inr ⟨_,_,d1.dp K H _ (hx.same yC),d2.dp K H _ (hy.same yC),d1.lay,d2.lay,by omega,by omega,q _ _ H h.2.2 (zD.refl _) (.bool _)⟩
 ·exact h.elim
def u9:F2
 | .int i,.int j,R=>R (.bool (!decide (i=j)))
 | .bool i,.bool j,R=>R (.bool (i != j))
 | .lst as,.lst bs,R=>(D.lst as).pl 50=true/\(D.lst bs).pl 50=true/\R (.bool (!PyData.eqv (D.lst as).py (D.lst bs).py))
 | .tup as,.tup bs,R=>(D.tup as).pl 50=true/\(D.tup bs).pl 50=true/\R (.bool (!PyData.eqv (D.tup as).py (D.tup bs).py))
 | _,_,_=>False
theorem zQ8 {K:PySem.W.Frag}:wr (λx y H Q=>Q8 x y H Q\/∃ d e:PyData,Dp K H x d/\Dp K H y e/\d.canLay0=true/\e.canLay0=true/\d.depth<=60/\e.depth<=60/\Q (.bl (!PyData.eqv d e)) H) u9:=λZ H x y a b R Q zd hx hy h q=>by
 unfold u9 at h
 split at h
 ·cases hx; cases hy
  refine .inl ⟨rfl,?_⟩
  rw [XC,Bool.beq_eq_decide_eq]
  exact q _ _ H h (zD.refl _) (.bool _)
 ·cases hx; cases hy
  refine .inl ⟨rfl,?_⟩
  rw [XD]
  exact q _ _ H h (zD.refl _) (.bool _)
 ·have d1:=ub _ _ h.1
  have d2:=ub _ _ h.2.1
  have e1:=d1.dep
  have e2:=d2.dep
  exact .inr ⟨_,_,d1.dp K H _ (hx.same yC),d2.dp K H _ (hy.same yC),d1.lay,d2.lay,by omega,by omega,q _ _ H h.2.2 (zD.refl _) (.bool _)⟩
 ·have d1:=ub _ _ h.1
  have d2:=ub _ _ h.2.1
  have e1:=d1.dep
  have e2:=d2.dep
  exact .inr ⟨_,_,d1.dp K H _ (hx.same yC),d2.dp K H _ (hy.same yC),d1.lay,d2.lay,by omega,by omega,q _ _ H h.2.2 (zD.refl _) (.bool _)⟩
 ·exact h.elim
theorem uM (hu:X.A.units + 64 < cLine) (ha:PE X a (tP pa)) (hb:PE X b (tP pb)):PE X (.Compare a [.Eq] [b] pos) (tP (xz Xl pa pb)):=Xk (kU.or (K8 hu)) zOt (vy _) ha hb
def bD:D->(Bool->Prop)->Prop
 | .bool b,R=>R b
 | _,_=>False
def wW (pa:yF):wq:=λΓ R=>pa Γ λd=>bD d R
theorem zOf {t:TE} (w:∀ σ H Q,tP pa σ H Q->t σ H Q) (σ:St) (H:Hp) (Q:Bool->Hp->Prop):xU (wW pa) σ H Q->KD t σ H Q:=λ⟨Z,Γ,R,E,h,q⟩=>
 w _ _ _ ⟨Z,Γ,_,E,h,λd v H1 hd s1 hv=>by
  unfold bD at hd
  split at hd
  ·cases hv; exact ⟨_,rfl,q _ H1 hd s1⟩
  ·exact hd.elim⟩
theorem yc (ha:PE X e (tP pa)) (he:∀ whole,isTrue e X.env whole=(do let v <- whole; standAt e.pos; holding [v] (truthy v)):=by intro _; rfl):PT X e (xU (wW pa)):=Ut (zQh ha he) (zOf λ_ _ _ h=>h)
theorem gU {op:CmpOp} {r:R2} {f:F2} (ho:yw X (compareOp op) r) (o:wr r f) (hm:behindInMarks op b=false) (ha:PE X a (tP pa)) (hb:PE X b (tP pb)):PT X (.Compare a [op] [b] pos) (xU (wW (xz f pa pb))):=Ut (KE ho ha hb hm) (zOf (Xj o))
theorem vj (hu:X.A.units + 64 < cLine) (ha:PE X a (tP pa)) (hb:PE X b (tP pb)):PT X (.Compare a [.Eq] [b] pos) (xU (wW (xz Xl pa pb))):=gU (kU.or (K8 hu)) zOt (vy _) ha hb
theorem Xm (hu:X.A.units + 64 < cLine) (ha:PE X a (tP pa)) (hb:PE X b (tP pb)):PT X (.Compare a [.NotEq] [b] pos) (xU (wW (xz u9 pa pb))):=gU (kW.or (zQ3 hu)) zQ8 (vy _) ha hb
theorem Uz (ha:PE X a (tP pa)) (hb:PE X b (tP pb)):PT X (.Compare a [.Lt] [b] pos) (xU (wW (xz (wt λi j=>decide (i < j)) pa pb))):=gU KB gT (vy _) ha hb
theorem Ze (ha:PE X a (tP pa)) (hb:PE X b (tP pb)):PT X (.Compare a [.Gt] [b] pos) (xU (wW (xz (wt λi j=>decide (j < i)) pa pb))):=gU kY gT (vy _) ha hb
theorem Xn (ha:PE X a (tP pa)) (hb:PE X b (tP pb)):PT X (.Compare a [.GtE] [b] pos) (xU (wW (xz (wt λi j=>decide (j<=i)) pa pb))):=gU KC gT (vy _) ha hb
def wv (b:Bool) (A B:Prop):Prop:=(b=true->A)/\(b=false->B)
theorem wT {b:Bool} {A B:Prop} (e:b=true) (h:A):wv b A B:=⟨λ_=>h,λz=>nomatch e.symm.trans z⟩
theorem wF {b:Bool} {A B:Prop} (e:b=false) (h:B):wv b A B:=⟨λz=>(nomatch e.symm.trans z),λ_=>h⟩
theorem w2 {b:Bool} {A B:Prop} (h1:b=true->A) (h2:b=false->B):wv b A B:=⟨h1,h2⟩
def U0 (p q:wq):wq:=λΓ R=>p Γ λc=>wv c (q Γ R) (R false)
def pOr (p q:wq):wq:=λΓ R=>p Γ λc=>wv c (R true) (q Γ R)
def U1 (p:wq):wq:=λΓ R=>p Γ λc=>R (!c)
theorem zJm (ha:PT X a (xU qa)):PW X (.BoolOp .And [a] pos) (xU qa):=zPQ ha
theorem we (ha:PT X a (xU qa)):PW X (.BoolOp .Or [a] pos) (xU qa):=zQb ha
theorem zLo {ya:List Expr} (ha:PT X a (xU qa)) (hb:PW X (.BoolOp .And (b :: ya) pos) (xU qb)):PW X (.BoolOp .And (a :: b :: ya) pos) (xU (U0 qa qb)):=pww (zQc ha hb) λσ H Q ⟨Z,Γ,R,E,h,q⟩=>
 ⟨Z,Γ,_,E,h,λc H1 hc s1=>by
  cases c with
  | true=>exact ⟨Z,Γ,R,E.same s1,hc.1 rfl,λb H2 hb s2=>q b H2 hb (s1.trans s2)⟩
  | false=>exact q _ H1 (hc.2 rfl) s1⟩
theorem wI {ya:List Expr} (ha:PT X a (xU qa)) (hb:PW X (.BoolOp .Or (b :: ya) pos) (xU qb)):PW X (.BoolOp .Or (a :: b :: ya) pos) (xU (pOr qa qb)):=pww (kD ha hb) λσ H Q ⟨Z,Γ,R,E,h,q⟩=>
 ⟨Z,Γ,_,E,h,λc H1 hc s1=>by
  cases c with
  | true=>exact q _ H1 (hc.1 rfl) s1
  | false=>exact ⟨Z,Γ,R,E.same s1,hc.2 rfl,λb H2 hb s2=>q b H2 hb (s1.trans s2)⟩⟩
theorem xF (ha:PT X a (xU qa)):PT X (.UnaryOp .Not a pos) (xU (U1 qa)):=Ut (zQi ha) λσ H Q ⟨Z,Γ,R,E,h,q⟩=>⟨Z,Γ,_,E,h,λc H1 hc s1=>q _ H1 hc s1⟩
def Zf (p q:yF):yF:=λΓ R=>p Γ λd=>bD d λc=>wv c (q Γ R) (R (.bool false))
def Zg (p:yF):yF:=λΓ R=>p Γ λd=>bD d λc=>R (.bool !c)
theorem vk {op} (ha:PE X a (tP pa)):PE X (.BoolOp op [a] pos) (tP pa):=zQt ha
theorem wX {ya:List Expr} (ha:PE X a (tP pa)) (hb:PE X (.BoolOp .And (b :: ya) pos) (tP pb)):PE X (.BoolOp .And (a :: b :: ya) pos) (tP (Zf pa pb)):=yO (zQx ha hb) λσ H Q ⟨Z,Γ,R,E,h,q⟩=>
 ⟨Z,Γ,_,E,h,λd v H1 hd s1 hv=>by
  unfold bD at hd
  split at hd
  ·cases hv
   rename_i c
   refine ⟨c,rfl,?_⟩
   cases c with
   | true=>exact ⟨Z,Γ,R,E.same s1,hd.1 rfl,λb v H2 hb s2 k=>q b v H2 hb (s1.trans s2) k⟩
   | false=>exact q _ _ H1 (hd.2 rfl) s1 (.bool _)
  ·exact hd.elim⟩
theorem zQd (ha:PE X a (tP pa)):PE X (.UnaryOp .Not a pos) (tP (Zg pa)):=yO (zQu ha) λσ H Q ⟨Z,Γ,R,E,h,q⟩=>
 ⟨Z,Γ,_,E,h,λd v H1 hd s1 hv=>by
  unfold bD at hd
  split at hd
  ·cases hv; exact ⟨_,rfl,q _ _ H1 hd s1 (.bool _)⟩
  ·exact hd.elim⟩
def U2 (t:wq) (p q:yF):yF:=λΓ R=>t Γ λc=>wv c (p Γ R) (q Γ R)
theorem zNo (hc:PT X c (xU qa)) (ha:PE X a (tP pa)) (hb:PE X b (tP pb)):PE X (.IfExp c a b pos) (tP (U2 qa pa pb)):=yO (zNw hc ha hb) λσ H Q ⟨Z,Γ,R,E,h,q⟩=>
 ⟨Z,Γ,_,E,h,λc H1 hd s1=>by
  cases c with
  | true=>exact ⟨Z,Γ,R,E.same s1,hd.1 rfl,λb v H2 hb s2 k=>q b v H2 hb (s1.trans s2) k⟩
  | false=>exact ⟨Z,Γ,R,E.same s1,hd.2 rfl,λb v H2 hb s2 k=>q b v H2 hb (s1.trans s2) k⟩⟩
def U3:y6:=λ_ R=>R []
def Zh (pa:yF) (pl:y6):y6:=λΓ R=>pa Γ λd=>pl Γ λds=>R (d :: ds)
theorem zC:PA X [] (wV U3):=paw yE λσ H Q ⟨_,_,_,_,h,q⟩=>q _ _ H h (zD.refl _) .nil
theorem zB (ha:PE X e (tP pa)) (hr:PA X es (wV pl)) (hs:starEach (e :: es) X.env=(false,eval e X.env) :: starEach es X.env:=by rfl):PA X (e :: es) (wV (Zh pa pl)):=paw (zi ha hr hs) λσ H Q ⟨Z,Γ,R,E,h,q⟩=>
 ⟨Z,Γ,_,E,h,λd v H1 hd s1 hv=>⟨Z,Γ,_,E.same s1,hd,λds vs H2 hds s2 hvs=>q _ _ H2 hds (s1.trans s2) (.cons (hv.same (yY s2)) hvs)⟩⟩
def U4 (pl:y6):yF:=λΓ R=>pl Γ λds=>ds.length<=1000/\R (.tup ds)
def U5 (pl:y6):yF:=λΓ R=>pl Γ λds=>ds.length<=1000/\R (.lst ds)
theorem x8 {x1} (ha:PA X es (wV pl)):PE X (.Tuple es x1 pos) (tP (U4 pl)):=yO (KJ ha) λσ H Q ⟨Z,Γ,R,E,h,q⟩=>
 ⟨Z,Γ,_,E,h,λds vs H1 hd s1 hv=>⟨few (by rw [Paired.length hv]; exact hd.1),λp hp=>q _ _ _ hd.2 (s1.trans (xA hp _)) (ZX (E.same s1).zd hp hv)⟩⟩
theorem y8 (ha:PA X es (wV pl)):PE X (.List es pos) (tP (U5 pl)):=yO (KL ha) λσ H Q ⟨Z,Γ,R,E,h,q⟩=>
 ⟨Z,Γ,_,E,h,λds vs H1 hd s1 hv=>⟨few (by rw [Paired.length hv]; exact hd.1),λp hp=>q _ _ _ hd.2 (s1.trans (xA hp _)) (u7 (E.same s1).zd hp hv)⟩⟩
theorem Xo {α β:Type} {R:α->β->Prop} {xs:List α} {ys:List β} (h:Paired R xs ys) {i:Int} {y:β} (e:yL ys i=some y):∃ x,yL xs i=some x/\R x y:=by
 unfold yL at e |-
 rw [Paired.length h]
 cases k:wG ys.length i with
 | none=>rw [k] at e; cases e
 | some j=>
  rw [k] at e
  exact go h e
where
 go:∀ {xs:List α} {ys:List β} {j:Nat} {y:β},Paired R xs ys->ys[j]? = some y->∃ x,xs[j]? = some x/\R x y
  | _,_,_,_,.nil,e=>by simp at e
  | _,_,0,_,.cons r _,e=>by simp at e; subst e; exact ⟨_,rfl,r⟩
  | _,_,j + 1,y,.cons _ t,e=>by
   obtain ⟨x,h1,h2⟩:=go (j:=j) (y:=y) t (by simpa using e)
   exact ⟨x,by simpa using h1,h2⟩
def U6:F2
 | .lst ds,.int i,R=>∃ d,yL ds i=some d/\R d
 | .tup ds,.int i,R=>∃ d,yL ds i=some d/\R d
 | .scr ns,.int i,R=>∃ n,yL ns i=some n/\R (.int n)
 | _,_,_=>False
theorem uk {α β:Type} (f:α->β) (xs:List α) (i:Int):yL (xs.map f) i=(yL xs i).map f:=by
 unfold yL
 rw [List.length_map]
 cases wG xs.length i with
 | none=>rfl
 | some j=>exact List.getElem?_map ..
theorem zQ9 {K:PySem.W.Frag}:wr (ZM K) U6:=λZ H x y a b R Q zd hx hy h q=>by
 unfold U6 at h
 split at h
 ·obtain ⟨p,xs,rfl,e1,h1⟩:=hx.lst_inv
  cases hy
  obtain ⟨d,hd,hR⟩:=h
  obtain ⟨v,hv,hh⟩:=Xo h1 hd
  exact ⟨p,xs,_,v,rfl,rfl,.inr (zR.of (yC _ _ e1)),hv,q _ _ H hR (zD.refl _) hh⟩
 ·obtain ⟨p,xs,rfl,e1,h1⟩:=hx.tup_inv
  cases hy
  obtain ⟨d,hd,hR⟩:=h
  obtain ⟨v,hv,hh⟩:=Xo h1 hd
  exact ⟨p,xs,_,v,rfl,rfl,.inl (yS.of (yC _ _ e1)),hv,q _ _ H hR (zD.refl _) hh⟩
 ·cases hy
  cases hx with
  | scr e=>
  obtain ⟨n,hn,hR⟩:=h
  exact ⟨_,_,_,.int n,rfl,rfl,.inr (.inl (Xg yC e)),by rw [uk,hn]; rfl,q _ _ H hR (zD.refl _) (.int n)⟩
 ·exact h.elim
theorem zV (ha:PE X a (tP pa)) (hb:PE X b (tP pb)) (hs:UP b):PE X (.Subscript a b pos) (tP (xz U6 pa pb)):=yO (uF zPp ha hb hs) (Xj zQ9)
theorem Zi {X:Cx} {e:Option Expr} {t t':TO} (h:PO X e t) (w:∀ σ H Q,t' σ H Q->t σ H Q):PO X e t':=λpins s σ H Q I q=>h pins s σ H Q I (w σ H Q q)
def zPa:ZU:=λ_ R=>R none
def iD:D->(Option Int->Prop)->Prop
 | .int i,R=>R (some i)
 | _,_=>False
def Zj (pa:yF):ZU:=λΓ R=>pa Γ λd=>iD d R
theorem xN:PO X none (ZV zPa):=Zi zPT λσ H Q ⟨_,_,_,_,h,q⟩=>q _ H h (zD.refl _)
theorem xO (h:PE X e (tP pa)):PO X (some e) (ZV (Zj pa)):=Zi (zPS h) λσ H Q ⟨Z,Γ,R,E,h,q⟩=>
 ⟨Z,Γ,_,E,h,λd v H1 hd s1 hv=>by
  unfold iD at hd
  split at hd
  ·cases hv; exact ⟨_,rfl,q _ H1 hd s1⟩
  ·exact hd.elim⟩
def zf {α:Type} (xs:List α) (lo hi:Option Int):List α:=(xs.drop (HT.sIx xs.length 0 lo)).take (HT.sIx xs.length xs.length hi - HT.sIx xs.length 0 lo)
theorem zL1 {α β:Type} {R:α->β->Prop}:∀ {xs:List α} {ys:List β} (n:Nat),Paired R xs ys->Paired R (xs.take n) (ys.take n)
 | _,_,0,_=>.nil
 | _,_,_ + 1,.nil=>.nil
 | _,_,n + 1,.cons h t=>.cons h (zL1 n t)
theorem zL2 {α β:Type} {R:α->β->Prop}:∀ {xs:List α} {ys:List β} (n:Nat),Paired R xs ys->Paired R (xs.drop n) (ys.drop n)
 | _,_,0,h=>h
 | _,_,_ + 1,.nil=>.nil
 | _,_,n + 1,.cons _ t=>zL2 n t
theorem zGq {α β:Type} {R:α->β->Prop} {xs:List α} {ys:List β} (h:Paired R xs ys) (lo hi:Option Int):Paired R (zf xs lo hi) (zf ys lo hi):=by
 unfold zf
 rw [Paired.length h]
 exact zL1 _ (zL2 _ h)
def slD:D->Option Int->Option Int->(D->Prop)->Prop
 | .lst ds,lo,hi,R=>R (.lst (zf ds lo hi))
 | .tup ds,lo,hi,R=>R (.tup (zf ds lo hi))
 | _,_,_,_=>False
def pSl (pa:yF) (po qo:ZU):yF:=λΓ R=>pa Γ λd=>po Γ λl=>qo Γ λu=>slD d l u R
theorem zQR {X:Cx} {r r':V->Option Int->Option Int->Hp->VK->Prop} (h:jy X r) (h':jy X r'):jy X (λx l u H Q=>r x l u H Q\/r' x l u H Q):=λpins s σ H x v vl vu lo hi sl Q I r1 r2 r3 r4 q=>
 q.elim (h pins s σ H x v vl vu lo hi sl Q I r1 r2 r3 r4) (h' pins s σ H x v vl vu lo hi sl Q I r1 r2 r3 r4)
theorem xP {lo hi:Option Expr} {po qo:ZU} {p2:Pos} (ha:PE X a (tP pa)) (hl:PO X lo (ZV po)) (hu:PO X hi (ZV qo)):PE X (.Subscript a (.Slice lo hi none p2) pos) (tP (pSl pa po qo)):=yO (zNt (zQR zPM zOD) ha hl hu) λσ H Q ⟨Z,Γ,R,E,h,q⟩=>
 ⟨Z,Γ,_,E,h,λd v H1 hd s1 hv=>⟨Z,Γ,_,E.same s1,hd,λl H2 hl s2=>⟨Z,Γ,_,E.same (s1.trans s2),hl,λu H3 hu s3=>by
  have s:=s1.trans (s2.trans s3)
  have hv:=hv.same (yY (s2.trans s3))
  have zd:=(E.same s).zd
  unfold slD at hu
  split at hu
  ·obtain ⟨p,xs,rfl,e1,h1⟩:=hv.lst_inv
   exact .inl ⟨p,xs,rfl,zR.of (yC _ _ e1),λn hn=>q _ _ _ hu (s.trans (xA hn _)) (u7 zd hn (zGq h1 _ _))⟩
  ·obtain ⟨p,xs,rfl,e1,h1⟩:=hv.tup_inv
   exact .inr ⟨p,xs,rfl,yC _ _ e1,λn H' s' e=>q _ _ _ hu (s.trans s') (zL6 (zd.same s') e (xT (yY s') (zGq h1 _ _)))⟩
  ·exact hu.elim⟩⟩⟩
abbrev FL:=List D->(D->Prop)->Prop
def uN (r:List V->Hp->VK->Prop) (f:FL):Prop:=∀ (Z:Addr->Prop) (H:Hp) (vs:List V) (ds:List D) (R:D->Prop) (Q:VK),ZL Z H->yK (zT Z H) vs ds->f ds R->(∀ d v H',R d->zD H H'->DV (zT Z H') v d->Q v H')->r vs H Q
def jd (f:FL) (pl:y6):yF:=λΓ R=>pl Γ λds=>f ds R
theorem zLT {r:List V->Hp->VK->Prop} {f:FL} (o:uN r f) (σ:St) (H:Hp) (Q:VK):tP (jd f pl) σ H Q->ka r (wV pl) σ H Q:=λ⟨Z,Γ,R,E,h,q⟩=>
 ⟨Z,Γ,_,E,h,λds vs H1 hd s1 hv=>o Z H1 vs ds R Q (E.same s1).zd hv hd λd v H2 h2 s2 hv2=>q d v H2 h2 (s1.trans s2) hv2⟩
theorem zy {x:Str} {id:String} {p:Pos} {r:List V->Hp->VK->Prop} {f:FL} (hc:vL X (.builtin id) r) (o:uN r f) (hg:Gl X x) (hm:X.mg x=none) (hv:bootBuiltins x=some (.builtin id)) (ha:PA X (e :: es) (wV pl)) (hn:x≠"__name__":=by decide) (hdb:(x == ("__debug__" : Str))=false:=by decide)
  (he:starEach (e :: es) X.env=(false,eval e X.env) :: starEach es X.env:=by rfl) (hpl:(backTo pos (starEach es X.env)).any (·.1)=false:=by rfl):PE X (.Call (.Name x p) (e :: es) [] pos) (tP (jd f pl)):=yO (xi hc hg hm hv ha hn hdb he hpl) (zLT o)
theorem xV {x:Str} {T:String} {p:Pos} {r:List V->Hp->VK->Prop} {f:FL} (hc:vL X (.type T) r) (o:uN r f) (hg:Gl X x) (hm:X.mg x=none) (hv:bootBuiltins x=some (.type T)) (ha:PA X (e :: es) (wV pl)) (hn:x≠"__name__":=by decide) (hdb:(x == ("__debug__" : Str))=false:=by decide)
  (he:starEach (e :: es) X.env=(false,eval e X.env) :: starEach es X.env:=by rfl) (hpl:(backTo pos (starEach es X.env)).any (·.1)=false:=by rfl):PE X (.Call (.Name x p) (e :: es) [] pos) (tP (jd f pl)):=yO (UN hc hg hm hv ha hn hdb he hpl) (zLT o)
def Zk:FL
 | [.lst ds],R=>R (.int ds.length)
 | [.tup ds],R=>R (.int ds.length)
 | [.scr ns],R=>R (.int ns.length)
 | _,_=>False
theorem xC {H:Hp} {vs:List V} {d:D} (h:yK H vs [d]):∃ v,vs=[v]/\DV H v d:=by
 cases h with
 | cons h t=>cases t; exact ⟨_,rfl,h⟩
theorem uc {H:Hp} {vs:List V} {d e:D} (h:yK H vs [d,e]):∃ v w,vs=[v,w]/\DV H v d/\DV H w e:=by
 cases h with
 | cons h t=>obtain ⟨w,rfl,k⟩:=xC t; exact ⟨_,_,rfl,h,k⟩
theorem yo {K:PySem.W.Frag}:uN (λxs H Q=>∃ p ys,xs=[.ref p]/\(zR K H p ys\/yS K H p ys)/\Q (.int ys.length) H) Zk:=λZ H vs ds R Q zd hv h q=>by
 unfold Zk at h
 split at h
 ·obtain ⟨v,rfl,hw⟩:=xC hv
  obtain ⟨p,xs,rfl,e1,h1⟩:=hw.lst_inv
  exact ⟨p,xs,rfl,.inl (zR.of (yC _ _ e1)),by rw [Paired.length h1]; exact q _ _ H h (zD.refl _) (.int _)⟩
 ·obtain ⟨v,rfl,hw⟩:=xC hv
  obtain ⟨p,xs,rfl,e1,h1⟩:=hw.tup_inv
  exact ⟨p,xs,rfl,.inr (yS.of (yC _ _ e1)),by rw [Paired.length h1]; exact q _ _ H h (zD.refl _) (.int _)⟩
 ·obtain ⟨v,rfl,hw⟩:=xC hv
  cases hw with
  | scr e=>exact ⟨_,_,rfl,.inl (.inl (Xg yC e)),by rw [List.length_map]; exact q _ _ H h (zD.refl _) (.int _)⟩
 ·exact h.elim
def zRE:FL
 | [.lst ds],R=>R (.lst ds)
 | [.tup ds],R=>R (.lst ds)
 | _,_=>False
theorem v6 {K:PySem.W.Frag}:uN (λxs H Q=>∃ p ys,xs=[.ref p]/\(zR K H p ys\/yS K H p ys)/\∀ l,H l=none->Q (.ref l) (zW H l (.lst ys))) zRE:=λZ H vs ds R Q zd hv h q=>by
 unfold zRE at h
 split at h
 ·obtain ⟨v,rfl,hw⟩:=xC hv
  obtain ⟨p,xs,rfl,e1,h1⟩:=hw.lst_inv
  exact ⟨p,xs,rfl,.inl (zR.of (yC _ _ e1)),λl hl=>q _ _ _ h (xA hl _) (u7 zd hl h1)⟩
 ·obtain ⟨v,rfl,hw⟩:=xC hv
  obtain ⟨p,xs,rfl,e1,h1⟩:=hw.tup_inv
  exact ⟨p,xs,rfl,.inr (yS.of (yC _ _ e1)),λl hl=>q _ _ _ h (xA hl _) (u7 zd hl h1)⟩
 ·exact h.elim
def Zl:FL
 | [.lst ds],R=>R (.tup ds)
 | [.tup ds],R=>R (.tup ds)
 | _,_=>False
theorem ud {K:PySem.W.Frag}:uN (λxs H Q=>∃ p ys,xs=[.ref p]/\((zR K H p ys/\∀ l,H l=none->Q (.ref l) (zW H l (.tup ys)))\/(yS K H p ys/\Q (.ref p) H))) Zl:=λZ H vs ds R Q zd hv h q=>by
 unfold Zl at h
 split at h
 ·obtain ⟨v,rfl,hw⟩:=xC hv
  obtain ⟨p,xs,rfl,e1,h1⟩:=hw.lst_inv
  exact ⟨p,xs,rfl,.inl ⟨zR.of (yC _ _ e1),λl hl=>q _ _ _ h (xA hl _) (ZX zd hl h1)⟩⟩
 ·obtain ⟨v,rfl,hw⟩:=xC hv
  obtain ⟨p,xs,rfl,e1,h1⟩:=hw.tup_inv
  exact ⟨p,xs,rfl,.inr ⟨yS.of (yC _ _ e1),q _ _ _ h (zD.refl _) hw⟩⟩
 ·exact h.elim
def Zm:FL
 | [.lst ds],R=>∃ ns:List Int,ds=ns.map D.int/\R (.int ns.sum)
 | _,_=>False
theorem Zn {K:PySem.W.Frag}:uN (λxs H Q=>∃ (p:Addr) (ns:List Int),xs=[.ref p]/\zR K H p (ns.map V.int)/\Q (.int ns.sum) H) Zm:=λZ H vs ds R Q zd hv h q=>by
 unfold Zm at h
 split at h
 ·obtain ⟨v,rfl,hw⟩:=xC hv
  obtain ⟨p,xs,rfl,e1,h1⟩:=hw.lst_inv
  obtain ⟨ns,rfl,h⟩:=h
  cases Xh h1
  exact ⟨p,ns,rfl,zR.of (yC _ _ e1),q _ _ H h (zD.refl _) (.int _)⟩
 ·exact h.elim
def Zo:FL
 | [.lst ds],R=>∃ bs:List Bool,ds=bs.map D.bool/\R (.bool (bs.all id))
 | _,_=>False
theorem vX {K:PySem.W.Frag}:uN (λxs H Q=>∃ (p:Addr) (bs:List Bool),xs=[V.ref p]/\zR K H p (bs.map V.bl)/\Q (V.bl (bs.all id)) H) Zo:=λZ H vs ds R Q zd hv h q=>by
 unfold Zo at h
 split at h
 ·obtain ⟨v,rfl,hw⟩:=xC hv
  obtain ⟨p,xs,rfl,e1,h1⟩:=hw.lst_inv
  obtain ⟨ns,rfl,h⟩:=h
  cases zId h1
  exact ⟨p,ns,rfl,zR.of (yC _ _ e1),q _ _ H h (zD.refl _) (.bool _)⟩
 ·exact h.elim
def Zq:FL
 | [.int i,.int j],R=>R (.int (max i j))
 | _,_=>False
theorem Xp:uN (λxs H Q=>∃ i j,xs=[.int i,.int j]/\Q (.int (if j > i then j else i)) H) Zq:=λZ H vs ds R Q zd hv h q=>by
 unfold Zq at h
 split at h
 ·rename_i i j
  obtain ⟨v,w,rfl,hx,hy⟩:=uc hv
  cases hx; cases hy
  refine ⟨_,_,rfl,?_⟩
  have e:(if j > i then j else i)=max i j:=by rw [Int.max_def]; split <;> split <;> omega
  rw [e]
  exact q _ _ H h (zD.refl _) (.int _)
 ·exact h.elim
def Zr:FL
 | [.int i,.int j],R=>R (.int (min i j))
 | _,_=>False
theorem zM1:uN (λxs H Q=>∃ i j,xs=[.int i,.int j]/\Q (.int (if j < i then j else i)) H) Zr:=λZ H vs ds R Q zd hv h q=>by
 unfold Zr at h
 split at h
 ·rename_i i j
  obtain ⟨v,w,rfl,hx,hy⟩:=uc hv
  cases hx; cases hy
  refine ⟨_,_,rfl,?_⟩
  have e:(if j < i then j else i)=min i j:=by rw [Int.min_def]; split <;> split <;> omega
  rw [e]
  exact q _ _ H h (zD.refl _) (.int _)
 ·exact h.elim
def Zs:FL
 | [.int i],R=>R (.int i)
 | [.bool b],R=>R (.int (if b=true then 1 else 0))
 | _,_=>False
theorem zM2:uN (λxs H Q=>(∃ i,xs=[.int i]/\Q (.int i) H)\/∃ k,xs=[.bl k]/\Q (.int (if k then 1 else 0)) H) Zs:=λZ H vs ds R Q zd hv h q=>by
 unfold Zs at h
 split at h
 ·obtain ⟨v,rfl,hw⟩:=xC hv
  cases hw
  exact .inl ⟨_,rfl,q _ _ H h (zD.refl _) (.int _)⟩
 ·obtain ⟨v,rfl,hw⟩:=xC hv
  cases hw
  exact .inr ⟨_,rfl,q _ _ H h (zD.refl _) (.int _)⟩
 ·exact h.elim
end
end Pu
namespace Pu
open PySem L2 Sh
def setN:St->List Nat->List V->St
 | σ,j :: js,v :: vs=>setN (σ.set j (some v)) js vs
 | σ,_,_=>σ
def Xq:List Sl->List Nat->List D->List Sl
 | Γ,j :: js,d :: ds=>Xq (yH Γ j (.sh d)) js ds
 | Γ,_,_=>Γ
def ul:Option (List D)->(List D->Prop)->Prop
 | some os,k=>k os
 | none,_=>False
theorem Zu {o:Option (List D)} {k:List D->Prop} (h:ul o k):∃ os,o=some os/\k os:=by
 cases o with
 | none=>exact h.elim
 | some os=>exact ⟨os,rfl,h⟩
inductive tG (js:List Nat) (po:D->Option (List D)) (v:V) (σ:St) (H:Hp) (Q:St->Hp->Prop):Prop
 | mk (Z:Addr->Prop) (d:D) (os:List D) (hv:DV (zT Z H) v d) (ho:po d=some os) (q:∀ vs,yK (zT Z H) vs os->Q (setN σ js vs) H):tG js po v σ H Q
inductive tGs (js:List Nat) (po:List D->Option (List D)) (us:List V) (σ:St) (H:Hp) (Q:St->Hp->Prop):Prop
 | mk (Z:Addr->Prop) (ds os:List D) (hv:yK (zT Z H) us ds) (ho:po ds=some os) (q:∀ vs,yK (zT Z H) vs os->Q (setN σ js vs) H):tGs js po us σ H Q
structure Xr (X:Cx) (es:List Expr) (js:List Nat) (po:List D->Option (List D)) (n:Nat):Prop where
 g:q9 X es (tGs js po)
 l:∀ ds os,po ds=some os->ds.length=n
 k:∀ ds os,po ds=some os->os.length=js.length
section
variable {X:Cx} {pos:Pos}
def po1:D->Option (List D):=λd=>some [d]
theorem zq (i:Nat) {x:Str} (hN:X.N.Nodup) (hi:X.N[i]? = some x) (hx:jP X.env.scope x) (hf:X.fn x=true\/X.env.scope.names.lookup x=some .local:=by first | exact .inl rfl | exact .inr rfl | assumption):PG X (.Name x pos) (tG [i] po1):=
 λpins s σ H v u Q I r ⟨_,_,_,hv,ho,q⟩=>uD hN hi hx hf pins s σ H v u Q I r (by
  cases ho
  exact q [v] (.cons hv .nil))
def zQk:List D->Option (List D)
 | []=>some []
 | _=>none
def zOm (po:List D->Option (List D)):List D->Option (List D)
 | d :: ds=>(po ds).map (d :: ·)
 | []=>none
def Xs (po:List D->Option (List D)):D->Option (List D)
 | .tup ds=>po ds
 | .lst ds=>po ds
 | _=>none
theorem wJ:Xr X [] [] zQk 0 where
 g:=λpins s σ H vs us Q I r ⟨_,ds,os,hv,ho,q⟩=>by
  cases ds with
  | nil=>cases hv; exact Q2 pins s σ H [] us Q I r ⟨rfl,q [] (by cases ho; exact .nil)⟩
  | cons=>cases ho
 l:=λds os h=>by cases ds with | nil=>rfl | cons=>cases h
 k:=λds os h=>by cases ds with | nil=>cases h; rfl | cons=>cases h
theorem zw (i:Nat) {x:Str} {es:List Expr} {js:List Nat} {po:List D->Option (List D)} {n:Nat} (hN:X.N.Nodup) (hi:X.N[i]? = some x) (hx:jP X.env.scope x) (h:Xr X es js po n)
  (hs:(assignEach (.Name x pos :: es) X.env).map (·.2)=assign (.Name x pos) X.env :: (assignEach es X.env).map (·.2):=by rfl) (hf:X.fn x=true\/X.env.scope.names.lookup x=some .local:=by first | exact .inl rfl | exact .inr rfl | assumption):Xr X (.Name x pos :: es) (i :: js) (zOm po) (n + 1) where
 g:=λpins s σ H vs us Q I r ⟨Z,ds,os,hv,ho,q⟩=>by
  cases hv with
  | nil=>cases ho
  | @cons v d vt dt hv ht=>
   change (po dt).map (d :: ·)=some os at ho
   cases e:po dt with
   | none=>rw [e] at ho; cases ho
   | some os'=>
    rw [e] at ho
    cases ho
    exact UA (uD hN hi hx hf) h.g hs pins s σ H _ us Q I r ⟨v,vt,rfl,Z,dt,os',ht,e,λvs hvs=>q (v :: vs) (.cons hv hvs)⟩
 l:=λds os q=>by
  cases ds with
  | nil=>cases q
  | cons d dt=>
   change (po dt).map (d :: ·)=some os at q
   cases e:po dt with
   | none=>rw [e] at q; cases q
   | some os'=>rw [List.length_cons,h.l dt os' e]
 k:=λds os q=>by
  cases ds with
  | nil=>cases q
  | cons d dt=>
   change (po dt).map (d :: ·)=some os at q
   cases e:po dt with
   | none=>rw [e] at q; cases q
   | some os'=>rw [e] at q; cases q; rw [List.length_cons,List.length_cons,h.k dt os' e]
theorem xu {H:Hp} {vs:List V} {ds:List D} (h:yK H vs ds):vs.length=ds.length:=Paired.length h
theorem qL {po:List D->Option (List D)} {js:List Nat} (h:∀ ds os,po ds=some os->os.length=js.length):∀ d os,Xs po d=some os->os.length=js.length:=λd os q=>by
 unfold Xs at q
 split at q
 ·exact h _ _ q
 ·exact h _ _ q
 ·cases q
theorem wK {es:List Expr} {js:List Nat} {po:List D->Option (List D)} {n k:Nat} (hc:X.calm=true) (h:Xr X es js po n) (hn:(assignEach es X.env).length=n:=by rfl) (hst:(assignEach es X.env).findIdx? (·.1)=none:=by rfl):PG X (.Tuple es k pos) (tG js (Xs po)):=
 λpins s σ H v u Q I r ⟨Z,d,os,hv,ho,q⟩=>by
  unfold Xs at ho
  split at ho
  ·obtain ⟨p,xs,rfl,e,hx⟩:=hv.tup_inv
   exact Q3 hc h.g hn hst pins s σ H _ u Q I r ⟨p,xs,rfl,yS.of (yC _ _ e),by rw [xu hx]; exact h.l _ _ ho,Z,_,os,hx,ho,q⟩
  ·obtain ⟨p,xs,rfl,e,hx⟩:=hv.lst_inv
   exact zQs hc h.g hn hst pins s σ H _ u Q I r ⟨p,xs,rfl,zR.of (yC _ _ e),by rw [xu hx]; exact h.l _ _ ho,Z,_,os,hx,ho,q⟩
  ·cases ho
end
def Wk (Z:Addr->Prop) (J:It) (H:Hp) (ds:List D):Prop:=∀ i Z' H',zD (zT Z H) (zT Z' H')->ZL Z' H'->(∀ d,ds[i]? = some d->J.go i H'/\∀ x H'',J.yld i H' x H''->zD H' H''/\DV (zT Z' H'') x d)/\(i=ds.length->J.stop i H')
inductive um (p:y6) (σ:St) (H:Hp) (Q:It->Hp->Prop):Prop
 | mk (Z:Addr->Prop) (Γ:List Sl) (R:List D->Prop) (E:yn Z Γ σ H) (h:p Γ R) (q:∀ ds J H',R ds->zD H H'->Wk Z J H' ds->Q J H'):um p σ H Q
theorem je {α β:Type} {R:α->β->Prop} {xs:List α} {ys:List β} (h:Paired R xs ys) {j:Nat} {y:β} (e:ys[j]? = some y):∃ x,xs[j]? = some x/\R x y:=Xo.go h e
section
variable {X:Cx} {tg e e1 e2:Expr} {pos:Pos} {pa:yF} {pl:y6}
theorem Zv {w w':TI} (h:PI X tg e w) (k:∀ σ H R,w' σ H R->w σ H R):PI X tg e w':=λpins s σ H R I q=>h pins s σ H R I (k σ H R q)
def U7 (K:PySem.W.Frag) (tl:TE):TI:=λσ H R=>tl σ H λx H1=>(∃ a,x=.ref a/\(∃ xs,zR K H1 a xs)/\R (jR K a) H1)\/∃ a,x=.ref a/\(∃ xs,yS K H1 a xs)/\R (UD K a) H1
theorem zQr {l:Expr} {tl:TE} (hl:PE X l tl):PI X tg l (U7 X.K tl):=by
 intro pins s σ H R I h
 refine zk (hl pins s σ H _ I h) λv s1 ⟨x,H1,I1,r1,q1⟩=>?_
 rcases q1 with ⟨a,e,⟨xs,hq⟩,q⟩ | ⟨a,e,⟨xs,hq⟩,q⟩
 ·subst e
  cases r1
  obtain ⟨its,rv,p,hz⟩:=I1.list hq
  refine PySem.wpAny_pyIter_list p.isList ?_
  refine ⟨s1.heap.objs.size,[s1.heap.objs.size],_,_,H1,rfl,I1.kept (t':=s1.toks) λb o e=>Heap.get?_push_of_some _ e,Q5 a _,⟨_,Heap.get?_push_size _ rfl,rfl,rfl⟩,λb hb=>?_,q⟩
  have e:b=s1.heap.objs.size:=by simpa using hb
  subst e
  exact I1.fpOk (Nat.le_refl _) (I1.hok.fresh (Nat.le_refl _))
 ·subst e
  cases r1
  obtain ⟨its,rv,p,hz⟩:=I1.tuple hq
  refine PySem.wpAny_pyIter_tuple (show s1.heap.IsTuple a its.toArray from p) ?_
  refine ⟨s1.heap.objs.size,[s1.heap.objs.size],_,_,H1,rfl,I1.kept (t':=s1.toks) λb o e=>Heap.get?_push_of_some _ e,zKT a _,⟨_,Heap.get?_push_size _ rfl,rfl,rfl⟩,λb hb=>?_,q⟩
  have e:b=s1.heap.objs.size:=by simpa using hb
  subst e
  exact I1.fpOk (Nat.le_refl _) (I1.hok.fresh (Nat.le_refl _))
def qM:D->(List D->Prop)->Prop
 | .lst ds,R=>R ds
 | .tup ds,R=>R ds
 | _,_=>False
def Zw (pa:yF):y6:=λΓ R=>pa Γ λd=>qM d R
theorem zPA {K:PySem.W.Frag} {Z:Addr->Prop} {H:Hp} {p:Addr} {xs:List V} {ds:List D} (e:zT Z H p=some (.lst xs)) (h:yK (zT Z H) xs ds):Wk Z (jR K p) H ds:=λi Z' H' s zd=>by
 have e1:=yC _ _ (s _ _ e)
 refine ⟨λd hd=>?_,λhi=>⟨xs,zR.of e1,by rw [xu h]; omega⟩⟩
 obtain ⟨x,hx,hh⟩:=je h hd
 refine ⟨⟨xs,x,zR.of e1,hx⟩,λy H'' ⟨e2,hy⟩=>?_⟩
 subst e2
 have:=hy xs (zR.of e1)
 rw [hx] at this
 cases this
 exact ⟨zD.refl _,hh.same s⟩
theorem zQB {K:PySem.W.Frag} {Z:Addr->Prop} {H:Hp} {p:Addr} {xs:List V} {ds:List D} (e:zT Z H p=some (.tup xs)) (h:yK (zT Z H) xs ds):Wk Z (UD K p) H ds:=λi Z' H' s zd=>by
 have e1:=yC _ _ (s _ _ e)
 refine ⟨λd hd=>?_,λhi=>⟨xs,yS.of e1,by rw [xu h]; omega⟩⟩
 obtain ⟨x,hx,hh⟩:=je h hd
 refine ⟨⟨xs,x,yS.of e1,hx⟩,λy H'' ⟨e2,hy⟩=>?_⟩
 subst e2
 have:=hy xs (yS.of e1)
 rw [hx] at this
 cases this
 exact ⟨zD.refl _,hh.same s⟩
theorem yP (ha:PE X e (tP pa)):PI X tg e (um (Zw pa)):=Zv (zQr ha) λσ H Q ⟨Z,Γ,R,E,h,q⟩=>
 ⟨Z,Γ,_,E,h,λd v H1 hd s1 hv=>by
  unfold qM at hd
  split at hd
  ·obtain ⟨p,xs,rfl,e,hx⟩:=hv.lst_inv
   exact .inl ⟨p,rfl,⟨xs,zR.of (yC _ _ e)⟩,q _ _ H1 hd s1 (zPA e hx)⟩
  ·obtain ⟨p,xs,rfl,e,hx⟩:=hv.tup_inv
   exact .inr ⟨p,rfl,⟨xs,yS.of (yC _ _ e)⟩,q _ _ H1 hd s1 (zQB e hx)⟩
  ·exact hd.elim⟩
def rng (lo:Int) (n:Nat):List D:=(List.range n).map λk:Nat=>D.int (lo + (k:Int))
theorem zNM {Z:Addr->Prop} {H:Hp} {lo:Int} {n:Nat}:Wk Z (jS lo n) H (rng lo n):=λi Z' H' s zd=>by
 refine ⟨λd hd=>?_,λhi=>?_⟩
 ·unfold rng at hd
  rw [List.getElem?_map] at hd
  have hlt:i < n:=by
   apply Classical.byContradiction
   intro c
   rw [List.getElem?_eq_none (by rw [List.length_range]; omega)] at hd
   cases hd
  rw [List.getElem?_range hlt] at hd
  cases hd
  exact ⟨hlt,λx H'' ⟨e1,e2⟩=>by subst e1; subst e2; exact ⟨zD.refl _,.int _⟩⟩
 ·show n<=i
  rw [hi]
  unfold rng
  rw [List.length_map,List.length_range]
  exact Nat.le_refl _
def rng0 (n:Nat):List D:=(List.range n).map λk:Nat=>D.int (k:Int)
theorem U8 (n:Nat):rng0 n=rng 0 n:=List.map_congr_left λk _=>by rw [Int.zero_add]
theorem v7 {n k:Nat} {d:D} (h:(rng0 n)[k]? = some d):k < n/\d=.int (k:Int):=by
 unfold rng0 at h
 rw [List.getElem?_map] at h
 by_cases c:k < n
 ·rw [List.getElem?_range c] at h
  exact ⟨c,(Option.some.inj h).symm⟩
 ·rw [List.getElem?_eq_none (by rw [List.length_range]; omega)] at h
  cases h
theorem v8 (n:Nat):(rng0 n).length=n:=by unfold rng0; rw [List.length_map,List.length_range]
def zQY:List D->(List D->Prop)->Prop
 | [.int j],R=>-1000<=j/\j<=1000/\R (rng0 j.toNat)
 | _,_=>False
def U9 (f:List D->(List D->Prop)->Prop) (pl:y6):y6:=λΓ R=>pl Γ λds=>f ds R
theorem xK {p:Pos} (hg:Gl X "range") (hm:X.mg "range" = none) (ha:PA X [e] (wV pl)) (hs:starEach [e] X.env=[(false,eval e X.env)]:=by rfl):PI X tg (.Call (.Name "range" p) [e] [] pos) (um (U9 zQY pl)):=Zv (gB hg hm ha hs) λσ H Q ⟨Z,Γ,R,E,h,q⟩=>
 ⟨Z,Γ,_,E,h,λds vs H1 hd s1 hv=>by
  unfold zQY at hd
  split at hd
  ·obtain ⟨h1,h2,hd⟩:=hd
   obtain ⟨v,rfl,hw⟩:=xC hv
   cases hw
   rw [U8] at hd
   exact ⟨_,rfl,by omega,by omega,q _ _ H1 hd s1 zNM⟩
  ·exact hd.elim⟩
abbrev xb (x y:D):D:=.tup [x,y]
theorem JA {α β γ:Type} (f:α->β->γ):∀ {xs:List α} {ys:List β} {i:Nat} {z:γ},(List.zipWith f xs ys)[i]? = some z->∃ x y,xs[i]? = some x/\ys[i]? = some y/\z=f x y
 | [],_,_,_,h=>by simp at h
 | _ :: _,[],_,_,h=>by simp at h
 | x :: _,y :: _,0,_,h=>by simp at h; exact ⟨x,y,rfl,rfl,h.symm⟩
 | _ :: xs,_ :: ys,i + 1,z,h=>by
  obtain ⟨x,y,h1,h2,h3⟩:=JA f (xs:=xs) (ys:=ys) (i:=i) (z:=z) (by simpa using h)
  exact ⟨x,y,by simpa using h1,by simpa using h2,h3⟩
theorem zOd {S1 S2:Hp->Addr->List V->Prop} {Z:Addr->Prop} {H:Hp} {p r:Addr} {xs ys:List V} {ds es:List D} (h1:∀ Z' H',zD (zT Z H) (zT Z' H')->S1 H' p xs) (h2:∀ Z' H',zD (zT Z H) (zT Z' H')->S2 H' r ys) (hx:yK (zT Z H) xs ds) (hy:yK (zT Z H) ys es) :
  Wk Z ⟨λi H=>∃ xs ys x y,S1 H p xs/\S2 H r ys/\xs[i]? = some x/\ys[i]? = some y,λi H v H'=>∃ T x y,v=.ref T/\H T=none/\H'=zW H T (.tup [x,y])/\(∀ xs,S1 H p xs->xs[i]? = some x)/\∀ ys,S2 H r ys->ys[i]? = some y,
   λi H=>∃ xs ys,S1 H p xs/\S2 H r ys/\i<=xs.length/\i<=ys.length/\(i=xs.length\/i=ys.length)⟩ H (List.zipWith xb ds es):=λi Z' H' s zd=>by
 have a1:=h1 Z' H' s
 have a2:=h2 Z' H' s
 have l1:=xu hx
 have l2:=xu hy
 refine ⟨λd hd=>?_,λhi=>?_⟩
 ·obtain ⟨a,b,ha,hb,rfl⟩:=JA _ hd
  obtain ⟨x,gx,kx⟩:=je hx ha
  obtain ⟨y,gy,ky⟩:=je hy hb
  refine ⟨⟨xs,ys,x,y,a1,a2,gx,gy⟩,λv H'' ⟨T,x',y',ev,hT,eH,q1,q2⟩=>?_⟩
  have:=q1 xs a1
  rw [gx] at this
  cases this
  have:=q2 ys a2
  rw [gy] at this
  cases this
  subst ev
  subst eH
  exact ⟨xA hT _,ZX zd hT (.cons (kx.same s) (.cons (ky.same s) .nil))⟩
 ·rw [List.length_zipWith] at hi
  exact ⟨xs,ys,a1,a2,by omega,by omega,by omega⟩
def ue:List D->(List D->Prop)->Prop
 | [.lst ds,.lst es],R=>R (List.zipWith xb ds es)
 | [.tup ds,.lst es],R=>R (List.zipWith xb ds es)
 | _,_=>False
theorem qN {ts:List Expr} {kk:Nat} {tp p:Pos} (hg:Gl X "zip") (hm:X.mg "zip" = none) (ha:PA X [e1,e2] (wV pl)) (hs:starEach [e1,e2] X.env=[(false,eval e1 X.env),(false,eval e2 X.env)]:=by rfl) (hs2:starEach [e2] X.env=[(false,eval e2 X.env)]:=by rfl) :
  PI X (.Tuple ts kk tp) (.Call (.Name "zip" p) [e1,e2] [] pos) (um (U9 ue pl)):=Zv (zPX hg hm ha hs hs2) λσ H Q ⟨Z,Γ,R,E,h,q⟩=>
 ⟨Z,Γ,_,E,h,λds vs H1 hd s1 hv=>by
  unfold ue at hd
  split at hd
  ·obtain ⟨v,w,rfl,hx,hy⟩:=uc hv
   obtain ⟨a,xs,rfl,ea,ha⟩:=hx.lst_inv
   obtain ⟨b,ys,rfl,eb,hb⟩:=hy.lst_inv
   exact ⟨a,b,rfl,.inr ⟨⟨xs,zR.of (yC _ _ ea)⟩,⟨ys,zR.of (yC _ _ eb)⟩,q _ _ H1 hd s1 (zOd (λ_ _ s=>zR.of (yC _ _ (s _ _ ea))) (λ_ _ s=>zR.of (yC _ _ (s _ _ eb))) ha hb)⟩⟩
  ·obtain ⟨v,w,rfl,hx,hy⟩:=uc hv
   obtain ⟨a,xs,rfl,ea,ha⟩:=hx.tup_inv
   obtain ⟨b,ys,rfl,eb,hb⟩:=hy.lst_inv
   exact ⟨a,b,rfl,.inl ⟨⟨xs,yS.of (yC _ _ ea)⟩,⟨ys,zR.of (yC _ _ eb)⟩,q _ _ H1 hd s1 (zOd (λ_ _ s=>yS.of (yC _ _ (s _ _ ea))) (λ_ _ s=>zR.of (yC _ _ (s _ _ eb))) ha hb)⟩⟩
  ·exact hd.elim⟩
end
end Pu
namespace Pu
open PySem L2 Sh
def un:Sl->Sl
 | .sh d=>.sh d
 | _=>.no
theorem zJh:∀ (Γ:List Sl) (i:Nat),slot Γ i=(Γ[i]?).getD .no
 | [],_=>rfl
 | _ :: _,0=>rfl
 | _ :: t,i + 1=>(zJh t i).trans (by rw [List.getElem?_cons_succ])
theorem Zx {s:Sl} {d:D} (h:un s=.sh d):s=.sh d:=by cases s <;> first | exact h | cases h
theorem Zy {s:Sl} {ds:List D} (h:un s=.ow ds):False:=by cases s <;> cases h
theorem Zz {s:Sl} {o c:Addr} {ns:List Str} {ds:List D} (h:un s=.ob o c ns ds):False:=by cases s <;> cases h
theorem Xu {os:List D} {l:List Sl} (hl:∀ i o c ns ds,slot l i≠.ob o c ns ds):∀ i o c ns ds,slot (os.map Sl.sh++l) i≠.ob o c ns ds:=λi o c ns ds h=>by
 induction os generalizing i with
 | nil=>exact hl i o c ns ds h
 | cons d t ih=>
  cases i with
  | zero=>cases h
  | succ i=>exact ih i h
theorem Xv {os:List D} {l:List Sl} (hl:∀ i ds,slot l i≠.ow ds):∀ i ds,slot (os.map Sl.sh++l) i≠.ow ds:=λi ds h=>by
 induction os generalizing i with
 | nil=>exact hl i ds h
 | cons d t ih=>
  cases i with
  | zero=>cases h
  | succ i=>exact ih i h
theorem Xw (Γ:List Sl):∀ (js:List Nat) (i:Nat),slot (js.map λj=>un (slot Γ j)) i=match js[i]? with | some j=>un (slot Γ j) | none=>.no
 | [],_=>rfl
 | _ :: _,0=>rfl
 | _ :: js,i + 1=>by
  rw [List.getElem?_cons_succ]
  exact Xw Γ js i
theorem JB {Z:Addr->Prop} {Γ:List Sl} {σ:St} {H:Hp} (E:yn Z Γ σ H) {js:List Nat} {vs:List V} {os:List D} (h:yK (zT Z H) vs os):yn Z (os.map Sl.sh++js.map λj=>un (slot Γ j)) (vs.map some++js.map λj=>(σ[j]?).getD none) H:=by
 have no:∀ i ds,slot (os.map Sl.sh++js.map λj=>un (slot Γ j)) i≠.ow ds:=Xv λi ds h=>by
  rw [Xw] at h
  split at h
  ·exact Zy h
  ·cases h
 have nob:∀ i o c ns ds,slot (os.map Sl.sh++js.map λj=>un (slot Γ j)) i≠.ob o c ns ds:=Xu λi o c ns ds h=>by
  rw [Xw] at h
  split at h
  ·exact Zz h
  ·cases h
 refine ⟨?_,λi ds e=>absurd e (no i ds),λi o c ns ds e=>absurd e (nob i o c ns ds),λi _ ds _ _ e=>absurd e (no i ds),E.zd,?_⟩
 clear nob
 ·induction h with
  | nil=>
   intro i d e
   change slot (js.map λj=>un (slot Γ j)) i=_ at e
   show ∃ v,(js.map λj=>(σ[j]?).getD none)[i]? = some (some v)/\_
   rw [Xw] at e
   rw [List.getElem?_map]
   cases k:js[i]? with
   | none=>rw [k] at e; cases e
   | some j=>
    rw [k] at e
    obtain ⟨v,h1,h2⟩:=E.sh j d (Zx e)
    exact ⟨v,by show some ((σ[j]?).getD none)=_; rw [h1]; rfl,h2⟩
  | @cons v d vs ds hv _ ih=>
   intro i e q
   cases i with
   | zero=>cases q; exact ⟨v,rfl,hv⟩
   | succ i=>
    obtain ⟨u,h1,h2⟩:=ih (λi=>no (i + 1)) i e q
    exact ⟨u,by rw [List.map_cons,List.cons_append,List.getElem?_cons_succ]; exact h1,h2⟩
 ·rw [List.length_append,List.length_append,List.length_map,List.length_map,List.length_map,List.length_map,xu h]
theorem JC (c:St):∀ (pre o:St) (vs:List V),o.length=vs.length->setN (pre++(o++c)) (List.range' pre.length o.length) vs=pre++(vs.map some++c)
 | _,[],[],_=>rfl
 | _,[],_ :: _,h=>nomatch h
 | _,_ :: _,[],h=>nomatch h
 | pre,x :: o,v :: vs,h=>by
  rw [List.length_cons,List.range'_succ]
  show setN ((pre++((x :: o)++c)).set pre.length (some v)) (List.range' (pre.length + 1) o.length) vs=_
  rw [List.set_append_right _ _ (Nat.le_refl _),Nat.sub_self]
  have:=JC c (pre++[some v]) o vs (Nat.succ.inj h)
  rw [List.length_append,List.append_assoc] at this
  rw [List.append_assoc] at this
  exact this
inductive zl (ds:List D) (G:D->(D->Prop)->Prop) (R:D->Prop):Prop
 | mk (few:ds.length<=1000) (F:D->D->Prop) (h:∀ d,d∈ds->G d (F d)) (q:∀ es,Paired F ds es->R (.lst es)):zl ds G R
def Z3 (caps:List Nat) (pi:y6) (po:D->Option (List D)) (pe:yF):yF:=λΓ R=>pi Γ λds=>zl ds (λd S=>ul (po d) λos=>pe (os.map Sl.sh++caps.map λj=>un (slot Γ j)) S) R
theorem zMv {Z:Addr->Prop} {Γ:List Sl} {σ:St} {H:Hp} {own:List Str} {caps:List (Nat × Str)} {J:It} {ds:List D} {js:List Nat} {po:D->Option (List D)} {pe:yF} {Q:VK} {F:D->D->Prop} (E:yn Z Γ σ H) (wk:Wk Z J H ds) (hj:js=List.range' 0 own.length) (hk:∀ d os,po d=some os->os.length=js.length) (few:ds.length<=1000)
  (hF:∀ d,d∈ds->ul (po d) λos=>pe (os.map Sl.sh++(caps.map (·.1)).map λj=>un (slot Γ j)) (F d))
  (q:∀ es ys H' p,Paired F ds es->zD H H'->yK (zT Z H') ys es->H' p=none->Q (.ref p) (zW H' p (.lst ys))):ku J (tG js po) (tP pe) Q (wU own caps σ) H:=by
 have hc:wU own caps σ=own.map (λ_=>none)++(caps.map (·.1)).map λj=>(σ[j]?).getD none:=by
  unfold wU
  rw [List.map_map]
  rfl
 refine ⟨λi m ys σ1 H1=>m + i=ds.length/\zD H H1/\(∃ es,Paired F (ds.take i) es/\yK (zT Z H1) ys es)/\∃ o:St,o.length=own.length/\σ1=o++(caps.map (·.1)).map λj=>(σ[j]?).getD none,⟨ds.length,rfl,zD.refl _,⟨[],.nil,.nil⟩,_,List.length_map ..,hc⟩,?_⟩
 rintro i m ys σ1 H1 ⟨hm,s1,⟨es,he,hy⟩,o,lo,rfl⟩
 obtain ⟨w1,w2⟩:=wk i Z H1 (yY s1) (E.zd.same s1)
 have le:es.length=i:=by
  have:=Paired.length he
  rw [List.length_take] at this
  omega
 by_cases hi:i < ds.length
 ·refine .inr ⟨(w1 _ (List.getElem?_eq_getElem hi)).1,by rw [xu hy,le]; exact uj (by omega),λy σ' H'=>m - 1 + (i + 1)=ds.length/\zD H H'/\(∃ es,Paired F (ds.take (i + 1)) es/\yK (zT Z H') (ys++[y]) es)/\∃ o:St,o.length=own.length/\σ'=o++(caps.map (·.1)).map λj=>(σ[j]?).getD none,λy σ' H' k=>⟨m - 1,by omega,k⟩,λx H' yl=>?_⟩
  obtain ⟨s2,dv⟩:=(w1 _ (List.getElem?_eq_getElem hi)).2 x H' yl
  obtain ⟨os,ho,hp⟩:=Zu (hF _ (List.getElem_mem hi))
  have lo2:=hk _ _ ho
  refine ⟨Z,_,os,dv,ho,λvs hvs=>?_⟩
  have lv:=xu hvs
  have e1:setN (o++(caps.map (·.1)).map λj=>(σ[j]?).getD none) js vs=vs.map some++(caps.map (·.1)).map λj=>(σ[j]?).getD none:=by
   rw [hj,<- lo]
   exact JC _ [] o vs (by rw [lv,lo2,hj,List.length_range']; exact lo)
  rw [e1]
  refine ⟨Z,_,_,JB (E.same (s1.trans s2)) hvs,hp,λd v H3 hd s3 hv=>⟨by omega,s1.trans (s2.trans s3),⟨es++[d],?_,uy hv (xT (yY (s2.trans s3)) hy)⟩,_,?_,rfl⟩⟩
  ·rw [List.take_succ_eq_append_getElem hi]
   exact uy hd he
  ·rw [List.length_map,lv,lo2,hj,List.length_range']
 ·have ei:i=ds.length:=by omega
  refine .inl ⟨w2 ei,λp hp=>q es ys H1 p ?_ s1 hy hp⟩
  rw [List.take_of_length_le (by omega)] at he
  exact he
section
variable {X:Cx} {scope:Scope} {own:List Str} {caps:List (Nat × Str)} {tg iter elt:Expr} {pos:Pos} {pi:y6} {po:D->Option (List D)} {pe:yF} {js:List Nat}
theorem yI (B:vS X scope own caps) (hc:X.calm=true) (hj:js=List.range' 0 own.length) (hk:∀ d os,po d=some os->os.length=js.length) (hi:PI X tg iter (um pi)) (hg:∀ C s₀ H₀ ex,PG (yZ X scope (ze own caps) C s₀ H₀ ex) tg (tG js po))
  (he:∀ C s₀ H₀ ex,PE (yZ X scope (ze own caps) C s₀ H₀ ex) elt (tP pe)) (hs:∀ x,foldedSetIterable iter X.env x=pure x:=by intro _; rfl):PE X (.ListComp elt [⟨tg,iter,[],0⟩] scope pos) (tP (Z3 (caps.map (·.1)) pi po pe)):=
 yO (ZC B hc hi hg he hs) λσ H Q ⟨Z,Γ,R,E,h,q⟩=>⟨Z,Γ,_,E,h,λds J H1 ⟨fw,F,hF,hR⟩ s1 wk=>zMv (E.same s1) wk hj hk fw hF λes ys H' p h1 s2 h2 hp=>q _ _ _ (hR es h1) (s1.trans (s2.trans (xA hp _))) (u7 ((E.same s1).zd.same s2) hp h2)⟩
end
theorem zl.map {ds:List D} {G:D->(D->Prop)->Prop} {R:D->Prop} (f:D->D) (few:ds.length<=1000) (h:∀ d,d∈ds->G d λe=>e=f d) (q:R (.lst (ds.map f))):zl ds G R:=⟨few,λd e=>e=f d,h,λes p=>by
 have:∀ {ds es:List D},Paired (λd e=>e=f d) ds es->es=ds.map f:=λ{ds es} p=>by
  induction p with
  | nil=>rfl
  | cons h _ ih=>rw [h,ih]; rfl
 rw [this p]
 exact q⟩
theorem zl.all {ds:List D} {G:D->(D->Prop)->Prop} {R:D->Prop} (P:D->Prop) (few:ds.length<=1000) (h:∀ d,d∈ds->G d P) (q:∀ es,es.length=ds.length->(∀ e∈es,P e)->R (.lst es)):zl ds G R:=⟨few,λ_=>P,h,λes p=>q es (Paired.length p).symm (by
 clear h few q
 induction p with
 | nil=>exact λ_ h=>nomatch h
 | cons h _ ih=>exact λe m=>(List.mem_cons.mp m).elim (λz=>z ▸ h) (ih e))⟩
def zz:D->Int
 | .int i=>i
 | _=>0
theorem zl.int {ns:List Int} {G:D->(D->Prop)->Prop} {R:D->Prop} (g:Int->Int) (few:ns.length<=1000) (h:∀ n,n∈ns->G (.int n) λe=>e=.int (g n)) (q:R (.lst ((ns.map g).map D.int))):zl (ns.map D.int) G R:=
 zl.map (λd=>.int (g (zz d))) (by rw [List.length_map]; exact few) (λd m=>by
  obtain ⟨n,hn,rfl⟩:=List.mem_map.mp m
  exact h n hn) (by rw [List.map_map] at q |-; exact q)
theorem zl.bool {ds:List D} {G:D->(D->Prop)->Prop} {R:D->Prop} (g:D->Bool) (few:ds.length<=1000) (h:∀ d,d∈ds->G d λe=>e=.bool (g d)) (q:R (.lst ((ds.map g).map D.bool))):zl ds G R:=
 zl.map (λd=>.bool (g d)) few h (by rw [List.map_map] at q; exact q)
theorem zl.rng {lo:Int} {n:Nat} {G:D->(D->Prop)->Prop} {R:D->Prop} (g:Nat->D) (few:n<=1000) (h:∀ k,k < n->G (.int (lo + (k:Int))) λe=>e=g k) (q:R (.lst ((List.range n).map g))):zl (Pu.rng lo n) G R:=
 zl.map (λd=>g (zz d - lo).toNat) (by unfold Pu.rng; rw [List.length_map,List.length_range]; exact few) (λd m=>by
  obtain ⟨k,hk,rfl⟩:=List.mem_map.mp m
  rw [show (zz (.int (lo + (k:Int))) - lo).toNat=k by show (lo + (k:Int) - lo).toNat=k; omega]
  exact h k (List.mem_range.mp hk)) (by
  have e:(Pu.rng lo n).map (λd=>g (zz d - lo).toNat)=(List.range n).map g:=by
   unfold Pu.rng
   rw [List.map_map]
   refine List.map_congr_left λk _=>?_
   show g (lo + (k:Int) - lo).toNat=g k
   rw [show (lo + (k:Int) - lo).toNat=k by omega]
  rw [e]
  exact q)
theorem zl.rngP {lo:Int} {n:Nat} {G:D->(D->Prop)->Prop} {R:D->Prop} (P:D->Prop) (few:n<=1000) (h:∀ k,k < n->G (.int (lo + (k:Int))) P) (q:∀ es,es.length=n->(∀ e∈es,P e)->R (.lst es)):zl (Pu.rng lo n) G R:=
 zl.all P (by unfold Pu.rng; rw [List.length_map,List.length_range]; exact few) (λd m=>by
  obtain ⟨k,hk,rfl⟩:=List.mem_map.mp m
  exact h k (List.mem_range.mp hk)) (λes l=>q es (by rw [l]; unfold Pu.rng; rw [List.length_map,List.length_range]))
theorem zl.rng0 {n:Nat} {G:D->(D->Prop)->Prop} {R:D->Prop} (g:Nat->D) (few:n<=1000) (h:∀ k,k < n->G (.int (k:Int)) λe=>e=g k) (q:R (.lst ((List.range n).map g))):zl (Pu.rng0 n) G R:=by
 rw [U8]
 exact zl.rng g few (λk hk=>by rw [Int.zero_add]; exact h k hk) q
theorem zl.rng0P {n:Nat} {G:D->(D->Prop)->Prop} {R:D->Prop} (P:D->Prop) (few:n<=1000) (h:∀ k,k < n->G (.int (k:Int)) P) (q:∀ es,es.length=n->(∀ e∈es,P e)->R (.lst es)):zl (Pu.rng0 n) G R:=by
 rw [U8]
 exact zl.rngP P few (λk hk=>by rw [Int.zero_add]; exact h k hk) q
def vY (P:Int->Prop) (d:D):Prop:=∃ i,d=.int i/\P i
theorem zMM {P:Int->Prop}:∀ {es:List D},(∀ e∈es,vY P e)->∃ ns:List Int,es=ns.map D.int/\∀ x∈ns,P x
 | [],_=>⟨[],rfl,λ_ h=>nomatch h⟩
 | e :: es,h=>by
  obtain ⟨ns,rfl,k⟩:=zMM (es:=es) λx m=>h x (List.mem_cons_of_mem _ m)
  obtain ⟨i,rfl,p⟩:=h e List.mem_cons_self
  exact ⟨i :: ns,rfl,λx m=>(List.mem_cons.mp m).elim (λz=>z ▸ p) (k x)⟩
theorem zl.nums {n:Nat} {G:D->(D->Prop)->Prop} {R:D->Prop} (P:Int->Prop) (few:n<=1000) (h:∀ k,k < n->G (.int (k:Int)) (vY P)) (q:∀ ns:List Int,ns.length=n->(∀ x∈ns,P x)->R (.lst (ns.map D.int))):zl (Pu.rng0 n) G R:=
 zl.rng0P (vY P) few h λes l k=>by
  obtain ⟨ns,rfl,p⟩:=zMM k
  exact q ns (by rw [<- l,List.length_map]) p
theorem yD {i:Nat}:∀ d os,po1 d=some os->os.length=[i].length:=λd os h=>by cases h; rfl
theorem qO:∀ ds os,zQk ds=some os->os.length=([]:List Nat).length:=λds os h=>by cases ds with | nil=>cases h; rfl | cons=>cases h
theorem vZ {i:Nat} {js:List Nat} {po:List D->Option (List D)} (h:∀ ds os,po ds=some os->os.length=js.length):∀ ds os,zOm po ds=some os->os.length=(i :: js).length:=λds os q=>by
 cases ds with
 | nil=>cases q
 | cons d dt=>
  change (po dt).map (d :: ·)=some os at q
  cases e:po dt with
  | none=>rw [e] at q; cases q
  | some os'=>rw [e] at q; cases q; rw [List.length_cons,List.length_cons,h dt os' e]
structure yt (Z0:Addr->Prop) (H0:Hp) (Z:Addr->Prop) (Γ:List Sl) (σ:St) (H:Hp):Prop where
 e:yn Z Γ σ H
 z0:∀ b,Z0 b->Z b
 z0d:ZL Z0 H0
 same:zD H0 H
 own:∀ i ds l,slot Γ i=.ow ds->σ[i]? = some (some (.ref l))->H0 l=none
 owb:∀ i o c ns ds,slot Γ i=.ob o c ns ds->H0 o=none
structure zRq where
 nx:List Sl->Prop
 rt:D->Prop
 bk:List Sl->Prop:=λ_=>False
 ct:List Sl->Prop:=λ_=>False
abbrev xW:=zRq->List Sl->Prop
inductive yu (p:xW) (D0:xg) (σ:St) (H:Hp):Prop
 | mk (Z0:Addr->Prop) (H0:Hp) (Z:Addr->Prop) (Γ:List Sl) (Dp:zRq) (E:yt Z0 H0 Z Γ σ H) (h:p Dp Γ) (nx:∀ Z' Γ' σ' H',yt Z0 H0 Z' Γ' σ' H'->zD (zT Z H) (zT Z' H')->Dp.nx Γ'->D0.nx σ' H')
  (rt:∀ d v H',zD H0 H'->DV (zT Z0 H') v d->Dp.rt d->D0.rt v H') (bk:∀ Z' Γ' σ' H',yt Z0 H0 Z' Γ' σ' H'->zD (zT Z H) (zT Z' H')->Dp.bk Γ'->D0.bk σ' H') (ct:∀ Z' Γ' σ' H',yt Z0 H0 Z' Γ' σ' H'->zD (zT Z H) (zT Z' H')->Dp.ct Γ'->D0.ct σ' H'):yu p D0 σ H
theorem yt.mv {Z0:Addr->Prop} {H0:Hp} {Z:Addr->Prop} {Γ:List Sl} {σ:St} {H H':Hp} (E:yt Z0 H0 Z Γ σ H) (s:zD H H'):yt Z0 H0 Z Γ σ H':=⟨E.e.same s,E.z0,E.z0d,E.same.trans s,E.own,E.owb⟩
theorem yt.set {Z0:Addr->Prop} {H0:Hp} {Z:Addr->Prop} {Γ:List Sl} {σ:St} {H:Hp} (E:yt Z0 H0 Z Γ σ H) {v:V} {d:D} (h:DV (zT Z H) v d) (i:Nat):yt Z0 H0 Z (yH Γ i (.sh d)) (σ.set i (some v)) H:=
 ⟨E.e.set h i,E.z0,E.z0d,E.same,λj ds l q r=>by
  rw [xj] at q
  by_cases c:j=i/\i < Γ.length
  ·rw [if_pos c] at q; cases q
  ·rw [if_neg c] at q
   have hj:=ua (Γ:=Γ) (i:=j) (by rw [q]; exact λz=>nomatch z)
   rw [List.getElem?_set_ne (λz=>c ⟨z.symm,by omega⟩)] at r
   exact E.own j ds l q r,λj o0 c0 ns ds q=>by
  rw [xj] at q
  by_cases c:j=i/\i < Γ.length
  ·rw [if_pos c] at q; cases q
  ·rw [if_neg c] at q
   exact E.owb j o0 c0 ns ds q⟩
theorem yt.setN {Z0:Addr->Prop} {H0:Hp} {Z:Addr->Prop} {H:Hp}:∀ {js:List Nat} {vs:List V} {os:List D} {Γ:List Sl} {σ:St},yt Z0 H0 Z Γ σ H->yK (zT Z H) vs os->yt Z0 H0 Z (Xq Γ js os) (Pu.setN σ js vs) H
 | [],_,_,_,_,E,_=>E
 | _ :: _,_,_,_,_,E,.nil=>E
 | _ :: js,_,_,_,_,E,.cons h t=>yt.setN (js:=js) (E.set h _) t
theorem Xx {Z:Addr->Prop} {H:Hp} {l:Addr} {o:HO} (h:Z l):zD (zT Z H) (zT Z (zW H l o)):=λb u e=>by
 obtain ⟨h1,h2⟩:=qE e
 have nb:b≠l:=λz=>h1 (by rw [z]; exact h)
 rw [xy h1,zt nb]
 exact h2
theorem yt.put {Z0:Addr->Prop} {H0:Hp} {Z:Addr->Prop} {Γ:List Sl} {σ:St} {H:Hp} (E:yt Z0 H0 Z Γ σ H) {i:Nat} {ds ds':List D} {l:Addr} {xs:List V} (hs:slot Γ i=.ow ds) (hl:σ[i]? = some (some (.ref l))) (hz:Z l) (hx:yK (zT Z H) xs ds'):yt Z0 H0 Z (yH Γ i (.ow ds')) σ (zW H l (.lst xs)):=by
 obtain ⟨l0,xs0,hl0,_,el,_⟩:=E.e.ow i ds hs
 have el0:l0=l:=by rw [hl] at hl0; cases hl0; rfl
 rw [el0] at el
 have keyb:∀ j o c ns d,slot (yH Γ i (.ow ds')) j=.ob o c ns d->slot Γ j=.ob o c ns d:=λj o0 c0 ns d q=>by
  rw [xj] at q
  by_cases c:j=i/\i < Γ.length
  ·rw [if_pos c] at q; cases q
  ·rw [if_neg c] at q; exact q
 have li:=ua (Γ:=Γ) (i:=i) (by rw [hs]; exact λz=>nomatch z)
 have hp:zD (zT Z H) (zT Z (zW H l (.lst xs))):=Xx hz
 have key:∀ j ds'',slot (yH Γ i (.ow ds')) j=.ow ds''->∃ q,slot Γ j=.ow q:=λj d q=>by
  rw [xj] at q
  by_cases c:j=i/\i < Γ.length
  ·rw [c.1]; exact ⟨ds,hs⟩
  ·rw [if_neg c] at q; exact ⟨d,q⟩
 refine ⟨⟨λj d q=>?_,λj d q=>?_,λj o c ns d q=>?_,λj k as bs m q r=>?_,λb hb=>?_,by rw [gR]; exact E.e.len⟩,E.z0,E.z0d,?_,λj d m q=>?_,λj o c ns d q=>E.owb j o c ns d (keyb j o c ns d q)⟩
 ·rw [xj] at q
  by_cases c:j=i/\i < Γ.length
  ·rw [if_pos c] at q; cases q
  ·rw [if_neg c] at q
   obtain ⟨v,h1,h2⟩:=E.e.sh j d q
   exact ⟨v,h1,h2.same hp⟩
 ·rw [xj] at q
  by_cases c:j=i/\i < Γ.length
  ·rw [if_pos c] at q
   cases q
   rw [c.1]
   exact ⟨l,xs,hl,hz,xI,xT hp hx⟩
  ·rw [if_neg c] at q
   obtain ⟨m,ys,h1,h2,h3,h4⟩:=E.e.ow j d q
   have nm:m≠l:=λz=>c ⟨E.e.ne j i d ds l q hs (by rw [h1,z]) hl,li⟩
   exact ⟨m,ys,h1,h2,by rw [zt nm]; exact h3,xT hp h4⟩
 ·obtain ⟨dx,ys,h1,h2,h3,h5,h4⟩:=E.e.ob j o c ns d (keyb j o c ns d q)
  have nm:o≠l:=λz=>by rw [z,el] at h3; cases h3
  exact ⟨dx,ys,h1,h2,by rw [zt nm]; exact h3,h5,xT hp h4⟩
 ·obtain ⟨q1,hq⟩:=key j as q
  obtain ⟨r1,hr⟩:=key k bs r
  exact E.e.ne j k q1 r1 m hq hr
 ·obtain ⟨u,e,n⟩:=E.e.zd b hb
  by_cases c:b=l
  ·rw [c]; exact ⟨_,xI,λ_ z=>nomatch z⟩
  ·exact ⟨u,by rw [zt c]; exact e,n⟩
 ·exact λb o e=>by
   rw [zt (xn e (E.own i ds l hs hl))]
   exact E.same _ _ e
 ·obtain ⟨q1,hq⟩:=key j d q
  exact E.own j q1 m hq
theorem yt.make {Z0:Addr->Prop} {H0:Hp} {Z:Addr->Prop} {Γ:List Sl} {σ:St} {H:Hp} (E:yt Z0 H0 Z Γ σ H) {p:Addr} {xs:List V} {ds:List D} (hp:H p=none) (hx:yK (zT Z H) xs ds) (i:Nat) :
  yt Z0 H0 (λb=>Z b\/b=p) (yH Γ i (.ow ds)) (σ.set i (some (.ref p))) (zW H p (.lst xs))/\zD (zT Z H) (zT (λb=>Z b\/b=p) (zW H p (.lst xs))):=by
 have s:zD (zT Z H) (zT (λb=>Z b\/b=p) (zW H p (.lst xs))):=λb o e=>by
  obtain ⟨h1,h2⟩:=qE e
  have nb:=xn h2 hp
  rw [xy (λz=>z.elim h1 nb),zt nb]
  exact h2
 have old:∀ j d,slot Γ j=.ow d->∀ m,σ[j]? = some (some (.ref m))->m≠p:=λj d q m h z=>by
  obtain ⟨l,ys,h1,h2,h3,_⟩:=E.e.ow j d q
  rw [h] at h1
  cases h1
  rw [z,hp] at h3
  cases h3
 have get:∀ j,¬ (j=i/\i < Γ.length)->slot Γ j≠.no->(σ.set i (some (V.ref p)))[j]? = σ[j]?:=λj c q=>by
  have hj:=ua q
  exact List.getElem?_set_ne (λz=>c ⟨z.symm,by omega⟩)
 have new:∀ j,j=i/\i < Γ.length->(σ.set i (some (V.ref p)))[j]? = some (some (.ref p)):=λj c=>by
  rw [c.1,List.getElem?_set_self (by have:=E.e.len; omega)]
 have keyb:∀ j o c ns d,slot (yH Γ i (.ow ds)) j=.ob o c ns d->slot Γ j=.ob o c ns d/\(σ.set i (some (V.ref p)))[j]? = σ[j]?:=λj o0 c0 ns d q=>by
  rw [xj] at q
  by_cases c:j=i/\i < Γ.length
  ·rw [if_pos c] at q; cases q
  ·rw [if_neg c] at q; exact ⟨q,get j c (by rw [q]; exact λz=>nomatch z)⟩
 refine ⟨⟨⟨λj d q=>?_,λj d q=>?_,λj o c ns d q=>?_,λj k as bs m q r e f=>?_,λb hb=>?_,by rw [gR,List.length_set]; exact E.e.len⟩,λb hb=>.inl (E.z0 b hb),E.z0d,E.same.trans (xA hp _),λj d m q e=>?_,λj o c ns d q=>E.owb j o c ns d (keyb j o c ns d q).1⟩,s⟩
 ·rw [xj] at q
  by_cases c:j=i/\i < Γ.length
  ·rw [if_pos c] at q; cases q
  ·rw [if_neg c] at q
   obtain ⟨v,h1,h2⟩:=E.e.sh j d q
   exact ⟨v,by rw [get j c (by rw [q]; exact λz=>nomatch z)]; exact h1,h2.same s⟩
 ·rw [xj] at q
  by_cases c:j=i/\i < Γ.length
  ·rw [if_pos c] at q
   cases q
   exact ⟨p,xs,new j c,.inr rfl,xI,xT s hx⟩
  ·rw [if_neg c] at q
   obtain ⟨m,ys,h1,h2,h3,h4⟩:=E.e.ow j d q
   exact ⟨m,ys,by rw [get j c (by rw [q]; exact λz=>nomatch z)]; exact h1,.inl h2,by rw [zt (old j d q m h1)]; exact h3,xT s h4⟩
 ·obtain ⟨q,g⟩:=keyb j o c ns d q
  obtain ⟨dx,ys,h1,h2,h3,h5,h4⟩:=E.e.ob j o c ns d q
  exact ⟨dx,ys,g.trans h1,.inl h2,by rw [zt (xn h3 hp)]; exact h3,h5,xT s h4⟩
 ·rw [xj] at q r
  by_cases c:j=i/\i < Γ.length
  ·by_cases c':k=i/\i < Γ.length
   ·omega
   ·rw [if_neg c'] at r
    rw [new j c] at e
    rw [get k c' (by rw [r]; exact λz=>nomatch z)] at f
    cases e
    exact absurd rfl (old k bs r p f)
  ·rw [if_neg c] at q
   rw [get j c (by rw [q]; exact λz=>nomatch z)] at e
   by_cases c':k=i/\i < Γ.length
   ·rw [new k c'] at f
    cases f
    exact absurd rfl (old j as q p e)
   ·rw [if_neg c'] at r
    rw [get k c' (by rw [r]; exact λz=>nomatch z)] at f
    exact E.e.ne j k as bs m q r e f
 ·by_cases c:b=p
  ·rw [c]; exact ⟨_,xI,λ_ z=>nomatch z⟩
  ·obtain ⟨u,e,n⟩:=E.e.zd b (hb.resolve_right c)
   exact ⟨u,by rw [zt c]; exact e,n⟩
 ·rw [xj] at q
  by_cases c:j=i/\i < Γ.length
  ·rw [new j c] at e
   cases e
   cases h:H0 p with
   | none=>rfl
   | some o=>rw [E.same _ _ h] at hp; cases hp
  ·rw [if_neg c] at q
   rw [get j c (by rw [q]; exact λz=>nomatch z)] at e
   exact E.own j d m q e
def frz (Γ:List Sl) (i:Nat):List Sl:=match slot Γ i with
 | .ow ds=>yH Γ i (.sh (.lst ds))
 | _=>Γ
theorem yt.frz {Z0:Addr->Prop} {H0:Hp} {Z:Addr->Prop} {Γ:List Sl} {σ:St} {H:Hp} (E:yt Z0 H0 Z Γ σ H) (i:Nat):∃ Z',yt Z0 H0 Z' (Pu.frz Γ i) σ H/\zD (zT Z H) (zT Z' H):=by
 unfold Pu.frz
 cases hs:slot Γ i with
 | no=>exact ⟨Z,E,zD.refl _⟩
 | sh _=>exact ⟨Z,E,zD.refl _⟩
 | ob _ _ _ _=>exact ⟨Z,E,zD.refl _⟩
 | ow ds=>
  obtain ⟨l,xs,hl,hz,el,hx⟩:=E.e.ow i ds hs
  have s:zD (zT Z H) (zT (λb=>Z b/\b≠l) H):=Xi λb h=>h.1
  have key:∀ j d,slot (yH Γ i (.sh (.lst ds))) j=.ow d->slot Γ j=.ow d/\j≠i:=λj d q=>by
   rw [xj] at q
   by_cases c:j=i/\i < Γ.length
   ·rw [if_pos c] at q; cases q
   ·rw [if_neg c] at q
    have hj:=ua (Γ:=Γ) (i:=j) (by rw [q]; exact λz=>nomatch z)
    exact ⟨q,λz=>c ⟨z,by omega⟩⟩
  have keyb:∀ j o c ns d,slot (yH Γ i (.sh (.lst ds))) j=.ob o c ns d->slot Γ j=.ob o c ns d:=λj o0 c0 ns d q=>by
   rw [xj] at q
   by_cases c:j=i/\i < Γ.length
   ·rw [if_pos c] at q; cases q
   ·rw [if_neg c] at q; exact q
  refine ⟨λb=>Z b/\b≠l,⟨⟨λj d q=>?_,λj d q=>?_,λj o c ns d q=>?_,λj k as bs m q r=>?_,λb hb=>E.e.zd b hb.1,by rw [gR]; exact E.e.len⟩,λb hb=>⟨E.z0 b hb,λz=>?_⟩,E.z0d,E.same,λj d m q=>E.own j d m (key j d q).1,λj o c ns d q=>E.owb j o c ns d (keyb j o c ns d q)⟩,s⟩
  ·rw [xj] at q
   by_cases c:j=i/\i < Γ.length
   ·rw [if_pos c] at q
    cases q
    rw [c.1]
    exact ⟨.ref l,hl,.lst ((xy λz=>z.2 rfl).trans el) (xT s hx)⟩
   ·rw [if_neg c] at q
    obtain ⟨v,h1,h2⟩:=E.e.sh j d q
    exact ⟨v,h1,h2.same s⟩
  ·obtain ⟨q1,q2⟩:=key j d q
   obtain ⟨m,ys,h1,h2,h3,h4⟩:=E.e.ow j d q1
   exact ⟨m,ys,h1,⟨h2,λz=>q2 (E.e.ne j i d ds l q1 hs (by rw [h1,z]) hl)⟩,h3,xT s h4⟩
  ·obtain ⟨dx,ys,h1,h2,h3,h5,h4⟩:=E.e.ob j o c ns d (keyb j o c ns d q)
   exact ⟨dx,ys,h1,⟨h2,λz=>by rw [z,el] at h3; cases h3⟩,h3,h5,xT s h4⟩
  ·exact E.e.ne j k as bs m (key j as q).1 (key k bs r).1
  ·obtain ⟨ys,e,_⟩:=E.z0d b hb
   rw [z,E.own i ds l hs hl] at e
   cases e
end Pu
namespace Pu
open PySem L2 Sh
open PyProof.Rows (envOfC)
section
variable {X:Cx} {e:Expr} {es:List Expr} {st:Stmt} {sts:List Stmt} {pos:Pos} {pa pb:yF} {pl:y6} {p q:xW}
theorem yM {t t':TS} (h:PS X st t) (w:∀ D σ H,t' D σ H->t D σ H):PS X st t':=λpins s σ H D I k=>h pins s σ H D I (w D σ H k)
theorem qP {t t':TS} (h:xJ X sts t) (w:∀ D σ H,t' D σ H->t D σ H):xJ X sts t':=λpins s σ H D I k=>h pins s σ H D I (w D σ H k)
def Z4:xW:=λD Γ=>D.nx Γ
def JD (p q:xW):xW:=λD Γ=>p { D with nx:=q D } Γ
theorem yQ:xJ X [] (yu Z4):=qP zPR λD σ H ⟨Z0,H0,Z,Γ,Dp,E,h,nx,rt,bk,ct⟩=>nx Z Γ σ H E (zD.refl _) h
theorem zL (h1:PS X st (yu p)) (h2:xJ X sts (yu q)):xJ X (st :: sts) (yu (JD p q)):=qP (uU h1 h2) λD σ H ⟨Z0,H0,Z,Γ,Dp,E,h,nx,rt,bk,ct⟩=>
 ⟨Z0,H0,Z,Γ,{ Dp with nx:=q Dp },E,h,λZ' Γ' σ' H' E' s' h'=>⟨Z0,H0,Z',Γ',Dp,E',h',λZ2 Γ2 σ2 H2 E2 s2=>nx Z2 Γ2 σ2 H2 E2 (s'.trans s2),rt,λZ2 Γ2 σ2 H2 E2 s2=>bk Z2 Γ2 σ2 H2 E2 (s'.trans s2),λZ2 Γ2 σ2 H2 E2 s2=>ct Z2 Γ2 σ2 H2 E2 (s'.trans s2)⟩,rt,bk,ct⟩
def Z5 (p q:xW):xW:=λD Γ=>∃ M:List Sl->Prop,p { D with nx:=M } Γ/\∀ Γ',M Γ'->q D Γ'
theorem jA (h1:PS X st (yu p)) (h2:xJ X sts (yu q)):xJ X (st :: sts) (yu (Z5 p q)):=qP (uU h1 h2) λD σ H ⟨Z0,H0,Z,Γ,Dp,E,⟨M,h,k⟩,nx,rt,bk,ct⟩=>
 ⟨Z0,H0,Z,Γ,{ Dp with nx:=M },E,h,λZ' Γ' σ' H' E' s' h'=>⟨Z0,H0,Z',Γ',Dp,E',k Γ' h',λZ2 Γ2 σ2 H2 E2 s2=>nx Z2 Γ2 σ2 H2 E2 (s'.trans s2),rt,λZ2 Γ2 σ2 H2 E2 s2=>bk Z2 Γ2 σ2 H2 E2 (s'.trans s2),λZ2 Γ2 σ2 H2 E2 s2=>ct Z2 Γ2 σ2 H2 E2 (s'.trans s2)⟩,rt,bk,ct⟩
theorem zP (h1:PS X st (yu p)):xJ X [st] (yu p):=jq h1
def JE (i:Nat) (p:xW):xW:=λD Γ=>p D (frz Γ i)
theorem ww (i:Nat) (h1:PS X st (yu p)):PS X st (yu (JE i p)):=yM h1 λD σ H ⟨Z0,H0,Z,Γ,Dp,E,h,nx,rt,bk,ct⟩=>by
 obtain ⟨Z',E',s⟩:=E.frz i
 exact ⟨Z0,H0,Z',_,Dp,E',h,λZ2 Γ2 σ2 H2 E2 s2=>nx Z2 Γ2 σ2 H2 E2 (s.trans s2),rt,λZ2 Γ2 σ2 H2 E2 s2=>bk Z2 Γ2 σ2 H2 E2 (s.trans s2),λZ2 Γ2 σ2 H2 E2 s2=>ct Z2 Γ2 σ2 H2 E2 (s.trans s2)⟩
def Z6 (i:Nat) (pa:yF):xW:=λD Γ=>pa Γ λd=>D.nx (yH Γ i (.sh d))
theorem zQH {i:Nat} (D:xg) (σ:St) (H:Hp):yu (Z6 i pa) D σ H->uV (tP pa) (jt i) D σ H:=λ⟨Z0,H0,Z,Γ,Dp,E,h,nx,rt,bk,ct⟩=>
 ⟨Z,Γ,_,E.e,h,λd v H1 hd s1 hv=>nx Z _ _ H1 ((E.mv s1).set hv i) (yY s1) hd⟩
theorem zv (i:Nat) {x:Str} {pos':Pos} (hN:X.N.Nodup) (hi:X.N[i]? = some x) (hx:jP X.env.scope x) (he:PE X e (tP pa)) (hs:swapsWith e (some (.Name x pos')) pos.line X.env=pure false:=by rfl) (hf:X.fn x=true\/X.env.scope.names.lookup x=some .local:=by first | exact .inl rfl | exact .inr rfl | assumption) :
  PS X (.Assign [.Name x pos'] e pos) (yu (Z6 i pa)):=yM (gA hN hi hx he hs hf) zQH
def JF (js:List Nat) (po:D->Option (List D)) (pa:yF):xW:=λD Γ=>pa Γ λd=>ul (po d) λos=>D.nx (Xq Γ js os)
theorem jB {tg:Expr} {js:List Nat} {po:D->Option (List D)} (he:PE X e (tP pa)) (hg:PG X tg (tG js po)) (hs:swapsWithSole [tg] e pos.line X.env=pure false:=by rfl) (hw:swappedStores [tg] e X.env=pure none:=by rfl)
  (h1:(assignEach [tg] X.env).map (·.2)=[assign tg X.env]:=by rfl):PS X (.Assign [tg] e pos) (yu (JF js po pa)):=yM (kL he hg hs hw h1) λD σ H ⟨Z0,H0,Z,Γ,Dp,E,h,nx,rt,bk,ct⟩=>
 ⟨Z,Γ,_,E.e,h,λd v H1 hd s1 hv=>by
  obtain ⟨os,ho,hd⟩:=Zu hd
  exact ⟨Z,d,os,hv,ho,λvs hvs=>nx Z _ _ H1 ((E.mv s1).setN hvs) (yY s1) hd⟩⟩
def JG (i:Nat) (pl:y6):xW:=λD Γ=>pl Γ λds=>ds.length<=1000/\D.nx (yH Γ i (.ow ds))
theorem va (i:Nat) {x:Str} {pos' lp:Pos} (hN:X.N.Nodup) (hi:X.N[i]? = some x) (hx:jP X.env.scope x) (he:PA X es (wV pl)) (hs:swapsWith (.List es lp) (some (.Name x pos')) pos.line X.env=pure false:=by rfl) (hf:X.fn x=true\/X.env.scope.names.lookup x=some .local:=by first | exact .inl rfl | exact .inr rfl | assumption) :
  PS X (.Assign [.Name x pos'] (.List es lp) pos) (yu (JG i pl)):=yM (gA hN hi hx (KL he) hs hf) λD σ H ⟨Z0,H0,Z,Γ,Dp,E,h,nx,rt,bk,ct⟩=>
 ⟨Z,Γ,_,E.e,h,λds vs H1 hd s1 hv=>⟨few (by rw [xu hv]; exact hd.1),λl hl=>by
  obtain ⟨E2,s2⟩:=(E.mv s1).make hl hv i
  exact nx _ _ _ _ E2 ((yY s1).trans s2) hd.2⟩⟩
def Z7:D->(List D->Prop)->Prop
 | .lst es,k=>k es
 | _,_=>False
def zQ0 (i:Nat) (ow:Bool) (caps:List Nat) (pi:y6) (po:D->Option (List D)) (pe:yF):xW:=λT Γ=>pi Γ λds=>zl ds (λd S=>ul (po d) λos=>pe (os.map Sl.sh++caps.map λj=>un (slot Γ j)) S) λd=>Z7 d λes=>T.nx (yH Γ i (match ow with | true=>.ow es | false=>.sh (.lst es)))
theorem uO (i:Nat) (ow:Bool) {scope:Scope} {own:List Str} {caps:List (Nat × Str)} {tg iter elt:Expr} {pi:y6} {po:D->Option (List D)} {pe:yF} {js:List Nat} {y:Str} {py spos:Pos} (hN:X.N.Nodup) (hy:X.N[i]? = some y) (hl:X.env.scope.names.lookup y=some .local) (B:vS X scope own caps) (hc:X.calm=true) (hj:js=List.range' 0 own.length) (hk:∀ d os,po d=some os->os.length=js.length)
  (hi:PI X tg iter (um pi)) (hg:∀ C s₀ H₀ ex,PG (yZ X scope (ze own caps) C s₀ H₀ ex) tg (tG js po)) (he:∀ C s₀ H₀ ex,PE (yZ X scope (ze own caps) C s₀ H₀ ex) elt (tP pe)) (hsw:swapsWith (.ListComp elt [⟨tg,iter,[],0⟩] scope pos) (some (.Name y py)) spos.line X.env=pure true) (hs:∀ x,foldedSetIterable iter X.env x=pure x:=by intro _; rfl) :
  PS X (.Assign [.Name y py] (.ListComp elt [⟨tg,iter,[],0⟩] scope pos) spos) (yu (zQ0 i ow (caps.map (·.1)) pi po pe)):=yM (Ud hN hy hl B hc hi hg he hsw hs) λD σ H ⟨Z0,H0,Z,Γ,Dp,E,h,nx,rt,bk,ct⟩=>
 ⟨Z,Γ,_,E.e,h,λds J H1 ⟨fw,F,hF,hR⟩ s1 wk=>zMv (E.e.same s1) wk hj hk fw hF λes ys H' l h1 s2 h2 hp=>by
  have E1:=(E.mv s1).mv s2
  cases ow with
  | true=>
   obtain ⟨E2,s3⟩:=E1.make hp h2 i
   exact nx _ _ _ _ E2 ((yY (s1.trans s2)).trans s3) (hR es h1)
  | false=>exact nx Z _ _ _ ((E1.mv (xA hp _)).set (u7 E1.e.zd hp h2) i) (yY (s1.trans (s2.trans (xA hp _)))) (hR es h1)⟩
def JH (pa:yF):xW:=λD Γ=>pa Γ D.rt
theorem zX (he:PE X e (tP pa)):PS X (.Return (some e) pos) (yu (JH pa)):=yM (Q0 he) λD σ H ⟨Z0,H0,Z,Γ,Dp,E,h,nx,rt,bk,ct⟩=>
 ⟨Z,Γ,_,E.e,h,λd v H1 hd s1 hv=>rt d v H1 (E.same.trans s1) (hv.same (Xi E.z0)) hd⟩
def pIf (t:wq) (p q:xW):xW:=λD Γ=>t Γ λc=>wv c (p D Γ) (q D Γ)
theorem yR {c:Expr} {a b:List Stmt} {t:wq} (hc:PT X c (xU t)) (ha:xJ X a (yu p)) (hb:xJ X b (yu q)):PS X (.If c a b pos) (yu (pIf t p q)):=yM (Q1 hc ha hb) λD σ H ⟨Z0,H0,Z,Γ,Dp,E,h,nx,rt,bk,ct⟩=>
 ⟨Z,Γ,_,E.e,h,λc H1 hd s1=>by
  have f:∀ {P:List Sl->Prop} {Q:St->Hp->Prop},(∀ Z' Γ' σ' H',yt Z0 H0 Z' Γ' σ' H'->zD (zT Z H) (zT Z' H')->P Γ'->Q σ' H')->∀ Z' Γ' σ' H',yt Z0 H0 Z' Γ' σ' H'->zD (zT Z H1) (zT Z' H')->P Γ'->Q σ' H':=λg Z2 Γ2 σ2 H2 E2 s2=>g Z2 Γ2 σ2 H2 E2 ((yY s1).trans s2)
  cases c with
  | true=>exact ⟨Z0,H0,Z,Γ,Dp,E.mv s1,hd.1 rfl,f nx,rt,f bk,f ct⟩
  | false=>exact ⟨Z0,H0,Z,Γ,Dp,E.mv s1,hd.2 rfl,f nx,rt,f bk,f ct⟩⟩
def zQy:xW:=λ_ _=>False
theorem Xy:PS X st (yu zQy):=yM zNp λD σ H ⟨Z0,H0,Z,Γ,Dp,E,h,nx,rt,bk,ct⟩=>h
def JI (pi:y6) (js:List Nat) (po:D->Option (List D)) (pb:xW):xW:=λD Γ=>pi Γ λds=>∃ I:Nat->List Sl->Prop,I 0 Γ/\(∀ k d Γ',ds[k]? = some d->I k Γ'->ul (po d) λos=>pb ⟨I (k + 1),D.rt,D.nx,I (k + 1)⟩ (Xq Γ' js os))/\∀ Γ',I ds.length Γ'->D.nx Γ'
theorem wL {tg iter:Expr} {body:List Stmt} {pi:y6} {js:List Nat} {po:D->Option (List D)} (hp:PassesOwn (model X.prog X.w) X.A X.env X.xe) (hc:X.calm=true) (hi:PI X tg iter (um pi)) (hg:PG X tg (tG js po)) (hb:xJ X body (yu p))
  (hs:∀ x,foldedSetIterable iter X.env x=pure x:=by intro _; rfl):PS X (.For tg iter body [] pos) (yu (JI pi js po p)):=yM (Y8 hp hc hi hg hb hs) λD σ H ⟨Z0,H0,Z,Γ,Dp,E,h,nx,rt,bk,ct⟩=>
 ⟨Z,Γ,_,E.e,h,λds J H1 ⟨I,h0,hst,hd⟩ s1 wk=>by
  have g:∀ {Q:List Sl->Prop} {T:St->Hp->Prop} {Z1 H2},zD (zT Z H1) (zT Z1 H2)->(∀ Z' Γ' σ' H',yt Z0 H0 Z' Γ' σ' H'->zD (zT Z H) (zT Z' H')->Q Γ'->T σ' H')->∀ Z' Γ' σ' H',yt Z0 H0 Z' Γ' σ' H'->zD (zT Z1 H2) (zT Z' H')->Q Γ'->T σ' H':=λs k Z2 Γ2 σ2 H2 E2 s2=>k Z2 Γ2 σ2 H2 E2 ((yY s1).trans (s.trans s2))
  refine ⟨λi m σ' H'=>m + i=ds.length/\∃ Z' Γ',yt Z0 H0 Z' Γ' σ' H'/\zD (zT Z H1) (zT Z' H')/\I i Γ',⟨ds.length,rfl,Z,Γ,E.mv s1,zD.refl _,h0⟩,?_⟩
  rintro i m σ' H' ⟨hm,Z',Γ',E',s',hI⟩
  obtain ⟨w1,w2⟩:=wk i Z' H' s' E'.e.zd
  by_cases hi:i < ds.length
  ·refine .inr ⟨(w1 _ (List.getElem?_eq_getElem hi)).1,λσ' H'=>m - 1 + (i + 1)=ds.length/\∃ Z' Γ',yt Z0 H0 Z' Γ' σ' H'/\zD (zT Z H1) (zT Z' H')/\I (i + 1) Γ',λσ2 H2 k=>⟨m - 1,by omega,k⟩,λx H2 yl=>?_⟩
   obtain ⟨s2,dv⟩:=(w1 _ (List.getElem?_eq_getElem hi)).2 x H2 yl
   obtain ⟨os,ho,hb⟩:=Zu (hst i _ Γ' (List.getElem?_eq_getElem hi) hI)
   refine ⟨Z',_,os,dv,ho,λvs hvs=>?_⟩
   have s3:=s'.trans (yY s2)
   have again:∀ Z2 Γ2 σ2 H3,yt Z0 H0 Z2 Γ2 σ2 H3->zD (zT Z' H2) (zT Z2 H3)->I (i + 1) Γ2->m - 1 + (i + 1)=ds.length/\∃ Z' Γ',yt Z0 H0 Z' Γ' σ2 H3/\zD (zT Z H1) (zT Z' H3)/\I (i + 1) Γ':=λZ2 Γ2 σ2 H3 E3 k hI=>⟨by omega,Z2,Γ2,E3,s3.trans k,hI⟩
   exact ⟨Z0,H0,Z',_,_,(E'.mv s2).setN hvs,hb,again,rt,g s3 nx,again⟩
  ·have ei:i=ds.length:=by omega
   rw [ei] at hI
   exact .inl ⟨w2 ei,nx Z' Γ' σ' H' E' ((yY s1).trans s') (hd Γ' hI)⟩⟩
def JJ:Sl->(List D->Prop)->Prop
 | .ow ds,R=>R ds
 | _,_=>False
theorem zL4 {s:Sl} {R:List D->Prop} (h:JJ s R):∃ ds,s=.ow ds/\R ds:=by
 cases s with
 | ow ds=>exact ⟨ds,rfl,h⟩
 | _=>exact h.elim
def JK (i:Nat) (pa:yF):xW:=λD Γ=>JJ (slot Γ i) λds=>pa Γ λd=>ds.length < 1000/\D.nx (yH Γ i (.ow (ds++[d])))
theorem wY {i:Nat} {K:PySem.W.Frag} (D:xg) (σ:St) (H:Hp):yu (JK i pa) D σ H->Qz (Kh K "list" qA (u5 i) (gE (tP pa) vz)) D σ H:=λ⟨Z0,H0,Z,Γ,Dp,E,h,nx,rt,bk,ct⟩=>by
 obtain ⟨ds,hs,h⟩:=zL4 h
 obtain ⟨l,xs,hl,hz,el,hx⟩:=E.e.ow i ds hs
 refine ⟨.ref l,hl,.inl ⟨rfl,xs,zR.of el⟩,Z,Γ,_,E.e,h,λd v H1 hd s1 hv=>?_⟩
 have hx1:=xT (yY s1) hx
 exact ⟨l,xs,v,rfl,rfl,s1 _ _ el,uj (by rw [xu hx]; omega),nx Z _ _ _ ((E.mv s1).put hs hl hz (uy hv hx1)) ((yY s1).trans (Xx hz)) hd.2⟩
def ixL (ds:List D):D->(D->Prop)->Prop
 | .int i,R=>∃ d,yL ds i=some d/\R d
 | _,_=>False
def JL (i:Nat) (pb:yF):yF:=λΓ R=>JJ (slot Γ i) λds=>pb Γ λk=>ixL ds k R
theorem zQf (i:Nat) {x:Str} {b:Expr} {xp:Pos} (hb:PE X b (tP pb)) (hs:UP b) (hN:X.N[i]? = some x:=by rfl) (hv:jp X.env.scope x:=by first | exact Or.inl rfl | exact Or.inr (Or.inl rfl) | exact Or.inr (Or.inr rfl)) (hd:(x == ("__debug__" : Str))=false:=by decide)
  (hcd:(x == ("__classdict__" : Str))=false:=by decide):PE X (.Subscript (.Name x xp) b pos) (tP (JL i pb)):=yO (uF uG (yi i hN hv hd hcd) hb hs) λσ H Q ⟨Z,Γ,R,E,h,q⟩=>by
 obtain ⟨ds,hs,h⟩:=zL4 h
 obtain ⟨l,xs,hl,hz,el,hx⟩:=E.ow i ds hs
 refine ⟨.ref l,hl,Z,Γ,_,E,h,λk u H2 hk s2 hu=>?_⟩
 unfold ixL at hk
 split at hk
 ·cases hu
  obtain ⟨d,hd,hR⟩:=hk
  obtain ⟨v,hv,hh⟩:=Xo hx hd
  exact ⟨l,xs,_,v,rfl,rfl,zR.of (s2 _ _ el),hv,q _ _ H2 hR s2 (hh.same (yY s2))⟩
 ·exact hk.elim
def D.isInt:D->Bool
 | .int _=>true
 | .bool _=>true
 | _=>false
def D.isBool:D->Bool
 | .bool _=>true
 | _=>false
def D.isLst:D->Bool
 | .lst _=>true
 | .scr _=>true
 | _=>false
def D.isTup:D->Bool
 | .tup _=>true
 | _=>false
def D.isObj:D->Bool
 | .obj ..=>true
 | _=>false
def Z8 (c:String) (f:D->Bool):D->(D->Prop)->Prop:=λd R=>d.isObj=false/\R (.bool (f d))
theorem Xz {K:PySem.W.Frag} {H:Hp} {v:V} {d:D} (h:DV H v d) (o:d.isObj=false):∃ t,yV K H v t/\PySem.W.kitOne K t (.type "int")=some d.isInt/\PySem.W.kitOne K t (.type "bool")=some d.isBool/\PySem.W.kitOne K t (.type "list")=some d.isLst/\PySem.W.kitOne K t (.type "tuple")=some d.isTup:=by
 cases h with
 | int i=>exact ⟨_,.int i,jV K .int,jW K .int,jY K .int,jX K .int⟩
 | bool b=>exact ⟨_,.bl b,jV K .bool,jW K .bool,jY K .bool,jX K .bool⟩
 | non=>exact ⟨_,.non,jV K .non,jW K .non,jY K .non,jX K .non⟩
 | str x=>exact ⟨_,.str x,jV K .str,jW K .str,jY K .str,jX K .str⟩
 | scr e=>
  rcases e with e | ⟨o,e⟩
  ·exact ⟨_,.lst e,jV K .lst,jW K .lst,jY K .lst,jX K .lst⟩
  ·exact ⟨_,.frz e,jV K .lst,jW K .lst,jY K .lst,jX K .lst⟩
 | lst e _=>exact ⟨_,.lst e,jV K .lst,jW K .lst,jY K .lst,jX K .lst⟩
 | tup e _=>exact ⟨_,.tup e,jV K .tup,jW K .tup,jY K .tup,jX K .tup⟩
 | obj e _ _=>cases o
theorem wx {K:PySem.W.Frag} {c:String} {f:D->Bool} (hf:∀ H v d,DV H v d->d.isObj=false->∃ t,yV K H v t/\PySem.W.kitOne K t (.type c)=some (f d)) (σ:St) (H:Hp) (Q:VK):tP (Zb (Z8 c f) pa) σ H Q->ka (Ks K) (gE (tP pa) (gE (tC (.ty c)) vz)) σ H Q:=λ⟨Z,Γ,R,E,h,q⟩=>
 ⟨Z,Γ,_,E,h,λd v H1 hd s1 hv=>by
  obtain ⟨t,h1,h2⟩:=hf H1 v d (hv.same yC) hd.1
  exact ⟨v,c,t,_,rfl,h1,h2,q _ _ H1 hd.2 s1 (.bool _)⟩⟩
theorem zRM {K:PySem.W.Frag} (H:Hp) (v:V) (d:D) (h:DV H v d) (o:d.isObj=false):∃ t,yV K H v t/\PySem.W.kitOne K t (.type "int")=some d.isInt:=let ⟨t,h1,h2,_⟩:=Xz h o; ⟨t,h1,h2⟩
theorem zJ4 {K:PySem.W.Frag} (H:Hp) (v:V) (d:D) (h:DV H v d) (o:d.isObj=false):∃ t,yV K H v t/\PySem.W.kitOne K t (.type "bool")=some d.isBool:=let ⟨t,h1,_,h2,_⟩:=Xz h o; ⟨t,h1,h2⟩
theorem jC {K:PySem.W.Frag} (H:Hp) (v:V) (d:D) (h:DV H v d) (o:d.isObj=false):∃ t,yV K H v t/\PySem.W.kitOne K t (.type "list")=some d.isLst:=let ⟨t,h1,_,_,h2,_⟩:=Xz h o; ⟨t,h1,h2⟩
theorem Z9 {K:PySem.W.Frag} (H:Hp) (v:V) (d:D) (h:DV H v d) (o:d.isObj=false):∃ t,yV K H v t/\PySem.W.kitOne K t (.type "tuple")=some d.isTup:=let ⟨t,h1,_,_,_,h2⟩:=Xz h o; ⟨t,h1,h2⟩
end
inductive zJ (F:FL) (vs:List V) (H:Hp) (Q:VK) (E:XK):Prop
 | mk (Z:Addr->Prop) (ds:List D) (R:D->Prop) (zd:ZL Z H) (hv:yK (zT Z H) vs ds) (h:F ds R) (q:∀ d v H',R d->zD H H'->DV (zT Z H') v d->Q v H'):zJ F vs H Q E
section
variable {P:Program} {w:World} {K:PySem.W.Frag} {mg:Str->Option Value} {base:Heap}
theorem qQ (n i:Nat):slot (List.replicate n .no) i=.no:=by
 rw [zJh]
 cases h:(List.replicate n Sl.no)[i]? with
 | none=>rfl
 | some x=>exact List.eq_of_mem_replicate (List.mem_of_getElem? h)
theorem zIa {Z:Addr->Prop} {H:Hp} {vs:List V} {ds:List D} (zd:ZL Z H) (h:yK (zT Z H) vs ds) (n:Nat):yn Z (ds.map Sl.sh++List.replicate n .no) (vs.map some++List.replicate n none) H:=by
 have no:∀ i as,slot (ds.map Sl.sh++List.replicate n .no) i≠.ow as:=Xv λi as h=>by rw [qQ] at h; cases h
 have nob:∀ i o c ns as,slot (ds.map Sl.sh++List.replicate n .no) i≠.ob o c ns as:=Xu λi o c ns as h=>by rw [qQ] at h; cases h
 refine ⟨?_,λi as e=>absurd e (no i as),λi o c ns as e=>absurd e (nob i o c ns as),λi _ as _ _ e=>absurd e (no i as),zd,?_⟩
 clear nob
 ·induction h with
  | nil=>
   intro i d e
   change slot (List.replicate n .no) i=_ at e
   rw [qQ] at e
   cases e
  | @cons v d vs ds hv _ ih=>
   intro i e q
   cases i with
   | zero=>cases q; exact ⟨v,rfl,hv⟩
   | succ i=>
    obtain ⟨u,h1,h2⟩:=ih (λi=>no (i + 1)) i e q
    exact ⟨u,by rw [List.map_cons,List.cons_append,List.getElem?_cons_succ]; exact h1,h2⟩
 ·rw [List.length_append,List.length_append,List.length_map,List.length_map,List.length_replicate,List.length_replicate,xu h]
theorem zJy {N ps:List Str} {F:FL} {p:xW} (len:∀ ds R,F ds R->ds.length=ps.length) (h2:∀ ds R,F ds R->p { nx:=λ_=>R .non,rt:=R } (ds.map Sl.sh++List.replicate (N.length - ps.length) .no)) {H:Hp} {vs:List V} {Q:VK} {E:XK} (h:zJ F vs H Q E):yu p { nx:=λ_ H'=>Q .non H',rt:=Q } (L2.vO N vs) H:=by
 obtain ⟨Z,ds,R,zd,hv,h,q⟩:=h
 have e:L2.vO N vs=vs.map some++List.replicate (N.length - ps.length) none:=by
  unfold L2.vO
  rw [xu hv,len ds R h]
 refine ⟨Z,H,Z,_,_,⟨?_,λ_ h=>h,zd,zD.refl _,?_,?_⟩,h2 ds R h,λZ' Γ' σ' H' E' _ hn=>q .non .non H' hn E'.same .non,λd v H' s' hv' hd=>q d v H' hd s' hv',λ_ _ _ _ _ _ h=>h.elim,λ_ _ _ _ _ _ h=>h.elim⟩
 ·rw [e]
  exact zIa zd hv _
 ·exact λi as l e=>absurd e (Xv (λi as h=>by rw [qQ] at h; cases h) i as)
 ·exact λi o c ns as e=>absurd e (Xu (λi o c ns as h=>by rw [qQ] at h; cases h) i o c ns as)
theorem JM {ps:List Str} {F:FL} (len:∀ ds R,F ds R->ds.length=ps.length) (vs:List V) (H:Hp) (Q:VK) (E:XK):zJ F vs H Q E->vs.length=ps.length:=λ⟨Z,ds,R,zd,hv,h,q⟩=>by rw [xu hv]; exact len ds R h
theorem zx {x qual:Str} {st:Stmt} {f:Addr} {fd:FuncData} {N ps:List Str} {k:Nat} {F:FL} (Fu:zj K x qual st f fd) (S:zh N ps (zK st)) (len:∀ ds R,F ds R->ds.length=ps.length)
  (hbody:∀ (cdv:Value) (A:Around) (outer:List Env) (s:Shared) (H:Hp) (E:XK),zo k (A.deeper (envOfC qual (zK st) s.heap.objs.size f cdv))->
   ∃ p,xJ (xh zY P w K mg base N qual (zK st) f cdv A outer s H E).nox (xY st) (yu p)/\∀ ds R,F ds R->p { nx:=λ_=>R .non,rt:=R } (ds.map Sl.sh++List.replicate (N.length - ps.length) .no)):zG P w K mg base zY (k + 1) f fd ps (zJ F):=
 Fu.ok S (JM len) λcdv A outer s H vs Q E hr h=>let ⟨p,h1,h2⟩:=hbody cdv A outer s H E hr; ⟨_,h1,zJy len h2 h⟩
theorem YA {x qual:Str} {st:Stmt} {f:Addr} {fd:FuncData} {dv:Value} {N ps:List Str} {k:Nat} {F:FL} (Fu:xG K x qual st f fd dv) (S:zh N ps (zK st)) (len:∀ ds R,F ds R->ds.length=ps.length)
  (hbody:∀ (cdv:Value) (A:Around) (outer:List Env) (s:Shared) (H:Hp) (E:XK),zo k (A.deeper (envOfC qual (zK st) s.heap.objs.size f cdv))->
   ∃ p,xJ (xh zY P w K mg base N qual (zK st) f cdv A outer s H E).nox (xY st) (yu p)/\∀ ds R,F ds R->p { nx:=λ_=>R .non,rt:=R } (ds.map Sl.sh++List.replicate (N.length - ps.length) .no)):zG P w K mg base zY (k + 1) f fd ps (zJ F):=
 Fu.ok S (JM len) λcdv A outer s H vs Q E hr h=>let ⟨p,h1,h2⟩:=hbody cdv A outer s H E hr; ⟨_,h1,zJy len h2 h⟩
theorem zQ {X:Cx} {x:Str} {ps:List Str} {k:Nat} {F:FL} {e:Expr} {es:List Expr} {pl:y6} {p pos:Pos} (c:Fn X.prog X.w X.K X.mg X.base x ps k (zJ F)) (hr:zo k X.A) (hg:Gl X x) (ha:PA X (e :: es) (wV pl))
  (hdb:(x == ("__debug__" : Str))=false:=by decide) (he:starEach (e :: es) X.env=(false,eval e X.env) :: starEach es X.env:=by rfl) (hpl:(backTo pos (starEach es X.env)).any (·.1)=false:=by rfl) :
  PE X (.Call (.Name x p) (e :: es) [] pos) (tP (jd F pl)):=yO (UY c hr hg ha hdb he hpl) λσ H Q ⟨Z,Γ,R,E,h,q⟩=>
 ⟨Z,Γ,_,E,h,λds vs H1 hd s1 hv=>⟨Z,ds,R,(E.same s1).zd,by rw [List.append_nil]; exact hv,hd,λd v H2 h2 s2 hv2=>q d v H2 h2 (s1.trans s2) hv2⟩⟩
end
end Pu
namespace Pu
open PySem L2 Sh
open PyProof.Rows (envOfC)
theorem zJp {f:Str} {y:V}:∀ {ns:List Str} {xs:List V},ns.length=xs.length->f∉ns->ye f y (ns.zip xs)=(ns++[f]).zip (xs++[y])
 | [],[],_,_=>rfl
 | [],_ :: _,h,_=>nomatch h
 | _ :: _,[],h,_=>nomatch h
 | n :: ns,x :: xs,h,hf=>by
  show (if n=f then (n,y) :: ns.zip xs else (n,x) :: ye f y (ns.zip xs))=_
  rw [if_neg (λz=>hf (by rw [z]; exact List.mem_cons_self)),zJp (Nat.succ.inj h) (λz=>hf (List.mem_cons_of_mem _ z))]
  rfl
theorem yt.putO {Z0:Addr->Prop} {H0:Hp} {Z:Addr->Prop} {Γ:List Sl} {σ:St} {H:Hp} (E:yt Z0 H0 Z Γ σ H) {i:Nat} {o c dx:Addr} {ns ns':List Str} {ds ds':List D} {xs:List V} (hs:slot Γ i=.ob o c ns ds) (he:∃ fs,H o=some (.ins c dx fs)) (hl:ns'.length=xs.length) (hx:yK (zT Z H) xs ds') (one:∀ j o' c' ns' ds',slot Γ j=.ob o' c' ns' ds'->j=i):yt Z0 H0 Z (yH Γ i (.ob o c ns' ds')) σ (zW H o (.ins c dx (ns'.zip xs))):=by
 obtain ⟨dx0,xs0,hl0,hz,el,_⟩:=E.e.ob i o c ns ds hs
 have li:=ua (Γ:=Γ) (i:=i) (by rw [hs]; exact λz=>nomatch z)
 have hp:zD (zT Z H) (zT Z (zW H o (.ins c dx (ns'.zip xs)))):=Xx hz
 have keyw:∀ j d,slot (yH Γ i (.ob o c ns' ds')) j=.ow d->slot Γ j=.ow d:=λj d q=>by
  rw [xj] at q
  by_cases c:j=i/\i < Γ.length
  ·rw [if_pos c] at q; cases q
  ·rw [if_neg c] at q; exact q
 refine ⟨⟨λj d q=>?_,λj d q=>?_,λj o' c' ns1 d q=>?_,λj k as bs m q r=>E.e.ne j k as bs m (keyw j as q) (keyw k bs r),λb hb=>?_,by rw [gR]; exact E.e.len⟩,E.z0,E.z0d,?_,λj d m q=>E.own j d m (keyw j d q),λj o' c' ns1 d q=>?_⟩
 ·rw [xj] at q
  by_cases c:j=i/\i < Γ.length
  ·rw [if_pos c] at q; cases q
  ·rw [if_neg c] at q
   obtain ⟨v,h1,h2⟩:=E.e.sh j d q
   exact ⟨v,h1,h2.same hp⟩
 ·obtain ⟨m,ys,h1,h2,h3,h4⟩:=E.e.ow j d (keyw j d q)
  have nm:m≠o:=λz=>by rw [z,el] at h3; cases h3
  exact ⟨m,ys,h1,h2,by rw [zt nm]; exact h3,xT hp h4⟩
 ·rw [xj] at q
  by_cases c:j=i/\i < Γ.length
  ·rw [if_pos c] at q
   cases q
   rw [c.1]
   exact ⟨dx,xs,hl0,hz,xI,hl,xT hp hx⟩
  ·rw [if_neg c] at q
   exact absurd ⟨one _ _ _ _ _ q,li⟩ c
 ·obtain ⟨u,e,n⟩:=E.e.zd b hb
  by_cases c:b=o
  ·rw [c]; exact ⟨_,xI,λ_ z=>nomatch z⟩
  ·exact ⟨u,by rw [zt c]; exact e,n⟩
 ·exact λb u e=>by
   rw [zt (xn e (E.owb i o c ns ds hs))]
   exact E.same _ _ e
 ·rw [xj] at q
  by_cases c:j=i/\i < Γ.length
  ·rw [if_pos c] at q
   cases q
   exact E.owb i o _ ns ds hs
  ·rw [if_neg c] at q
   exact E.owb j o' c' ns1 d q
def YB:Sl->(Addr->Addr->List Str->List D->Prop)->Prop
 | .ob o c ns ds,R=>R o c ns ds
 | _,_=>False
theorem zML {s:Sl} {R:Addr->Addr->List Str->List D->Prop} (h:YB s R):∃ o c ns ds,s=.ob o c ns ds/\R o c ns ds:=by
 cases s with
 | ob o c ns ds=>exact ⟨o,c,ns,ds,rfl,h⟩
 | _=>exact h.elim
def qR:List Sl->Bool
 | []=>true
 | .ob _ _ _ _ :: _=>false
 | _ :: t=>qR t
theorem X0:∀ {Γ:List Sl},qR Γ=true->∀ j o c ns ds,slot Γ j≠.ob o c ns ds
 | [],_,_,_,_,_,_,h=>nomatch h
 | .no :: _,_,0,_,_,_,_,h=>nomatch h
 | .sh _ :: _,_,0,_,_,_,_,h=>nomatch h
 | .ow _ :: _,_,0,_,_,_,_,h=>nomatch h
 | .ob .. :: _,g,_,_,_,_,_,_=>nomatch g
 | .no :: t,g,j + 1,o,c,ns,ds,h=>X0 (Γ:=t) g j o c ns ds h
 | .sh _ :: t,g,j + 1,o,c,ns,ds,h=>X0 (Γ:=t) g j o c ns ds h
 | .ow _ :: t,g,j + 1,o,c,ns,ds,h=>X0 (Γ:=t) g j o c ns ds h
def zRs (K:PySem.W.Frag) (c:Addr) (f:Str):Prop:=uW K c/\yp K c f
def JN (K:PySem.W.Frag) (f:Str) (pa:yF):xW:=λT Γ=>pa Γ λd=>YB (slot Γ 0) λo c ns ds=>zRs K c f/\f∉ns/\ns.length < 900/\qR (Γ.drop 1)=true/\T.nx (yH Γ 0 (.ob o c (ns++[f]) (ds++[d])))
section
variable {X:Cx} {e:Expr} {es:List Expr} {pos:Pos} {pa:yF} {pl:y6} {C:Addr}
theorem wy {K:PySem.W.Frag} {f:Str} (D:xg) (σ:St) (H:Hp):yu (JN K f pa) D σ H->kZ K (u5 0) (tP pa) f D σ H:=λ⟨Z0,H0,Z,Γ,Dp,E,h,nx,rt,bk,ct⟩=>
 ⟨Z,Γ,_,E.e,h,λd v H1 hd s1 hv=>by
  obtain ⟨o,c,ns,ds,hs,hk,hf,hn,hn2,hd⟩:=zML hd
  obtain ⟨dx,xs,hl,hz,el,ln,hx⟩:=(E.mv s1).e.ob 0 o c ns ds hs
  refine ⟨.ref o,hl,o,c,dx,_,rfl,el,hk.1,hk.2,by rw [List.length_zip]; omega,?_⟩
  rw [zJp ln hf]
  refine nx Z _ _ _ ((E.mv s1).putO hs ⟨_,el⟩ (by rw [List.length_append,List.length_append,ln]; rfl) (uy hv hx) ?_) ((yY s1).trans (Xx hz)) hd
  intro j o' c' ns' ds' q
  cases j with
  | zero=>rfl
  | succ j=>
   cases Γ with
   | nil=>cases q
   | cons x t=>exact absurd q (X0 (Γ:=t) hn2 j o' c' ns' ds')⟩
inductive wf (C:Addr) (F:FL) (vs:List V) (H:Hp) (Q:VK) (E:XK):Prop
 | mk (Z:Addr->Prop) (ds:List D) (R:D->Prop) (o dx:Addr) (us:List V) (e:vs=.ref o :: us) (ho:H o=some (.ins C dx [])) (hz:¬ Z o) (zd:ZL Z H) (hv:yK (zT (λb=>Z b\/b=o) H) us ds) (h:F ds R) (q:∀ d H',R d->zRp o H H'->DV (zT Z H') (.ref o) d->Q .non H'):wf C F vs H Q E
theorem zJz {N ps:List Str} {F:FL} {p:xW} (len:∀ ds R,F ds R->ds.length=ps.length) (h2:∀ o ds R,F ds R->p { nx:=λΓ=>YB (slot Γ 0) λo' c ns es=>o'=o/\R (.obj c ns es),rt:=λ_=>False } (.ob o C [] [] :: (ds.map Sl.sh++List.replicate (N.length - (ps.length + 1)) .no))) {H:Hp} {vs:List V} {Q:VK} {E:XK} (h:wf C F vs H Q E):yu p { nx:=λ_ H'=>Q .non H',rt:=Q } (L2.vO N vs) H:=by
 obtain ⟨Z,ds,R,o,dx,us,e,ho,hz,zd,hv,h,q⟩:=h
 subst e
 have e:L2.vO N (.ref o :: us)=some (.ref o) :: (us.map some++List.replicate (N.length - (ps.length + 1)) none):=by
  unfold L2.vO
  rw [List.length_cons,xu hv,len ds R h]
  rfl
 have zd':ZL (λb=>Z b\/b=o) H:=λb hb=>hb.elim (zd b) λz=>by rw [z]; exact ⟨_,ho,λ_ z=>nomatch z⟩
 have E0:=zIa zd' hv (N.length - (ps.length + 1))
 refine ⟨Z,zT (λb=>b=o) H,λb=>Z b\/b=o,_,_,⟨?_,λ_ h=>.inl h,λb hb=>?_,yC,?_,?_⟩,h2 o ds R h,λZ' Γ' σ' H' E' _ hn=>?_,λ_ _ _ _ _ h=>h.elim,λ_ _ _ _ _ _ h=>h.elim,λ_ _ _ _ _ _ h=>h.elim⟩
 ·rw [e]
  refine ⟨λi d q=>?_,λi d q=>?_,λi o' c ns d q=>?_,λi j as bs l q r=>?_,zd',by rw [List.length_cons,List.length_cons,E0.len]⟩
  ·cases i with
   | zero=>cases q
   | succ i=>exact E0.sh i d q
  ·cases i with
   | zero=>cases q
   | succ i=>exact E0.ow i d q
  ·cases i with
   | zero=>cases q; exact ⟨dx,[],rfl,.inr rfl,ho,rfl,.nil⟩
   | succ i=>exact E0.ob i o' c ns d q
  ·cases i with
   | zero=>cases q
   | succ i=>
    cases j with
    | zero=>cases r
    | succ j=>exact λa b=>congrArg _ (E0.ne i j as bs l q r a b)
 ·obtain ⟨u,e1,n⟩:=zd b hb
  exact ⟨u,(xy (Z:=λb=>b=o) λz=>hz (by rw [<- z]; exact hb)).trans e1,n⟩
 ·intro i as l q
  cases i with
  | zero=>cases q
  | succ i=>exact absurd q (Xv (λi as h=>by rw [qQ] at h; cases h) i as)
 ·intro i o' c ns as q
  cases i with
  | zero=>cases q; exact if_pos rfl
  | succ i=>exact absurd q (Xu (λi o c ns as h=>by rw [qQ] at h; cases h) i o' c ns as)
 ·obtain ⟨o',c,ns,es,hs,e2,hR⟩:=zML hn
  subst e2
  obtain ⟨dx',xs,hl,hz',el,ln,hx⟩:=E'.e.ob 0 o' c ns es hs
  refine q _ H' hR (λb u eb nb=>E'.same _ _ ((xy (Z:=λb=>b=o') nb).trans eb)) (.obj ((xy hz).trans el) ln (xT (Xi E'.z0) hx))
theorem zLa {ps:List Str} {p0:Str} {F:FL} (len:∀ ds R,F ds R->ds.length=ps.length) (vs:List V) (H:Hp) (Q:VK) (E:XK):wf C F vs H Q E->vs.length=(p0 :: ps).length:=λ⟨Z,ds,R,o,dx,us,e,ho,hz,zd,hv,h,q⟩=>by rw [e,List.length_cons,List.length_cons,xu hv,len ds R h]
theorem JO {P:Program} {w:World} {K:PySem.W.Frag} {mg:Str->Option Value} {base:Heap} {x qual:Str} {st:Stmt} {f:Addr} {fd:FuncData} {N ps:List Str} {p0:Str} {k:Nat} {F:FL} (Fu:zj K x qual st f fd) (S:zh N (p0 :: ps) (zK st)) (len:∀ ds R,F ds R->ds.length=ps.length)
  (hbody:∀ (cdv:Value) (A:Around) (outer:List Env) (s:Shared) (H:Hp) (E:XK),zo k (A.deeper (envOfC qual (zK st) s.heap.objs.size f cdv))->
   ∃ p,xJ (xh zY P w K mg base N qual (zK st) f cdv A outer s H E).nox (xY st) (yu p)/\∀ o ds R,F ds R->p { nx:=λΓ=>YB (slot Γ 0) λo' c ns es=>o'=o/\R (.obj c ns es),rt:=λ_=>False } (.ob o C [] [] :: (ds.map Sl.sh++List.replicate (N.length - (ps.length + 1)) .no))):zG P w K mg base zY (k + 1) f fd (p0 :: ps) (wf C F):=
 Fu.ok S (zLa len) λcdv A outer s H vs Q E hr h=>let ⟨p,h1,h2⟩:=hbody cdv A outer s H E hr; ⟨_,h1,zJz len h2 h⟩
theorem JP {P:Program} {w:World} {K:PySem.W.Frag} {mg:Str->Option Value} {base:Heap} {x qual:Str} {st:Stmt} {f:Addr} {fd:FuncData} {dv:Value} {N ps:List Str} {p0:Str} {k:Nat} {F:FL} (Fu:xG K x qual st f fd dv) (S:zh N (p0 :: ps) (zK st)) (len:∀ ds R,F ds R->ds.length=ps.length)
  (hbody:∀ (cdv:Value) (A:Around) (outer:List Env) (s:Shared) (H:Hp) (E:XK),zo k (A.deeper (envOfC qual (zK st) s.heap.objs.size f cdv))->
   ∃ p,xJ (xh zY P w K mg base N qual (zK st) f cdv A outer s H E).nox (xY st) (yu p)/\∀ o ds R,F ds R->p { nx:=λΓ=>YB (slot Γ 0) λo' c ns es=>o'=o/\R (.obj c ns es),rt:=λ_=>False } (.ob o C [] [] :: (ds.map Sl.sh++List.replicate (N.length - (ps.length + 1)) .no))):zG P w K mg base zY (k + 1) f fd (p0 :: ps) (wf C F):=
 Fu.ok S (zLa len) λcdv A outer s H vs Q E hr h=>let ⟨p,h1,h2⟩:=hbody cdv A outer s H E hr; ⟨_,h1,zJz len h2 h⟩
theorem zNU {F:FL} {ev:List V} {ed:List D} (he:∀ H,yK H ev ed) (σ:St) (H:Hp) (Q:VK):tP (jd (λds=>F (ds++ed)) pl) σ H Q->XI C (wf C F) ev E0 (wV pl) σ H Q:=λ⟨Z,Γ,R,E,h,q⟩=>
 ⟨Z,Γ,_,E,h,λds vs H1 hd s1 hv x dx hx hdx ne=>by
  have zd:=(E.same s1).zd
  have s2:zD H1 (zW (zW H1 dx (.own x)) x (.ins C dx [])):=zLk hx hdx ne _ _
  refine ⟨Z,ds++ed,R,x,dx,vs++ev,rfl,xI,zd.new hx,zd.same s2,?_,hd,λd H' hR sb dv=>⟨rfl,q d _ H' hR (zNg (s1.trans s2) sb ?_) dv⟩⟩
  ·refine ZD (xT ?_ hv) (he _)
   intro b o e
   obtain ⟨n1,n2⟩:=qE e
   rw [xy (λz=>z.elim n1 (xn n2 hx))]
   exact s2 _ _ n2
  ·cases k:H x with
   | none=>rfl
   | some o=>rw [s1 _ _ k] at hx; cases hx⟩
theorem zPD {F:FL} (σ:St) (H:Hp) (Q:VK) (h:tP (jd F pl) σ H Q):XI C (wf C F) [] E0 (wV pl) σ H Q:=zNU (ed:=[]) (λ_=>.nil) σ H Q (by rw [show (λds=>F (ds++[]))=F from funext λds=>by rw [List.append_nil]]; exact h)
theorem jf {x:Str} {ps:List Str} {k:Nat} {F:FL} {p:Pos} (c:uI X.prog X.w X.K X.mg X.base C ps k (wf C F)) (T:zE X.K X.mg x C) (hr:zo (k + 1) X.A) (hg:Gl X x) (ha:PA X (e :: es) (wV pl))
  (hdb:(x == ("__debug__" : Str))=false:=by decide) (he:starEach (e :: es) X.env=(false,eval e X.env) :: starEach es X.env:=by rfl) (hpl:(backTo pos (starEach es X.env)).any (·.1)=false:=by rfl) :
  PE X (.Call (.Name x p) (e :: es) [] pos) (tP (jd F pl)):=yO (zNv c T hr hg ha hdb he hpl) zPD
theorem uP {x:Str} {ps:List Str} {k:Nat} {F:FL} {p:Pos} {dv:V} (dd:D) (hd:∀ H,DV H dv dd) (c:vh X.prog X.w X.K X.mg X.base x ps k (zJ F) dv) (hr:zo k X.A) (hg:Gl X x) (ha:PA X (e :: es) (wV pl))
  (hdb:(x == ("__debug__" : Str))=false:=by decide) (he:starEach (e :: es) X.env=(false,eval e X.env) :: starEach es X.env:=by rfl) (hpl:(backTo pos (starEach es X.env)).any (·.1)=false:=by rfl) :
  PE X (.Call (.Name x p) (e :: es) [] pos) (tP (jd (λds=>F (ds++[dd])) pl)):=yO (zLz c hr hg ha hdb he hpl) λσ H Q ⟨Z,Γ,R,E,h,q⟩=>
 ⟨Z,Γ,_,E,h,λds vs H1 hd' s1 hv=>⟨Z,ds++[dd],R,(E.same s1).zd,ZD hv (.cons (hd _) .nil),hd',λd v H2 h2 s2 hv2=>q d v H2 h2 (s1.trans s2) hv2⟩⟩
def YC (K:PySem.W.Frag) (f:Str):D->(D->Prop)->Prop
 | .obj c ns ds,R=>zRs K c f/\∃ d,(ns.zip ds).lookup f=some d/\R d
 | _,_=>False
theorem zIS {H:Hp} {f:Str} {d:D}:∀ {ns:List Str} {xs:List V} {ds:List D},ns.length=xs.length->yK H xs ds->(ns.zip ds).lookup f=some d->∃ v,(ns.zip xs).lookup f=some v/\DV H v d
 | [],_,_,_,_,h=>nomatch h
 | _ :: _,[],_,h,_,_=>nomatch h
 | n :: ns,x :: xs,_,h,.cons (b:=d') (l₂:=dt) k t,q=>by
  change (match f == n with | true=>some d' | false=>(ns.zip dt).lookup f)=some d at q
  show ∃ v,(match f == n with | true=>some x | false=>(ns.zip xs).lookup f)=some v/\_
  cases e:f == n with
  | true=>rw [e] at q; cases q; exact ⟨x,rfl,k⟩
  | false=>rw [e] at q; exact zIS (Nat.succ.inj h) t q
theorem yA (K:PySem.W.Frag) {f:Str} (ha:PE X e (tP pa)) (hb:attributeBase e f X.env (eval e X.env)=eval e X.env) (hK:X.K=K:=by rfl):PE X (.Attribute e f pos) (tP (Zb (YC K f) pa)):=yO (zQw ha hb) λσ H Q ⟨Z,Γ,R,E,h,q⟩=>
 ⟨Z,Γ,_,E,h,λd v H1 hd s1 hv=>by
  unfold YC at hd
  split at hd
  ·obtain ⟨hk,d',hl,hR⟩:=hd
   cases hv with
   | obj e1 l1 h1=>
    obtain ⟨v,e2,dv⟩:=zIS l1 h1 hl
    exact ⟨_,_,_,_,v,rfl,yC _ _ e1,by rw [hK]; exact hk.1,by rw [hK]; exact hk.2,e2,q _ _ H1 hR s1 dv⟩
  ·exact hd.elim⟩
def zRC (C:Addr) (m:Str) (F:FL):D->(D->Prop)->Prop
 | .obj c ns ds,R=>c=C/\m∉ns/\F [.obj c ns ds] R
 | _,_=>False
theorem XO {f:Str}:∀ {ns:List Str} {xs:List V},f∉ns->(ns.zip xs).lookup f=none
 | [],_,_=>rfl
 | _ :: _,[],_=>rfl
 | n :: ns,x :: xs,h=>by
  show (match f == n with | true=>some x | false=>(ns.zip xs).lookup f)=none
  have e:(f == n)=false:=beq_eq_false_iff_ne.mpr λz=>h (by rw [z]; exact List.mem_cons_self)
  rw [e]
  exact XO λz=>h (List.mem_cons_of_mem _ z)
theorem jD {x m:Str} {ps:List Str} {k:Nat} {F:FL} {apos:Pos} {pl:Sem Bool} (c:vi X.prog X.w X.K X.mg X.base C m ps k (zJ F)) (T:zE X.K X.mg x C) (hr:zo k X.A) (ha:PE X e (tP pa))
  (ht:eval (.Call (.Attribute e m apos) [] [] pos) X.env=(do
   let ov <- eval e X.env
   standAt apos.atName
   let (f,first) <- holding [ov] (getMethod ov m pl)
   callWith pos f first (backTo pos (starEach [] X.env)) (backToKw pos (keywordEach [] X.env))):=by rfl) :
  PE X (.Call (.Attribute e m apos) [] [] pos) (tP (Zb (zRC C m F) pa)):=yO (zLx c T hr ha ht) λσ H Q ⟨Z,Γ,R,E,h,q⟩=>
 ⟨Z,Γ,_,E,h,λd v H1 hd s1 hv=>by
  unfold zRC at hd
  split at hd
  ·obtain ⟨rfl,hm,hR⟩:=hd
   have hv0:=hv
   cases hv with
   | obj e1 l1 h1=>exact ⟨_,_,_,rfl,yC _ _ e1,XO hm,Z,_,R,(E.same s1).zd,.cons hv0 .nil,hR,λd v H2 h2 s2 hv2=>q d v H2 h2 (s1.trans s2) hv2⟩
  ·exact hd.elim⟩
def zRO (K:PySem.W.Frag) (C:Addr):D->(D->Prop)->Prop
 | .obj c _ _,R=>(∃ mg x,zE K mg x c)/\∃ b,PySem.W.kitOne K (.ref c) (.ref C)=some b/\R (.bool b)
 | _,_=>False
theorem YD {K:PySem.W.Frag} (σ:St) (H:Hp) (Q:VK):tP (Zb (zRO K C) pa) σ H Q->ka (zOk K) (gE (tP pa) (gE (tC (.ref C)) vz)) σ H Q:=λ⟨Z,Γ,R,E,h,q⟩=>
 ⟨Z,Γ,_,E,h,λd v H1 hd s1 hv=>by
  unfold zRO at hd
  split at hd
  ·obtain ⟨⟨mg,x,T⟩,b,hk,hR⟩:=hd
   cases hv with
   | obj e1 l1 h1=>exact ⟨_,_,_,b,rfl,T.ty (yC _ _ e1),hk,q _ _ H1 hR s1 (.bool _)⟩
  ·exact hd.elim⟩
def YE (pa:yF):xW:=λT Γ=>pa Γ λ_=>T.nx Γ
theorem zNm (he:PE X e (tP pa)) (hs:swapsWith e none pos.line X.env=pure false:=by rfl):PS X (.Expr e pos) (yu (YE pa)):=yM (wE he hs) λD σ H ⟨Z0,H0,Z,Γ,Dp,E,h,nx,rt,bk,ct⟩=>
 ⟨Z,Γ,_,E.e,h,λd v H1 hd s1 hv=>nx Z Γ σ H1 (E.mv s1) (yY s1) hd⟩
end
end Pu
namespace Pu
open PySem L2 Sh
def jg (k:Nat):List D->List D
 | []=>[]
 | d :: t=>xb (.int (k:Int)) d :: jg (k + 1) t
theorem JQ:∀ (k:Nat) (ds:List D),(jg k ds).length=ds.length
 | _,[]=>rfl
 | k,_ :: t=>congrArg (· + 1) (JQ (k + 1) t)
theorem JR:∀ {k:Nat} {ds:List D} {i:Nat} {e:D},(jg k ds)[i]? = some e->∃ d,ds[i]? = some d/\e=xb (.int ((k + i:Nat):Int)) d
 | _,[],_,_,h=>by simp [jg] at h
 | k,d :: t,0,e,h=>⟨d,rfl,by simp [jg] at h; exact h.symm⟩
 | k,d :: t,i + 1,e,h=>by
  obtain ⟨d',h1,h2⟩:=JR (k:=k + 1) (ds:=t) (i:=i) (e:=e) (by simpa [jg] using h)
  exact ⟨d',by simpa using h1,by rw [h2,show k + 1 + i=k + (i + 1) by omega]⟩
theorem zNN {K:PySem.W.Frag} {Z:Addr->Prop} {H:Hp} {p:Addr} {k:Nat} {xs:List V} {ds:List D} (e:zT Z H p=some (.lst xs)) (h:yK (zT Z H) xs ds):Wk Z (j9 K p k) H (jg k ds):=λi Z' H' s zd=>by
 have e1:=yC _ _ (s _ _ e)
 refine ⟨λd hd=>?_,λhi=>⟨xs,zR.of e1,by rw [JQ] at hi; rw [xu h]; omega⟩⟩
 obtain ⟨d',hd',rfl⟩:=JR hd
 obtain ⟨x,hx,hh⟩:=je h hd'
 refine ⟨⟨xs,x,zR.of e1,hx⟩,λy H'' ⟨T,x',ev,hT,eH,q⟩=>?_⟩
 have:=q xs (zR.of e1)
 rw [hx] at this
 cases this
 subst ev
 subst eH
 exact ⟨xA hT _,ZX zd hT (.cons (.int _) (.cons (hh.same s) .nil))⟩
def YF:List D->(List D->Prop)->Prop
 | [.lst ds],R=>R ds
 | _,_=>False
def enD (ds:List D):D->(List D->Prop)->Prop
 | .int i,R=>0<=i/\i<=1000/\R (jg i.toNat ds)
 | _,_=>False
def JS (pl:y6) (pb:yF):y6:=λΓ R=>pl Γ λds=>YF ds λes=>pb Γ λd=>enD es d R
section
variable {X:Cx} {e1 e2:Expr} {pos:Pos} {pb:yF} {pl:y6}
theorem zLr {ts:List Expr} {kk:Nat} {tp p kp:Pos} (hg:Gl X "enumerate") (hm:X.mg "enumerate" = none) (ha:PA X [e1] (wV pl)) (he:PE X e2 (tP pb)) (hs:starEach [e1] X.env=[(false,eval e1 X.env)]:=by rfl) (hs2:starEach [] X.env=[]:=by rfl) :
  PI X (.Tuple ts kk tp) (.Call (.Name "enumerate" p) [e1] [⟨some "start",e2,kp⟩] pos) (um (JS pl pb)):=Zv (zNs hg hm ha he hs hs2) λσ H Q ⟨Z,Γ,R,E,h,q⟩=>
 ⟨Z,Γ,_,E,h,λds vs H1 hd s1 hv=>by
  unfold YF at hd
  split at hd
  ·obtain ⟨v,rfl,hw⟩:=xC hv
   obtain ⟨a,xs,rfl,ea,hx⟩:=hw.lst_inv
   refine ⟨a,rfl,Z,Γ,_,E.same s1,hd,λd u H2 hd2 s2 hu=>?_⟩
   unfold enD at hd2
   split at hd2
   ·rename_i i
    obtain ⟨h0,h1,hR⟩:=hd2
    cases hu
    have e2:=yY (Z:=Z) s2 _ _ ea
    refine ⟨i.toNat,by rw [show ((i.toNat:Nat):Int)=i by omega],?_,⟨xs,zR.of (yC _ _ e2)⟩,q _ _ H2 hR (s1.trans s2) (zNN e2 (xT (yY s2) hx))⟩
    unfold Builtin.SmallTypes.fitsIndex
    rw [decide_eq_true (by omega),decide_eq_true (by omega)]
    rfl
   ·exact hd2.elim
  ·exact hd.elim⟩
end
end Pu
namespace L2
open PySem PySem.Spec PyProof.Rows
theorem zIg:bootBuiltins "min" = some (.builtin "min"):=by decide +kernel
section
variable {X:Cx}
end
end L2
namespace Pu
open PySem L2 Sh
open PyProof.Rows (envOfC)
def less (l:Addr) (H:Hp):Hp:=λb=>if b=l then none else H b
section
variable {X:Cx} {e a b:Expr} {es:List Expr} {st:Stmt} {sts:List Stmt} {pos:Pos} {pa pb:yF} {pl:y6} {p q:xW}
end
variable {P:Program} {w:World} {K:PySem.W.Frag} {mg:Str->Option Value} {base:Heap}
section
variable {X:Cx} {a b:Expr} {pos:Pos} {pa pb:yF}
end
end Pu
namespace Pu
open PySem L2 Sh
section
variable {X:Cx} {a:Expr} {pos:Pos} {pa:yF}
end
inductive gW (ds:List D) (T:D->(Bool->Prop)->Prop) (G:D->(D->Prop)->Prop) (R:D->Prop):Prop
 | mk (few:ds.length<=1000) (f:D->Bool) (F:D->D->Prop) (t:∀ d,d∈ds->T d λb=>b=f d) (h:∀ d,d∈ds->f d=true->G d (F d)) (q:∀ es,Paired F (ds.filter f) es->R (.lst es)):gW ds T G R
theorem zOS {Z:Addr->Prop} {Γ:List Sl} {σ:St} {H:Hp} {own:List Str} {caps:List (Nat × Str)} {J:It} {ds:List D} {js:List Nat} {po:D->Option (List D)} {pt:wq} {pe:yF} {Q:VK} {f:D->Bool} {F:D->D->Prop} {Zt:Addr->Prop} {Γt:List Sl} (E:yn Z Γ σ H) (Et:yn Zt Γt σ H) (sub:∀ b,Zt b->Z b) (wk:Wk Z J H ds) (hj:js=List.range' 0 own.length) (hk:∀ d os,po d=some os->os.length=js.length) (few:ds.length<=1000)
  (hT:∀ d,d∈ds->ul (po d) λos=>pt (os.map Sl.sh++(caps.map (·.1)).map λj=>un (slot Γt j)) λb=>b=f d)
  (hF:∀ d,d∈ds->f d=true->ul (po d) λos=>pe (os.map Sl.sh++(caps.map (·.1)).map λj=>un (slot Γ j)) (F d))
  (q:∀ es ys H' p,Paired F (ds.filter f) es->zD H H'->yK (zT Z H') ys es->H' p=none->Q (.ref p) (zW H' p (.lst ys))):K2 J (tG js po) (xU pt) (tP pe) Q (wU own caps σ) H:=by
 have hc:wU own caps σ=own.map (λ_=>none)++(caps.map (·.1)).map λj=>(σ[j]?).getD none:=by
  unfold wU
  rw [List.map_map]
  rfl
 refine ⟨λi m ys σ1 H1=>m + i=ds.length/\zD H H1/\(∃ es,Paired F ((ds.take i).filter f) es/\yK (zT Z H1) ys es)/\∃ o:St,o.length=own.length/\σ1=o++(caps.map (·.1)).map λj=>(σ[j]?).getD none,⟨ds.length,rfl,zD.refl _,⟨[],.nil,.nil⟩,_,List.length_map ..,hc⟩,?_⟩
 rintro i m ys σ1 H1 ⟨hm,s1,⟨es,he,hy⟩,o,lo,rfl⟩
 obtain ⟨w1,w2⟩:=wk i Z H1 (yY s1) (E.zd.same s1)
 have le:es.length<=i:=by
  have h1:=Paired.length he
  have h2:=List.length_filter_le f (ds.take i)
  rw [List.length_take] at h2
  omega
 by_cases hi:i < ds.length
 ·have tk:(ds.take (i + 1)).filter f=(ds.take i).filter f++(if f ds[i]=true then [ds[i]] else []):=by
   rw [List.take_succ_eq_append_getElem hi,List.filter_append,List.filter_cons,List.filter_nil]
  refine .inr ⟨(w1 _ (List.getElem?_eq_getElem hi)).1,by rw [xu hy]; exact uj (by omega),λy σ' H'=>m - 1 + (i + 1)=ds.length/\zD H H'/\(∃ es,Paired F ((ds.take (i + 1)).filter f) es/\yK (zT Z H') (ys++[y]) es)/\∃ o:St,o.length=own.length/\σ'=o++(caps.map (·.1)).map λj=>(σ[j]?).getD none,λσ' H'=>m - 1 + (i + 1)=ds.length/\zD H H'/\(∃ es,Paired F ((ds.take (i + 1)).filter f) es/\yK (zT Z H') ys es)/\∃ o:St,o.length=own.length/\σ'=o++(caps.map (·.1)).map λj=>(σ[j]?).getD none,λy σ' H' k=>⟨m - 1,by omega,k⟩,λσ' H' k=>⟨m - 1,by omega,k⟩,λx H' yl=>?_⟩
  obtain ⟨s2,dv⟩:=(w1 _ (List.getElem?_eq_getElem hi)).2 x H' yl
  obtain ⟨os,ho,ht⟩:=Zu (hT _ (List.getElem_mem hi))
  have lo2:=hk _ _ ho
  refine ⟨Z,_,os,dv,ho,λvs hvs=>?_⟩
  have lv:=xu hvs
  have e1:setN (o++(caps.map (·.1)).map λj=>(σ[j]?).getD none) js vs=vs.map some++(caps.map (·.1)).map λj=>(σ[j]?).getD none:=by
   rw [hj,<- lo]
   exact JC _ [] o vs (by rw [lv,lo2,hj,List.length_range']; exact lo)
  rw [e1]
  have lw:(vs.map some).length=own.length:=by rw [List.length_map,lv,lo2,hj,List.length_range']
  refine ⟨Zt,_,_,JB (Et.same (s1.trans s2)) (xT (Xi sub) hvs),ht,λb H3 hb s3=>?_⟩
  subst hb
  by_cases c:f ds[i]=true
  ·rw [if_pos c]
   obtain ⟨os',ho',hp⟩:=Zu (hF _ (List.getElem_mem hi) c)
   cases ho.symm.trans ho'
   refine ⟨Z,_,_,JB (E.same (s1.trans (s2.trans s3))) (xT (yY s3) hvs),hp,λd v H4 hd s4 hv=>⟨by omega,s1.trans (s2.trans (s3.trans s4)),⟨es++[d],?_,uy hv (xT (yY (s2.trans (s3.trans s4))) hy)⟩,_,lw,rfl⟩⟩
   rw [tk,if_pos c]
   exact uy hd he
  ·rw [if_neg c]
   refine ⟨by omega,s1.trans (s2.trans s3),⟨es,?_,xT (yY (s2.trans s3)) hy⟩,_,lw,rfl⟩
   rw [tk,if_neg c,List.append_nil]
   exact he
 ·have ei:i=ds.length:=by omega
  refine .inl ⟨w2 ei,λp hp=>q es ys H1 p ?_ s1 hy hp⟩
  rw [List.take_of_length_le (by omega)] at he
  exact he
section
variable {X:Cx} {scope:Scope} {own:List Str} {caps:List (Nat × Str)} {tg iter elt cond:Expr} {pos:Pos} {pi:y6} {po:D->Option (List D)} {pt:wq} {pe:yF} {js:List Nat}
end
def zPb (i:Nat) (ow:Bool) (caps:List Nat) (pi:y6) (po:D->Option (List D)) (pt:wq) (pe:yF):xW:=λT Γ=>pi Γ λds=>gW ds (λd S=>ul (po d) λos=>pt (os.map Sl.sh++caps.map λj=>un (slot Γ j)) S) (λd S=>ul (po d) λos=>pe (os.map Sl.sh++caps.map λj=>un (slot Γ j)) S) λd=>Z7 d λes=>T.nx (yH Γ i (match ow with | true=>.ow es | false=>.sh (.lst es)))
theorem zII {X:Cx} {pos:Pos} (i:Nat) (ow:Bool) {scope:Scope} {own:List Str} {caps:List (Nat × Str)} {tg iter elt cond:Expr} {pi:y6} {po:D->Option (List D)} {pt:wq} {pe:yF} {js:List Nat} {y:Str} {py spos:Pos} (hN:X.N.Nodup) (hy:X.N[i]? = some y) (hl:X.env.scope.names.lookup y=some .local) (B:vS X scope own caps) (hc:X.calm=true) (hj:js=List.range' 0 own.length) (hk:∀ d os,po d=some os->os.length=js.length)
  (hi:PI X tg iter (um pi)) (hg:∀ C s₀ H₀ ex,PG (yZ X scope (ze own caps) C s₀ H₀ ex) tg (tG js po)) (ht:∀ C s₀ H₀ ex,PT (yZ X scope (ze own caps) C s₀ H₀ ex) cond (xU pt)) (he:∀ C s₀ H₀ ex,PE (yZ X scope (ze own caps) C s₀ H₀ ex) elt (tP pe)) (hsw:swapsWith (.ListComp elt [⟨tg,iter,[cond],0⟩] scope pos) (some (.Name y py)) spos.line X.env=pure true) (hs:∀ x,foldedSetIterable iter X.env x=pure x:=by intro _; rfl) :
  PS X (.Assign [.Name y py] (.ListComp elt [⟨tg,iter,[cond],0⟩] scope pos) spos) (yu (zPb i ow (caps.map (·.1)) pi po pt pe)):=yM (zLt hN hy hl B hc hi hg ht he hsw hs) λD σ H ⟨Z0,H0,Z,Γ,Dp,E,h,nx,rt,bk,ct⟩=>
 ⟨Z,Γ,_,E.e,h,λds J H1 ⟨fw,f,F,hT,hF,hR⟩ s1 wk=>zOS (E.e.same s1) (E.e.same s1) (λ_ z=>z) wk hj hk fw hT hF λes ys H' l h1 s2 h2 hp=>by
  have E1:=(E.mv s1).mv s2
  cases ow with
  | true=>
   obtain ⟨E2,s3⟩:=E1.make hp h2 i
   exact nx _ _ _ _ E2 ((yY (s1.trans s2)).trans s3) (hR es h1)
  | false=>exact nx Z _ _ _ ((E1.mv (xA hp _)).set (u7 E1.e.zd hp h2) i) (yY (s1.trans (s2.trans (xA hp _)))) (hR es h1)⟩
theorem zL3 {α:Type} {ds es:List α} (p:Paired (λd e=>e=d) ds es):es=ds:=by
 induction p with
 | nil=>rfl
 | cons h _ ih=>rw [h,ih]
theorem gW.keep {ds:List D} {T:D->(Bool->Prop)->Prop} {G:D->(D->Prop)->Prop} {R:D->Prop} (f:D->Bool) (few:ds.length<=1000) (t:∀ d,d∈ds->T d λb=>b=f d) (h:∀ d,d∈ds->G d λe=>e=d) (q:R (.lst (ds.filter f))):gW ds T G R:=⟨few,f,λd e=>e=d,t,λd m _=>h d m,λes p=>by rw [zL3 p]; exact q⟩
end Pu
namespace L2
open PySem PySem.Spec PyProof.Rows
theorem zLF (a b c:Value):checkTypeCall "zip" ⟨[a,b,c],[]⟩=pure ():=by kernel_rfl
theorem zLD (a b c:Value):checkBuiltinCall "zip.__new__" ⟨[.type "zip",a,b,c],[]⟩=pure ():=by kernel_rfl
theorem zMK (a b c d:Value):argsOk "object.__init__" ⟨[a,b,c,d],[]⟩:=by rw [argsOk,signature?_of (id:="object.__init__") (n:=['_','_','t','i','n','i','_','_']) (o:=['t','c','e','j','b','o']) (by kernel_rfl) F.owner_object]; kernel_rfl
abbrev y9 (h:Heap) (T:Addr) (a b c:Value):Prop:=h.get? T=some { cls:=.type "tuple",data:=.seq #[a,b,c] }
structure Zt (z TI TO i1 i2 i3:Addr) (f1 f2 f3:List Addr):Prop where
 zI:TI≠z
 zO:TO≠z
 z1:i1≠z
 z2:i2≠z
 z3:i3≠z
 IO:TI≠TO
 I1:TI≠i1
 I2:TI≠i2
 I3:TI≠i3
 O1:TO≠i1
 O2:TO≠i2
 O3:TO≠i3
 n1:z∉f1
 n2:z∉f2
 n3:z∉f3
 o1:TO∉f1
 o2:TO∉f2
 o3:TO∉f3
 e12:i1∉f2
 e13:i1∉f3
 e21:i2∉f1
 e23:i2∉f3
 e31:i3∉f1
 e32:i3∉f2
section
variable {prog:Program} {w:World} {A:Around} {E:Value->Shared->Prop} {s:Shared}
theorem YG {T:Addr} {a b c x:Value} {k:Nat} {Q:Unit->Shared->Prop} (hT:y9 s.heap T a b c) (h:∀ g,g.get? T=some { cls:=.type "tuple",data:=.seq ((#[a,b,c]:Array Value).setIfInBounds k x) }->Heap.SameBut T s.heap g->Q () { s with heap:=g }):wpAny (model prog w) A (updateSeq T (·.setIfInBounds k x)) Q E s:=
 wpAny_updateSeq hT rfl (h _ (by rw [Heap.get?_update_self _ hT rfl]; simp [Obj.mapSeq]) (Heap.SameBut.update ..))
theorem zLI {z TI TO i1 i2 i3:Addr} {f1 f2 f3:List Addr} {n1 n2 n3 k:Nat} {P1 P2 P3:Nat->Value->Prop} {S1 S2 S3:Nat->Heap->Prop} {a b c:Value} {Q:Value->Shared->Prop}
  (D1:Draws prog w A i1 f1 n1 P1 S1) (D2:Draws prog w A i2 f2 n2 P2 S2) (D3:Draws prog w A i3 f3 n3 P3 S3) (Z:Zt z TI TO i1 i2 i3 f1 f2 f3) (hz:IsZip s.heap z TI TO .none) (hI:y9 s.heap TI (.ref i1) (.ref i2) (.ref i3)) (hO:y9 s.heap TO a b c)
  (s1:S1 k s.heap) (s2:S2 k s.heap) (s3:S3 k s.heap) (k1:k < n1) (k2:k < n2) (k3:k < n3)
  (hQ:∀ x y t h' tk,P1 k x->P2 k y->P3 k t->IsZip h' z TI TO (rawInt s.heap.objs.size)->y9 h' TI (.ref i1) (.ref i2) (.ref i3)->y9 h' TO x y t->S1 (k + 1) h'->S2 (k + 1) h'->S3 (k + 1) h'->y9 h' s.heap.objs.size x y t->
   (∀ c o,c≠z->c≠TO->c≠i1->c≠i2->c≠i3->s.heap.get? c=some o->h'.get? c=some o)->Q (.ref s.heap.objs.size) { s with heap:=h',toks:=tk }) :
  wpAny (model prog w) A (Builtin.«zip.__next__» ⟨[.ref z],[]⟩) (λfin s'=>∃ v,fin=.done (.ret v)/\Q v s') E s:=by
 change wpAny _ _ (field (.ref z) 2 >>= _) _ _ _
 refine wpAny_bind (wpAny_field hz rfl (x:=.bool false) rfl ?_)
 change wpAny _ _ (field (.ref z) 3 >>= _) _ _ _
 refine wpAny_bind (wpAny_field hz rfl (x:=.ref TI) rfl ?_)
 refine wpAny_bind (wpAny_seqItems hI rfl ?_)
 change wpAny _ _ (Builtin.SmallTypes.ownedTupleIsFree (.ref z) >>= _) _ _ _
 refine wpAny_bind ?_
 unfold Builtin.SmallTypes.ownedTupleIsFree
 refine wpAny_bind (wpAny_field hz rfl (x:=.none) rfl (wpAny_pure ?_))
 simp only [if_true]
 refine wpAny_bind (wpAny_rule ?_)
 refine wpAny_bind (wpAny_field hz rfl (x:=.ref TO) rfl ?_)
 refine wpAny_bind (wpAny_setField_rec hz (by simp) λg1 z1 m1=>?_)
 replace z1:IsZip g1 z TI TO .ellipsis:=z1
 refine wpAny_bind ?_
 simp only [List.zipIdx_cons,List.zipIdx_nil,List.forIn_cons,List.forIn_nil]
 refine wpAny_bind (wpAny_bind (wpAny_onRaise ?_))
 change wpAny _ _ (Builtin.SmallTypes.nextOf (.ref i1) >>= _) _ _ _
 refine wpAny_bind (D1.item k _ _ _ k1 (D1.frame _ _ _ s1 λc hc o e=>m1.extBut c o (λq=>Z.n1 (q ▸ hc)) e) λx g2 t2 px s12 m2=>wpAny_pure ?_)
 have q2:y9 g2 TO a b c:=m2.extBut _ _ Z.O1 (m1.extBut _ _ Z.zO hO)
 refine wpAny_bind (wpAny_seqItems q2 rfl ?_)
 refine wpAny_bind (YG q2 λg3 q3 m3=>?_)
 replace q3:y9 g3 TO x b c:=q3
 refine wpAny_bind (wpAny_letGo (wpAny_pure ?_))
 refine wpAny_bind (wpAny_bind (wpAny_onRaise ?_))
 change wpAny _ _ (Builtin.SmallTypes.nextOf (.ref i2) >>= _) _ _ _
 refine wpAny_bind (D2.item k _ _ _ k2 (D2.frame _ _ _ s2 λc hc o e=>m3.extBut c o (λq=>Z.o2 (q ▸ hc)) (m2.extBut c o (λq=>Z.e12 (q ▸ hc)) (m1.extBut c o (λq=>Z.n2 (q ▸ hc)) e))) λy g4 t4 py s24 m4=>wpAny_pure ?_)
 have q4:y9 g4 TO x b c:=m4.extBut _ _ Z.O2 q3
 refine wpAny_bind (wpAny_seqItems q4 rfl ?_)
 refine wpAny_bind (YG q4 λg5 q5 m5=>?_)
 replace q5:y9 g5 TO x y c:=q5
 refine wpAny_bind (wpAny_letGo (wpAny_pure ?_))
 refine wpAny_bind (wpAny_bind (wpAny_onRaise ?_))
 change wpAny _ _ (Builtin.SmallTypes.nextOf (.ref i3) >>= _) _ _ _
 refine wpAny_bind (D3.item k _ _ _ k3 (D3.frame _ _ _ s3 λc hc o e=>m5.extBut c o (λq=>Z.o3 (q ▸ hc)) (m4.extBut c o (λq=>Z.e23 (q ▸ hc)) (m3.extBut c o (λq=>Z.o3 (q ▸ hc)) (m2.extBut c o (λq=>Z.e13 (q ▸ hc)) (m1.extBut c o (λq=>Z.n3 (q ▸ hc)) e))))) λt g6 t6 pt s36 m6=>wpAny_pure ?_)
 have q6:y9 g6 TO x y c:=m6.extBut _ _ Z.O3 q5
 refine wpAny_bind (wpAny_seqItems q6 rfl ?_)
 refine wpAny_bind (YG q6 λg7 q7 m7=>?_)
 replace q7:y9 g7 TO x y t:=q7
 refine wpAny_bind (wpAny_letGo (wpAny_pure (wpAny_pure ?_)))
 refine wpAny_bind (wpAny_seqItems q7 rfl ?_)
 refine wpAny_bind (wpAny_newTuple ?_)
 have sz:g7.objs.size=s.heap.objs.size:=by
  have r7:g7.objs.size=g6.objs.size:=m7.1
  have r6:g6.objs.size=g5.objs.size:=m6.1
  have r5:g5.objs.size=g4.objs.size:=m5.1
  have r4:g4.objs.size=g3.objs.size:=m4.1
  have r3:g3.objs.size=g2.objs.size:=m3.1
  have r2:g2.objs.size=g1.objs.size:=m2.1
  have r1:g1.objs.size=s.heap.objs.size:=m1.1
  omega
 have all7:∀ c o,c≠z->c≠TO->c≠i1->c≠i2->c≠i3->s.heap.get? c=some o->g7.get? c=some o:=λc o c1 c2 c3 c4 c5 e=>m7.extBut _ _ c2 (m6.extBut _ _ c5 (m5.extBut _ _ c2 (m4.extBut _ _ c4 (m3.extBut _ _ c2 (m2.extBut _ _ c3 (m1.extBut _ _ c1 e))))))
 have z7:IsZip g7 z TI TO .ellipsis:=m7.extBut _ _ Z.zO.symm (m6.extBut _ _ Z.z3.symm (m5.extBut _ _ Z.zO.symm (m4.extBut _ _ Z.z2.symm (m3.extBut _ _ Z.zO.symm (m2.extBut _ _ Z.z1.symm z1)))))
 have I7:y9 g7 TI (.ref i1) (.ref i2) (.ref i3):=all7 _ _ Z.zI Z.IO Z.I1 Z.I2 Z.I3 hI
 have u1:S1 (k + 1) g7:=D1.frame _ _ _ s12 λc hc o e=>m7.extBut c o (λq=>Z.o1 (q ▸ hc)) (m6.extBut c o (λq=>Z.e31 (q ▸ hc)) (m5.extBut c o (λq=>Z.o1 (q ▸ hc)) (m4.extBut c o (λq=>Z.e21 (q ▸ hc)) (m3.extBut c o (λq=>Z.o1 (q ▸ hc)) e))))
 have u2:S2 (k + 1) g7:=D2.frame _ _ _ s24 λc hc o e=>m7.extBut c o (λq=>Z.o2 (q ▸ hc)) (m6.extBut c o (λq=>Z.e32 (q ▸ hc)) (m5.extBut c o (λq=>Z.o2 (q ▸ hc)) e))
 have u3:S3 (k + 1) g7:=D3.frame _ _ _ s36 λc hc o e=>m7.extBut c o (λq=>Z.o3 (q ▸ hc)) e
 have lt:z < g7.objs.size:=Heap.lt_size z7
 change wpAny _ _ (Builtin.SmallTypes.ownedTupleHandOut (.ref z) (.ref g7.objs.size) >>= _) _ _ _
 refine wpAny_bind ?_
 unfold Builtin.SmallTypes.ownedTupleHandOut
 have z8:IsZip (g7.push { cls:=.type "tuple",data:=.seq #[x,y,t] }) z TI TO .ellipsis:=Heap.get?_push_of_some _ z7
 refine wpAny_bind (wpAny_setField_rec z8 (by simp) λg9 z9 m9=>?_)
 replace z9:IsZip g9 z TI TO (rawInt g7.objs.size):=z9
 refine wpAny_setField_rec z9 (by simp) λg0 z0 m0=>?_
 replace z0:IsZip g0 z TI TO (rawInt g7.objs.size):=z0
 have up:∀ c o,c≠z->g7.get? c=some o->g0.get? c=some o:=λc o c1 e=>m0.extBut _ _ c1 (m9.extBut _ _ c1 (Heap.get?_push_of_some _ e))
 have T0:y9 g0 g7.objs.size x y t:=m0.extBut _ _ (Nat.ne_of_gt lt) (m9.extBut _ _ (Nat.ne_of_gt lt) (Heap.get?_push_size _ rfl))
 rw [sz] at z0 T0
 refine wpAny_pure ⟨_,rfl,?_⟩
 change Q (.ref g7.objs.size) _
 rw [sz]
 exact hQ x y t g0 _ px py pt z0 (up _ _ Z.zI I7) (up _ _ Z.zO q7) (D1.frame _ _ _ u1 λc hc o e=>up c o (λq=>Z.n1 (q ▸ hc)) e) (D2.frame _ _ _ u2 λc hc o e=>up c o (λq=>Z.n2 (q ▸ hc)) e) (D3.frame _ _ _ u3 λc hc o e=>up c o (λq=>Z.n3 (q ▸ hc)) e) T0
  λc o c1 c2 c3 c4 c5 e=>up c o c1 (all7 c o c1 c2 c3 c4 c5 e)
theorem zLG {z TI TO i1 i2 i3:Addr} {f1 f2 f3:List Addr} {n1 n2 n3 k:Nat} {P1 P2 P3:Nat->Value->Prop} {S1 S2 S3:Nat->Heap->Prop} {a b c:Value} {Q:Fin->Shared->Prop}
  (D1:Draws prog w A i1 f1 n1 P1 S1) (D2:Draws prog w A i2 f2 n2 P2 S2) (D3:Draws prog w A i3 f3 n3 P3 S3) (Z:Zt z TI TO i1 i2 i3 f1 f2 f3) (hz:IsZip s.heap z TI TO .none) (hI:y9 s.heap TI (.ref i1) (.ref i2) (.ref i3)) (hO:y9 s.heap TO a b c)
  (s1:S1 k s.heap) (s2:S2 k s.heap) (s3:S3 k s.heap) (k1:k<=n1) (k2:k<=n2) (k3:k<=n3) (ke:k=n1\/k=n2\/k=n3)
  (hE:∀ h' e tk,(∀ c o,c≠z->c≠TO->c≠i1->c≠i2->c≠i3->s.heap.get? c=some o->h'.get? c=some o)->(∃ o,h'.get? e=some o/\o.cls=.type "StopIteration")->E (.ref e) { s with heap:=h',toks:=tk }) :
  wpAny (model prog w) A (Builtin.«zip.__next__» ⟨[.ref z],[]⟩) Q E s:=by
 change wpAny _ _ (field (.ref z) 2 >>= _) _ _ _
 refine wpAny_bind (wpAny_field hz rfl (x:=.bool false) rfl ?_)
 change wpAny _ _ (field (.ref z) 3 >>= _) _ _ _
 refine wpAny_bind (wpAny_field hz rfl (x:=.ref TI) rfl ?_)
 refine wpAny_bind (wpAny_seqItems hI rfl ?_)
 change wpAny _ _ (Builtin.SmallTypes.ownedTupleIsFree (.ref z) >>= _) _ _ _
 refine wpAny_bind ?_
 unfold Builtin.SmallTypes.ownedTupleIsFree
 refine wpAny_bind (wpAny_field hz rfl (x:=.none) rfl (wpAny_pure ?_))
 simp only [if_true]
 refine wpAny_bind (wpAny_rule ?_)
 refine wpAny_bind (wpAny_field hz rfl (x:=.ref TO) rfl ?_)
 refine wpAny_bind (wpAny_setField_rec hz (by simp) λg1 z1 m1=>?_)
 replace z1:IsZip g1 z TI TO .ellipsis:=z1
 refine wpAny_bind ?_
 simp only [List.zipIdx_cons,List.zipIdx_nil,List.forIn_cons,List.forIn_nil]
 refine wpAny_bind (wpAny_bind (wpAny_onRaise ?_))
 change wpAny _ _ (Builtin.SmallTypes.nextOf (.ref i1) >>= _) _ _ _
 have s1':S1 k g1:=D1.frame _ _ _ s1 λc hc o e=>m1.extBut c o (λq=>Z.n1 (q ▸ hc)) e
 by_cases c1:k=n1
 ·subst c1
  refine wpAny_bind (D1.done _ _ _ s1' λg2 e m2 he=>?_)
  obtain ⟨oe,he1,he2⟩:=he
  have z2:IsZip g2 z TI TO .ellipsis:=m2 _ _ Z.z1.symm z1
  have nez:e≠z:=λq=>by subst q; rw [z2] at he1; cases he1; simp at he2
  exact wpAny_setField_rec z2 (by simp) λg3 _ m3=>hE g3 e _ (λc o c1 c2 c3 c4 c5 q=>m3.extBut _ _ c1 (m2 _ _ c3 (m1.extBut _ _ c1 q))) ⟨oe,m3.extBut _ _ nez he1,he2⟩
 refine wpAny_bind (D1.item k _ _ _ (by omega) s1' λx g2 t2 px s12 m2=>wpAny_pure ?_)
 have q2:y9 g2 TO a b c:=m2.extBut _ _ Z.O1 (m1.extBut _ _ Z.zO hO)
 refine wpAny_bind (wpAny_seqItems q2 rfl ?_)
 refine wpAny_bind (YG q2 λg3 q3 m3=>?_)
 replace q3:y9 g3 TO x b c:=q3
 refine wpAny_bind (wpAny_letGo (wpAny_pure ?_))
 refine wpAny_bind (wpAny_bind (wpAny_onRaise ?_))
 change wpAny _ _ (Builtin.SmallTypes.nextOf (.ref i2) >>= _) _ _ _
 have s2':S2 k g3:=D2.frame _ _ _ s2 λc hc o e=>m3.extBut c o (λq=>Z.o2 (q ▸ hc)) (m2.extBut c o (λq=>Z.e12 (q ▸ hc)) (m1.extBut c o (λq=>Z.n2 (q ▸ hc)) e))
 have z3:IsZip g3 z TI TO .ellipsis:=m3.extBut _ _ Z.zO.symm (m2.extBut _ _ Z.z1.symm z1)
 by_cases c2:k=n2
 ·subst c2
  refine wpAny_bind (D2.done _ _ _ s2' λg4 e m4 he=>?_)
  obtain ⟨oe,he1,he2⟩:=he
  have z4:IsZip g4 z TI TO .ellipsis:=m4 _ _ Z.z2.symm z3
  have nez:e≠z:=λq=>by subst q; rw [z4] at he1; cases he1; simp at he2
  exact wpAny_setField_rec z4 (by simp) λg5 _ m5=>hE g5 e _ (λc o c1 c2 c3 c4 c5 q=>m5.extBut _ _ c1 (m4 _ _ c4 (m3.extBut _ _ c2 (m2.extBut _ _ c3 (m1.extBut _ _ c1 q))))) ⟨oe,m5.extBut _ _ nez he1,he2⟩
 have c3:k=n3:=(ke.resolve_left c1).resolve_left c2
 subst c3
 refine wpAny_bind (D2.item k _ _ _ (by omega) s2' λy g4 t4 py s24 m4=>wpAny_pure ?_)
 have q4:y9 g4 TO x b c:=m4.extBut _ _ Z.O2 q3
 refine wpAny_bind (wpAny_seqItems q4 rfl ?_)
 refine wpAny_bind (YG q4 λg5 q5 m5=>?_)
 refine wpAny_bind (wpAny_letGo (wpAny_pure ?_))
 refine wpAny_bind (wpAny_bind (wpAny_onRaise ?_))
 change wpAny _ _ (Builtin.SmallTypes.nextOf (.ref i3) >>= _) _ _ _
 refine wpAny_bind (D3.done _ _ _ (D3.frame _ _ _ s3 λc hc o e=>m5.extBut c o (λq=>Z.o3 (q ▸ hc)) (m4.extBut c o (λq=>Z.e23 (q ▸ hc)) (m3.extBut c o (λq=>Z.o3 (q ▸ hc)) (m2.extBut c o (λq=>Z.e13 (q ▸ hc)) (m1.extBut c o (λq=>Z.n3 (q ▸ hc)) e))))) λg6 e m6 he=>?_)
 obtain ⟨oe,he1,he2⟩:=he
 have z6:IsZip g6 z TI TO .ellipsis:=m6 _ _ Z.z3.symm (m5.extBut _ _ Z.zO.symm (m4.extBut _ _ Z.z2.symm z3))
 have nez:e≠z:=λq=>by subst q; rw [z6] at he1; cases he1; simp at he2
 exact wpAny_setField_rec z6 (by simp) λg7 _ m7=>hE g7 e _ (λc o c1 c2 c3 c4 c5 q=>m7.extBut _ _ c1 (m6 _ _ c5 (m5.extBut _ _ c2 (m4.extBut _ _ c4 (m3.extBut _ _ c2 (m2.extBut _ _ c3 (m1.extBut _ _ c1 q))))))) ⟨oe,m7.extBut _ _ nez he1,he2⟩
end
end L2
namespace L2
open PySem PySem.Spec PyProof.Rows
section
variable {prog:Program} {w:World} {A:Around} {E:Value->Shared->Prop} {s:Shared}
theorem zLH {z TI TO i1 i2 i3:Addr} {f1 f2 f3:List Addr} {n1 n2 n3 k:Nat} {P1 P2 P3:Nat->Value->Prop} {S1 S2 S3:Nat->Heap->Prop} {a b c:Value} {Q:Option Value->Shared->Prop}
  (D1:Draws prog w A.in1 i1 f1 n1 P1 S1) (D2:Draws prog w A.in1 i2 f2 n2 P2 S2) (D3:Draws prog w A.in1 i3 f3 n3 P3 S3) (Z:Zt z TI TO i1 i2 i3 f1 f2 f3) (hz:IsZip s.heap z TI TO .none) (hI:y9 s.heap TI (.ref i1) (.ref i2) (.ref i3)) (hO:y9 s.heap TO a b c)
  (s1:S1 k s.heap) (s2:S2 k s.heap) (s3:S3 k s.heap) (k1:k < n1) (k2:k < n2) (k3:k < n3)
  (hQ:∀ x y t h' tk,P1 k x->P2 k y->P3 k t->IsZip h' z TI TO (rawInt s.heap.objs.size)->y9 h' TI (.ref i1) (.ref i2) (.ref i3)->y9 h' TO x y t->S1 (k + 1) h'->S2 (k + 1) h'->S3 (k + 1) h'->y9 h' s.heap.objs.size x y t->
   (∀ c o,c≠z->c≠TO->c≠i1->c≠i2->c≠i3->s.heap.get? c=some o->h'.get? c=some o)->Q (some (.ref s.heap.objs.size)) { s with heap:=h',toks:=tk }) :
  wpAny (model prog w) A (pyNext (.ref z)) Q E s:=by
 have ty:s.TypeIs (.ref z) "zip":=⟨_,hz,rfl⟩
 unfold pyNext
 refine wpAny_bind (wpAny_attempt (wpAny_callSpecial?_slot (name:=Str.ofString "__next__") ty F.slot_zip_next (wpAny_call_entry F.slot_zip_next ty F.entry_zip_next ?_ (F.args_zip_next_1 _))))
 exact zLI D1 D2 D3 Z hz hI hO s1 s2 s3 k1 k2 k3 λx y t h' tk c1 c2 c3 c4 c5 c6 c7 c8 c9 c10 c11=>wpAny_pure (hQ x y t h' tk c1 c2 c3 c4 c5 c6 c7 c8 c9 c10 c11)
theorem zNL {z TI TO i1 i2 i3:Addr} {f1 f2 f3:List Addr} {n1 n2 n3 k:Nat} {P1 P2 P3:Nat->Value->Prop} {S1 S2 S3:Nat->Heap->Prop} {a b c:Value} {Q:Option Value->Shared->Prop}
  (D1:Draws prog w A.in1 i1 f1 n1 P1 S1) (D2:Draws prog w A.in1 i2 f2 n2 P2 S2) (D3:Draws prog w A.in1 i3 f3 n3 P3 S3) (Z:Zt z TI TO i1 i2 i3 f1 f2 f3) (hz:IsZip s.heap z TI TO .none) (hI:y9 s.heap TI (.ref i1) (.ref i2) (.ref i3)) (hO:y9 s.heap TO a b c)
  (s1:S1 k s.heap) (s2:S2 k s.heap) (s3:S3 k s.heap) (k1:k<=n1) (k2:k<=n2) (k3:k<=n3) (ke:k=n1\/k=n2\/k=n3)
  (hQ:∀ h' tk,(∀ c o,c≠z->c≠TO->c≠i1->c≠i2->c≠i3->s.heap.get? c=some o->h'.get? c=some o)->Q none { s with heap:=h',toks:=tk }) :
  wpAny (model prog w) A (pyNext (.ref z)) Q E s:=by
 have ty:s.TypeIs (.ref z) "zip":=⟨_,hz,rfl⟩
 unfold pyNext
 refine wpAny_bind (wpAny_attempt (wpAny_callSpecial?_slot (name:=Str.ofString "__next__") ty F.slot_zip_next (wpAny_call_entry F.slot_zip_next ty F.entry_zip_next
  (zLG D1 D2 D3 Z hz hI hO s1 s2 s3 k1 k2 k3 ke λh' e tk keep he=>?_) (F.args_zip_next_1 _))))
 obtain ⟨o,ho,hc⟩:=he
 refine wpAny_bind (wpAny_isInstance (T:="StopIteration") (b:=true) ⟨o,ho,hc⟩ isSubtype_stop ?_)
 exact wpAny_pure (hQ _ _ keep)
end
abbrev JT (l:Addr):Obj:={ cls:=.type "list_iterator",data:=.fields #[.ref l,.int 0 0] }
abbrev YH (h:Heap) (a:Addr):Heap:=h.push (JT a)
abbrev YI (h:Heap) (a b:Addr):Heap:=(YH h a).push (JT b)
abbrev X1 (h:Heap) (a b c:Addr):Heap:=(YI h a b).push (JT c)
abbrev X2 (h:Heap) (a b c:Addr):Heap:=(X1 h a b c).push { cls:=.type "tuple",data:=.seq #[.ref h.objs.size,.ref (YH h a).objs.size,.ref (YI h a b).objs.size] }
abbrev X3 (h:Heap) (a b c:Addr):Heap:=(X2 h a b c).push { cls:=.type "tuple",data:=.seq #[.none,.none,.none] }
abbrev qS (h:Heap) (a b c:Addr):Heap:=(X3 h a b c).push { cls:=.type "zip",data:=.fields #[.none,.bool false,.bool false,.ref (X1 h a b c).objs.size,.ref (X2 h a b c).objs.size] }
theorem zNJ (a b c:Addr) (xs ys zs:Array Value) :
  Meets (Builtin.«zip.__new__» ⟨[.type "zip",.ref a,.ref b,.ref c],[]⟩) (λ_ R s=>s.heap.IsList a xs/\s.heap.IsList b ys/\s.heap.IsList c zs/\R (.ok (.ret (.ref (X3 s.heap a b c).objs.size))) { s with heap:=qS s.heap a b c }):=
 .of_wp λprog w A R s h=>by
  obtain ⟨hp,g,d,tk,os⟩:=s; obtain ⟨h1,h2,h3,h⟩:=h
  have hsub:=sub_zip
  have e1:Heap.IsList (Shared.heap ⟨hp,g,d,tk,os⟩) a xs:=h1
  have e2:Heap.IsList (Shared.heap ⟨YH hp a,g,d,tk,os⟩) b ys:=Heap.IsList.push h2 _
  have e3:Heap.IsList (Shared.heap ⟨YI hp a b,g,d,tk,os⟩) c zs:=Heap.IsList.push (Heap.IsList.push h3 _) _
  wp_walk using wpAny_pyIter_list e1,wpAny_pyIter_list e2,wpAny_pyIter_list e3
  exact ⟨_,rfl,h⟩
theorem zMz {prog:Program} {w:World} {A:Around} {E:Value->Shared->Prop} {s:Shared} {a b c:Addr} {xs ys zs:Array Value} {Q:Value->Shared->Prop} (h1:s.heap.IsList a xs) (h2:s.heap.IsList b ys) (h3:s.heap.IsList c zs)
  (h:∀ h',IsZip h' (s.heap.objs.size + 5) (s.heap.objs.size + 3) (s.heap.objs.size + 4) .none->y9 h' (s.heap.objs.size + 3) (.ref s.heap.objs.size) (.ref (s.heap.objs.size + 1)) (.ref (s.heap.objs.size + 2))->y9 h' (s.heap.objs.size + 4) .none .none .none->
   h'.IsListIter s.heap.objs.size a 0->h'.IsListIter (s.heap.objs.size + 1) b 0->h'.IsListIter (s.heap.objs.size + 2) c 0->(∀ c o,s.heap.get? c=some o->h'.get? c=some o)->Q (.ref (s.heap.objs.size + 5)) { s with heap:=h' }) :
  wpAny (model prog w) A (call (.type "zip") [.ref a,.ref b,.ref c]) Q E s:=by
 refine callType_new F.called_zip (by decide) (zLF _ _ _) (zLD _ _ _) (λobj=>zMK obj _ _ _) F.entry_zip_new (zNJ a b c xs ys zs) ⟨h1,h2,h3,?_⟩
 have n1:(YH s.heap a).objs.size=s.heap.objs.size + 1:=Heap.size_push ..
 have n2:(YI s.heap a b).objs.size=s.heap.objs.size + 2:=by rw [Heap.size_push,n1]
 have n3:(X1 s.heap a b c).objs.size=s.heap.objs.size + 3:=by rw [Heap.size_push,n2]
 have n4:(X2 s.heap a b c).objs.size=s.heap.objs.size + 4:=by rw [Heap.size_push,n3]
 have n5:(X3 s.heap a b c).objs.size=s.heap.objs.size + 5:=by rw [Heap.size_push,n4]
 have p6:(qS s.heap a b c).get? (X3 s.heap a b c).objs.size=some _:=Heap.get?_push_size _ rfl
 have p5:(qS s.heap a b c).get? (X2 s.heap a b c).objs.size=some _:=Heap.get?_push_of_some _ (Heap.get?_push_size _ rfl)
 have p4:(qS s.heap a b c).get? (X1 s.heap a b c).objs.size=some _:=Heap.get?_push_of_some _ (Heap.get?_push_of_some _ (Heap.get?_push_size _ rfl))
 have p3:(qS s.heap a b c).get? (YI s.heap a b).objs.size=some _:=Heap.get?_push_of_some _ (Heap.get?_push_of_some _ (Heap.get?_push_of_some _ (Heap.get?_push_size _ rfl)))
 have p2:(qS s.heap a b c).get? (YH s.heap a).objs.size=some _:=Heap.get?_push_of_some _ (Heap.get?_push_of_some _ (Heap.get?_push_of_some _ (Heap.get?_push_of_some _ (Heap.get?_push_size _ rfl))))
 have p1:(qS s.heap a b c).get? s.heap.objs.size=some _:=Heap.get?_push_of_some _ (Heap.get?_push_of_some _ (Heap.get?_push_of_some _ (Heap.get?_push_of_some _ (Heap.get?_push_of_some _ (Heap.get?_push_size _ rfl)))))
 change _/\_
 rw [n3,n4,n5] at p6
 rw [n1,n2,n3] at p4
 rw [n4] at p5
 rw [n2] at p3
 rw [n1] at p2
 rw [n5]
 exact ⟨⟨_,p6,rfl⟩,h _ p6 p4 p5 ⟨_,p1,rfl,rfl⟩ ⟨_,p2,rfl,rfl⟩ ⟨_,p3,rfl,rfl⟩ λc o x=>Heap.get?_push_of_some _ (Heap.get?_push_of_some _ (Heap.get?_push_of_some _ (Heap.get?_push_of_some _ (Heap.get?_push_of_some _ (Heap.get?_push_of_some _ x)))))⟩
theorem zH.turnT3 {X:Cx} {pins:List (Addr × Obj)} {σ:St} {H:Hp} {s:Shared} {h':Heap} {tk:Nat} {ch:List Addr} {T:Addr} {x y t:V} {u v r:Value} (I:zH X pins σ H s) (hf:∀ b∈ch,yU X pins H b) (keep:∀ b o,b∉ch->s.heap.get? b=some o->h'.get? b=some o)
  (hT:s.heap.objs.size<=T) (p:y9 h' T u v r) (rx:zU x u) (ry:zU y v) (rt:zU t r):zH X pins σ (zW H T (.tup [x,y,t])) { s with heap:=h',toks:=tk }:=by
 have fr:H T=none:=I.hok.fresh hT
 have nT:∀ b o,s.heap.get? b=some o->b≠T:=λb o e z=>by rw [z] at e; exact absurd (Nat.lt_of_lt_of_le (Heap.lt_size e) hT) (Nat.lt_irrefl _)
 have vv:∀ b o,H b=some o->b∉ch:=λb o e z=>by rw [(hf b z).1] at e; cases e
 refine I.step (ch:=ch) (λb hb=>⟨(hf b hb).2.2.2.1,(hf b hb).2.1,(hf b hb).2.2.2.2.1,(hf b hb).2.2.2.2.2⟩) (λb o _ _ hc e _=>keep b o hc e) (λb o _ _ hc e _=>⟨o.slots,keep b o hc e⟩)
  (λb o _ e n=>by rw [zt (nT b o e)]; exact n) (λb o hc e=>⟨o,keep b o hc e⟩) (λb xs e=>by rw [zt (xn e fr)]; exact e) (λb o w e=>by rw [zt (xn e fr)]; exact e)
  (λb ps e=>⟨#[],by rw [zt (xn e fr),e]; simp⟩) (λm hm=>?_) (λb w e=>?_) I.bare
 ·obtain ⟨o,es,ep,ho,r⟩:=hm
  exact ⟨o,es,ep,keep _ o (λz=>(hf _ z).2.1 rfl) ho,r⟩
 ·by_cases hb:b=T
  ·subst hb
   rw [xI] at e
   cases e
   exact ⟨by show 3<=sizeLine; decide,[u,v,r],.cons rx (.cons ry (.cons rt .nil)),⟨_,p,rfl,_,rfl⟩⟩
  ·rw [zt hb] at e
   refine (I.hok b w e).stay (λc q hc ec=>keep c q ?_ ec) (λc ec=>by rw [zt (xn ec fr)]; exact ec) λc xs ec=>by rw [zt (xn ec fr)]; exact ec
   rcases hc with z | z
   ·rw [z]
    exact vv b w e
   ·exact vv c _ z
def qU (K:PySem.W.Frag) (a b c:Addr):It:=
 ⟨λi H=>∃ xs ys zs x y t,zR K H a xs/\zR K H b ys/\zR K H c zs/\xs[i]? = some x/\ys[i]? = some y/\zs[i]? = some t,
  λi H v H'=>∃ T x y t,v=.ref T/\H T=none/\H'=zW H T (.tup [x,y,t])/\(∀ xs,zR K H a xs->xs[i]? = some x)/\(∀ ys,zR K H b ys->ys[i]? = some y)/\∀ zs,zR K H c zs->zs[i]? = some t,
  λi H=>∃ xs ys zs,zR K H a xs/\zR K H b ys/\zR K H c zs/\i<=xs.length/\i<=ys.length/\i<=zs.length/\(i=xs.length\/i=ys.length\/i=zs.length)⟩
theorem zLS {P:Program} {w:World} {K:PySem.W.Frag} {es:List Expr} {kk:Nat} {tp:Pos} {a b c z TI TO i1 i2 i3:Addr} (Z:Zt z TI TO i1 i2 i3 [i1,a] [i2,b] [i3,c]) (na:a≠i1) (nb:b≠i2) (nc:c≠i3) :
  xx P w K (.Tuple es kk tp) (qU K a b c) [z,TI,TO,i1,i2,i3] z (λi h=>IsZip h z TI TO .none/\y9 h TI (.ref i1) (.ref i2) (.ref i3)/\(∃ x y t,y9 h TO x y t)/\h.IsListIter i1 a i/\h.IsListIter i2 b i/\h.IsListIter i3 c i) where
 mem:=by simp
 obj:=λi h ⟨t1,t2,⟨x,y,t,t3⟩,t4,t5,t6⟩ d hd=>by
  simp only [List.mem_cons,List.not_mem_nil,or_false] at hd
  rcases hd with rfl | rfl | rfl | rfl | rfl | rfl
  ·exact ⟨_,t1,uH⟩
  ·exact ⟨_,t2,gL⟩
  ·exact ⟨_,t3,gL⟩
  ·obtain ⟨o,e,_,d⟩:=t4
   exact ⟨o,e,by rw [d]; exact uH⟩
  ·obtain ⟨o,e,_,d⟩:=t5
   exact ⟨o,e,by rw [d]; exact uH⟩
  ·obtain ⟨o,e,_,d⟩:=t6
   exact ⟨o,e,by rw [d]; exact uH⟩
 keep:=λi h h' ⟨t1,t2,⟨x,y,t,t3⟩,t4,t5,t6⟩ k=>⟨k z (by simp) _ t1,k TI (by simp) _ t2,⟨x,y,t,k TO (by simp) _ t3⟩,(by obtain ⟨o,e,r⟩:=t4; exact ⟨o,k i1 (by simp) o e,r⟩),(by obtain ⟨o,e,r⟩:=t5; exact ⟨o,k i2 (by simp) o e,r⟩),(by obtain ⟨o,e,r⟩:=t6; exact ⟨o,k i3 (by simp) o e,r⟩)⟩
 item:=by
  intro X hP hw hK hc i pins s σ H E I hf ⟨t1,t2,⟨x0,y0,w0,t3⟩,t4,t5,t6⟩ hg
  subst hP hw hK
  obtain ⟨xs,ys,zs,x,y,t,hq1,hq2,hq3,hx,hy,ht⟩:=hg
  obtain ⟨its1,rv1,p1,_⟩:=I.list hq1
  obtain ⟨its2,rv2,p2,_⟩:=I.list hq2
  obtain ⟨its3,rv3,p3,_⟩:=I.list hq3
  obtain ⟨u,hu,ru⟩:=rv1.get hx
  obtain ⟨v,hv,rv⟩:=rv2.get hy
  obtain ⟨r,hr,rt⟩:=rv3.get ht
  have hh:X.A.in1.handled=none:=I.ok.hd hc
  have l1:i < its1.toArray.size:=by rw [List.size_toArray]; exact (List.getElem?_eq_some_iff.mp hu).1
  have l2:i < its2.toArray.size:=by rw [List.size_toArray]; exact (List.getElem?_eq_some_iff.mp hv).1
  have l3:i < its3.toArray.size:=by rw [List.size_toArray]; exact (List.getElem?_eq_some_iff.mp hr).1
  refine zLH (Draws.list hh i1 a na its1.toArray) (Draws.list hh i2 b nb its2.toArray) (Draws.list hh i3 c nc its3.toArray) Z t1 t2 t3 ⟨t4,p1.isList⟩ ⟨t5,p2.isList⟩ ⟨t6,p3.isList⟩ l1 l2 l3 ?_
  intro x' y' t' h1 tk px py pt z1 z2 z3 z4 z5 z8 z6 keep
  have ex:x'=u:=by
   have q:its1.toArray[i]? = some x':=px
   simp only [List.getElem?_toArray] at q
   rw [hu] at q
   exact (Option.some.inj q).symm
  have ey:y'=v:=by
   have q:its2.toArray[i]? = some y':=py
   simp only [List.getElem?_toArray] at q
   rw [hv] at q
   exact (Option.some.inj q).symm
  have et:t'=r:=by
   have q:its3.toArray[i]? = some t':=pt
   simp only [List.getElem?_toArray] at q
   rw [hr] at q
   exact (Option.some.inj q).symm
  subst ex ey et
  refine ⟨_,rfl,wpAny_letOwnedTupleGo_zip (s:={ s with heap:=h1,toks:=tk }) z1 λh2 z7 sb=>?_⟩
  have zlt:z < s.heap.objs.size:=Heap.lt_size t1
  have keep2:∀ d o,d∉[z,TI,TO,i1,i2,i3]->s.heap.get? d=some o->h2.get? d=some o:=λd o hc e=>by
   simp only [List.mem_cons,List.not_mem_nil,or_false,not_or] at hc
   exact sb.extBut d o hc.1 (keep d o hc.1 hc.2.2.1 hc.2.2.2.1 hc.2.2.2.2.1 hc.2.2.2.2.2 e)
  have pT:y9 h2 s.heap.objs.size x' y' t':=sb.extBut _ _ (Nat.ne_of_gt zlt) z6
  have I':=I.turnT3 (h':=h2) (tk:=tk) (ch:=[z,TI,TO,i1,i2,i3]) (x:=x) (y:=y) (t:=t) hf keep2 (Nat.le_refl _) pT ru rv rt
  refine ⟨.ref s.heap.objs.size,_,I',rfl,⟨s.heap.objs.size,x,y,t,rfl,I.hok.fresh (Nat.le_refl _),rfl,λxs' q=>by rw [I.list_inj q hq1]; exact hx,λys' q=>by rw [I.list_inj q hq2]; exact hy,λzs' q=>by rw [I.list_inj q hq3]; exact ht⟩,
   ⟨z7,sb.extBut _ _ Z.zI z2,⟨_,_,_,sb.extBut _ _ Z.zO z3⟩,z4.1.extBut sb.extBut Z.z1,z5.1.extBut sb.extBut Z.z2,z8.1.extBut sb.extBut Z.z3⟩,λd hc=>?_⟩
  have:=(hf d hc).1
  rw [zt]
  ·exact this
  ·intro q
   obtain ⟨o,e,_⟩:∃ o,s.heap.get? d=some o/\True:=by
    simp only [List.mem_cons,List.not_mem_nil,or_false] at hc
    rcases hc with rfl | rfl | rfl | rfl | rfl | rfl
    ·exact ⟨_,t1,trivial⟩
    ·exact ⟨_,t2,trivial⟩
    ·exact ⟨_,t3,trivial⟩
    ·obtain ⟨o,e,_⟩:=t4; exact ⟨o,e,trivial⟩
    ·obtain ⟨o,e,_⟩:=t5; exact ⟨o,e,trivial⟩
    ·obtain ⟨o,e,_⟩:=t6; exact ⟨o,e,trivial⟩
   rw [q] at e
   exact absurd (Heap.lt_size e) (Nat.lt_irrefl _)
 done:=by
  intro X hP hw hK hc i pins s σ H E I hf ⟨t1,t2,⟨x0,y0,w0,t3⟩,t4,t5,t6⟩ hg
  subst hP hw hK
  obtain ⟨xs,ys,zs,hq1,hq2,hq3,e1,e2,e4,e3⟩:=hg
  obtain ⟨its1,rv1,p1,_⟩:=I.list hq1
  obtain ⟨its2,rv2,p2,_⟩:=I.list hq2
  obtain ⟨its3,rv3,p3,_⟩:=I.list hq3
  have hh:X.A.in1.handled=none:=I.ok.hd hc
  have n1:its1.toArray.size=xs.length:=by rw [List.size_toArray]; exact rv1.length.symm
  have n2:its2.toArray.size=ys.length:=by rw [List.size_toArray]; exact rv2.length.symm
  have n3:its3.toArray.size=zs.length:=by rw [List.size_toArray]; exact rv3.length.symm
  refine zNL (Draws.list hh i1 a na its1.toArray) (Draws.list hh i2 b nb its2.toArray) (Draws.list hh i3 c nc its3.toArray) Z t1 t2 t3 ⟨t4,p1.isList⟩ ⟨t5,p2.isList⟩ ⟨t6,p3.isList⟩ (by omega) (by omega) (by omega) (by omega) ?_
  intro h1 tk keep
  refine ⟨rfl,I.turnN (h':=h1) (tk:=tk) (ch:=[z,TI,TO,i1,i2,i3]) hf λd o hc e=>?_⟩
  simp only [List.mem_cons,List.not_mem_nil,or_false,not_or] at hc
  exact keep d o hc.1 hc.2.2.1 hc.2.2.2.1 hc.2.2.2.2.1 hc.2.2.2.2.2 e
 self:=λ_ _ _ _ _ st h=>wpAny_pyIter_zip st.1 h
theorem YJ (n a b c:Nat) (la:a < n) (lb:b < n) (lc:c < n):Zt (n + 5) (n + 3) (n + 4) n (n + 1) (n + 2) [n,a] [n + 1,b] [n + 2,c]:=by
 have e:∀ x y:Nat,x≠y->(x:Addr)≠y:=λ_ _ h=>h
 constructor <;> first | exact e _ _ (by omega) | exact vR (by omega) (by omega)
section
variable {X:Cx} {es:List Expr} {kk:Nat} {tp:Pos}
def YK (K:PySem.W.Frag) (ta:TA):TI:=λσ H R=>ta σ H λvs H1=>∃ a b c,vs=[.ref a,.ref b,.ref c]/\(∃ xs,zR K H1 a xs)/\(∃ ys,zR K H1 b ys)/\(∃ zs,zR K H1 c zs)/\R (qU K a b c) H1
theorem zQC {a b c:V} {us:List Value} (h:zM [a,b,c] us):∃ u v r,us=[u,v,r]/\zU a u/\zU b v/\zU c r:=by
 cases h with
 | cons h1 h=>cases h with
  | cons h2 h=>cases h with
   | cons h3 h=>cases h; exact ⟨_,_,_,rfl,h1,h2,h3⟩
theorem zPW {e1 e2 e3:Expr} {ta:TA} {p pos:Pos} (hg:Gl X "zip") (hm:X.mg "zip" = none) (ha:PA X [e1,e2,e3] ta) (hs:starEach [e1,e2,e3] X.env=(false,eval e1 X.env) :: starEach [e2,e3] X.env:=by rfl) (hpl:(backTo pos (starEach [e2,e3] X.env)).any (·.1)=false:=by rfl) :
  PI X (.Tuple es kk tp) (.Call (.Name "zip" p) [e1,e2,e3] [] pos) (YK X.K ta):=by
 intro pins s σ H R I h
 refine Call_ (jQ I hg hm (show bootBuiltins "zip" = some (.type "zip") by decide +kernel) (PyProof.Rows.callWith_type1 (zk (ha pos pins s σ H _ I h) λus s1 ⟨vs,H1,I1,r1,q1⟩=>?_) hs hpl))
 obtain ⟨a,b,c,e,⟨xs,hx⟩,⟨ys,hy⟩,⟨zs,hz⟩,q⟩:=q1
 subst e
 obtain ⟨u,v,r,rfl,ru,rv,rr⟩:=zQC r1
 cases ru
 cases rv
 cases rr
 obtain ⟨its1,rv1,p1,_⟩:=I1.list hx
 obtain ⟨its2,rv2,p2,_⟩:=I1.list hy
 obtain ⟨its3,rv3,p3,_⟩:=I1.list hz
 have la:a < s1.heap.objs.size:=by obtain ⟨o,n,e,_⟩:=p1; exact Heap.lt_size e
 have lb:b < s1.heap.objs.size:=by obtain ⟨o,n,e,_⟩:=p2; exact Heap.lt_size e
 have lc:c < s1.heap.objs.size:=by obtain ⟨o,n,e,_⟩:=p3; exact Heap.lt_size e
 refine zMz p1.isList p2.isList p3.isList λh' z1 z2 z3 z4 z5 z6 keep=>wpAny_pyIter_zip z1 ?_
 have I2:zH X pins σ H1 { s1 with heap:=h' }:=I1.kept (t':=s1.toks) keep
 refine ⟨s1.heap.objs.size + 5,[s1.heap.objs.size + 5,s1.heap.objs.size + 3,s1.heap.objs.size + 4,s1.heap.objs.size,s1.heap.objs.size + 1,s1.heap.objs.size + 2],_,_,H1,rfl,I2,
  zLS (a:=a) (b:=b) (c:=c) (YJ _ _ _ _ la lb lc) (Nat.ne_of_lt la) (Nat.ne_of_lt (Nat.lt_succ_of_lt lb)) (Nat.ne_of_lt (Nat.lt_succ_of_lt (Nat.lt_succ_of_lt lc))),⟨z1,z2,⟨_,_,_,z3⟩,z4,z5,z6⟩,λd hc=>?_,q⟩
 have ge:s1.heap.objs.size<=d:=by
  simp only [List.mem_cons,List.not_mem_nil,or_false] at hc
  rcases hc with rfl | rfl | rfl | rfl | rfl | rfl
  ·exact Nat.le_add_right _ 5
  ·exact Nat.le_add_right _ 3
  ·exact Nat.le_add_right _ 4
  ·exact Nat.le_refl _
  ·exact Nat.le_add_right _ 1
  ·exact Nat.le_add_right _ 2
 exact I1.fpOk ge (I1.hok.fresh ge)
end
end L2
namespace L2
open PySem PySem.Spec PyProof.Rows
section
variable {X:Cx}
theorem zM0 (hc:X.calm=true):vL X (.builtin "max") (λxs H Q=>∃ (p:Addr) (ns:List Int),xs=[.ref p]/\zR X.K H p (ns.map V.int)/\0 < ns.length/\∀ M,M∈ns->(∀ a∈ns,a<=M)->Q (.int M) H):=by
 intro pins s σ H xs us Q I r h
 obtain ⟨p,ns,rfl,hl,h0,q⟩:=h
 obtain ⟨u,rfl,rx⟩:=ux r
 obtain rfl:u=.ref p:=rx
 obtain ⟨its,rv,pl,hz⟩:=I.list hl
 have hi:∀ {xs:List Int} {ys:List Value},zM (xs.map V.int) ys->IntsAre ys xs:=by
  intro xs
  induction xs with
  | nil=>intro ys h; cases h; exact .nil
  | cons x xs ih=>
   intro ys h
   cases h with
   | cons h1 h2=>
    obtain ⟨t,rfl⟩:=h1
    exact .cons x t (ih h2)
 have hA:=hi rv
 obtain ⟨xs,e⟩:=hA.allInts.items
 have hns:ns=xs.toList.map (·.1):=by rw [<- hA.numsOf,<- nums_intItems,<- e]
 have hsz:0 < xs.size:=by
  have h3:=h0
  rw [hns,List.length_map,Array.length_toList] at h3
  exact h3
 have hl2:=pl.isList
 rw [e] at hl2
 refine max_intList (I.ok.hd hc) hl2 hsz λv h' tk hv hk=>?_
 obtain ⟨t,rfl⟩:=intItems_at hv
 obtain ⟨h1,h2⟩:=argBest_gt (numAt xs) (xs.size - 1)
 refine ⟨.int _,H,I.kept hk,⟨t,rfl⟩,q _ ?_ λa ha=>?_⟩
 ·rw [hns,numAt_eq]
  rw [List.getD_eq_getElem?_getD,List.getElem?_eq_getElem (by rw [List.length_map,Array.length_toList]; omega)]
  exact List.getElem_mem _
 ·rw [hns] at ha
  obtain ⟨j,hj,rfl⟩:=mem_getD ha
  rw [List.length_map,Array.length_toList] at hj
  have:=h2 j (by omega)
  rw [numAt_eq] at this
  exact this
end
end L2
namespace Pu
open PySem L2 Sh
abbrev YL (x y t:D):D:=.tup [x,y,t]
def vm:List D->List D->List D->List D
 | a :: as,b :: bs,c :: cs=>YL a b c :: vm as bs cs
 | _,_,_=>[]
theorem zOb:∀ (as bs cs:List D),(vm as bs cs).length=min as.length (min bs.length cs.length)
 | [],_,_=>by simp [vm]
 | _ :: _,[],_=>by simp [vm]
 | _ :: _,_ :: _,[]=>by simp [vm]
 | _ :: as,_ :: bs,_ :: cs=>by
  show (vm as bs cs).length + 1=_
  rw [zOb as bs cs]
  simp only [List.length_cons]
  omega
theorem zOc:∀ {as bs cs:List D} {i:Nat} {d:D},(vm as bs cs)[i]? = some d->∃ a b c,as[i]? = some a/\bs[i]? = some b/\cs[i]? = some c/\d=YL a b c
 | [],_,_,_,_,h=>by simp [vm] at h
 | _ :: _,[],_,_,_,h=>by simp [vm] at h
 | _ :: _,_ :: _,[],_,_,h=>by simp [vm] at h
 | a :: _,b :: _,c :: _,0,d,h=>⟨a,b,c,rfl,rfl,rfl,by cases h; rfl⟩
 | _ :: as,_ :: bs,_ :: cs,i + 1,d,h=>by
  obtain ⟨a,b,c,h1,h2,h3,e⟩:=zOc (as:=as) (bs:=bs) (cs:=cs) (i:=i) (d:=d) h
  exact ⟨a,b,c,h1,h2,h3,e⟩
theorem zOa {α β:Type} (u:α->D) (v:β->D):∀ (xs:List α) (ys:List β) (cs:List D),vm (xs.map u) (ys.map v) cs=(xs.zip (ys.zip cs)).map λp=>YL (u p.1) (v p.2.1) p.2.2
 | [],_,_=>rfl
 | _ :: _,[],_=>rfl
 | _ :: _,_ :: _,[]=>rfl
 | x :: xs,y :: ys,c :: cs=>by
  show YL (u x) (v y) c :: vm (xs.map u) (ys.map v) cs=_
  rw [zOa u v xs ys cs]
  rfl
theorem zO9 {K:PySem.W.Frag} {Z:Addr->Prop} {H:Hp} {a b c:Addr} {xs ys zs:List V} {ds es fs:List D} (h1:∀ Z' H',zD (zT Z H) (zT Z' H')->zR K H' a xs) (h2:∀ Z' H',zD (zT Z H) (zT Z' H')->zR K H' b ys) (h3:∀ Z' H',zD (zT Z H) (zT Z' H')->zR K H' c zs) (hx:yK (zT Z H) xs ds) (hy:yK (zT Z H) ys es) (hz:yK (zT Z H) zs fs) :
  Wk Z (qU K a b c) H (vm ds es fs):=λi Z' H' s zd=>by
 have a1:=h1 Z' H' s
 have a2:=h2 Z' H' s
 have a3:=h3 Z' H' s
 have l1:=xu hx
 have l2:=xu hy
 have l3:=xu hz
 refine ⟨λd hd=>?_,λhi=>?_⟩
 ·obtain ⟨p,q,r,hp,hq,hr,rfl⟩:=zOc hd
  obtain ⟨x,gx,kx⟩:=je hx hp
  obtain ⟨y,gy,ky⟩:=je hy hq
  obtain ⟨t,gt,kt⟩:=je hz hr
  refine ⟨⟨xs,ys,zs,x,y,t,a1,a2,a3,gx,gy,gt⟩,λv H'' ⟨T,x',y',t',ev,hT,eH,q1,q2,q3⟩=>?_⟩
  have:=q1 xs a1
  rw [gx] at this
  cases this
  have:=q2 ys a2
  rw [gy] at this
  cases this
  have:=q3 zs a3
  rw [gt] at this
  cases this
  subst ev
  subst eH
  exact ⟨xA hT _,ZX zd hT (.cons (kx.same s) (.cons (ky.same s) (.cons (kt.same s) .nil)))⟩
 ·rw [zOb] at hi
  exact ⟨xs,ys,zs,a1,a2,a3,by omega,by omega,by omega,by omega⟩
def zQA:List D->(List D->Prop)->Prop
 | [.lst ds,.lst es,.lst fs],R=>R (vm ds es fs)
 | _,_=>False
theorem JU {H:Hp} {vs:List V} {d e f:D} (h:yK H vs [d,e,f]):∃ v w u,vs=[v,w,u]/\DV H v d/\DV H w e/\DV H u f:=by
 cases h with
 | cons h1 h=>cases h with
  | cons h2 h=>cases h with
   | cons h3 h=>cases h; exact ⟨_,_,_,rfl,h1,h2,h3⟩
theorem zNn {X:Cx} {pl:y6} {e1 e2 e3:Expr} {pos:Pos} {ts:List Expr} {kk:Nat} {tp p:Pos} (hg:Gl X "zip") (hm:X.mg "zip" = none) (ha:PA X [e1,e2,e3] (wV pl)) (hs:starEach [e1,e2,e3] X.env=(false,eval e1 X.env) :: starEach [e2,e3] X.env:=by rfl) (hpl:(backTo pos (starEach [e2,e3] X.env)).any (·.1)=false:=by rfl) :
  PI X (.Tuple ts kk tp) (.Call (.Name "zip" p) [e1,e2,e3] [] pos) (um (U9 zQA pl)):=Zv (zPW hg hm ha hs hpl) λσ H Q ⟨Z,Γ,R,E,h,q⟩=>
 ⟨Z,Γ,_,E,h,λds vs H1 hd s1 hv=>by
  unfold zQA at hd
  split at hd
  ·obtain ⟨v,w,u,rfl,hx,hy,hz⟩:=JU hv
   obtain ⟨a,xs,rfl,ea,ha⟩:=hx.lst_inv
   obtain ⟨b,ys,rfl,eb,hb⟩:=hy.lst_inv
   obtain ⟨c,zs,rfl,ec,hc⟩:=hz.lst_inv
   exact ⟨a,b,c,rfl,⟨xs,zR.of (yC _ _ ea)⟩,⟨ys,zR.of (yC _ _ eb)⟩,⟨zs,zR.of (yC _ _ ec)⟩,q _ _ H1 hd s1 (zO9 (λ_ _ s=>zR.of (yC _ _ (s _ _ ea))) (λ_ _ s=>zR.of (yC _ _ (s _ _ eb))) (λ_ _ s=>zR.of (yC _ _ (s _ _ ec))) ha hb hc)⟩
  ·exact hd.elim⟩
section
variable {X:Cx} {a b:Expr} {pos:Pos} {pa pb:yF}
theorem zQ5:yw X (compareOp .Is) (λx y H Q=>y=.non/\((x=.non/\Q (.bl true) H)\/∃ i,x=.int i/\Q (.bl false) H)):=by
 intro pins s σ H x y v u Q I rx ry h
 obtain ⟨rfl,⟨rfl,q⟩ | ⟨i,rfl,q⟩⟩:=h
 ·cases rx
  cases ry
  exact PyProof.Rows.is_none_none ⟨.bl true,H,I,rfl,q⟩
 ·obtain ⟨t,rfl⟩:=rx
  cases ry
  exact PyProof.Rows.is_none_ne (λh=>by cases h) ⟨.bl false,H,I,rfl,q⟩
def JV:F2
 | .non,.non,R=>R (.bool true)
 | .int _,.non,R=>R (.bool false)
 | _,_,_=>False
theorem zPi:wr (λx y H Q=>y=.non/\((x=.non/\Q (.bl true) H)\/∃ i,x=.int i/\Q (.bl false) H)) JV:=λZ H x y a b R Q zd hx hy h q=>by
 unfold JV at h
 split at h
 ·cases hx
  cases hy
  exact ⟨rfl,.inl ⟨rfl,q _ _ H h (zD.refl _) (.bool _)⟩⟩
 ·cases hx
  cases hy
  exact ⟨rfl,.inr ⟨_,rfl,q _ _ H h (zD.refl _) (.bool _)⟩⟩
 ·exact h.elim
theorem zLq (ha:PE X a (tP pa)) (hb:PE X b (tP pb)):PT X (.Compare a [.Is] [b] pos) (xU (wW (xz JV pa pb))):=gU zQ5 zPi (vy _) ha hb
end
end Pu
namespace Pu
open PySem L2 Sh
def zRD:FL
 | [.lst ds],R=>∃ ns:List Int,ds=ns.map D.int/\0 < ns.length/\∀ M,M∈ns->(∀ a∈ns,a<=M)->R (.int M)
 | _,_=>False
theorem zOT {K:PySem.W.Frag}:uN (λxs H Q=>∃ (p:Addr) (ns:List Int),xs=[.ref p]/\zR K H p (ns.map V.int)/\0 < ns.length/\∀ M,M∈ns->(∀ a∈ns,a<=M)->Q (.int M) H) zRD:=λZ H vs ds R Q zd hv h q=>by
 unfold zRD at h
 split at h
 ·obtain ⟨v,rfl,hw⟩:=xC hv
  obtain ⟨p,xs,rfl,e1,h1⟩:=hw.lst_inv
  obtain ⟨ns,rfl,l0,h⟩:=h
  cases Xh h1
  exact ⟨p,ns,rfl,zR.of (yC _ _ e1),l0,λM m1 m2=>q _ _ H (h M m1 m2) (zD.refl _) (.int _)⟩
 ·exact h.elim
end Pu
namespace K86
open PySem L2 Sh Pu
def zp (i:Nat):Stmt:=PySem.Challenge.pw_steadyhand_k86_whole_papers_of_rooms_tur.main.body.getD i (.Pass ⟨0,0,0,0⟩)
structure Bl (mg:Str->Option Value):Prop where
 isinstance_:mg "isinstance" = none
 int_:mg "int" = none
 bool_:mg "bool" = none
 tuple_:mg "tuple" = none
 len_:mg "len" = none
 all_:mg "all" = none
 list_:mg "list" = none
 range_:mg "range" = none
 zip_:mg "zip" = none
 sum_:mg "sum" = none
 max_:mg "max" = none
 enumerate_:mg "enumerate" = none
 min_:mg "min" = none
 MOST_NUMBERS_:∃ t,mg "MOST_NUMBERS" = some (.int 3 t)
 MOST_PUSHES_:∃ t,mg "MOST_PUSHES" = some (.int 6 t)
 MOST_MODES_:∃ t,mg "MOST_MODES" = some (.int 40 t)
structure wz (K:PySem.W.Frag) (C:Addr):Prop where
 n_rows:yp K C "rows"
 n_nexts:yp K C "nexts"
 n_steer:yp K C "steer"
 n_push:yp K C "push"
 n_add:yp K C "add"
 n_divisor:yp K C "divisor"
structure w4 (K:PySem.W.Frag) (C:Addr):Prop where
 n_many:yp K C "many"
 n_kept_pushes:yp K C "kept_pushes"
 n_kept_modes:yp K C "kept_modes"
structure w6 (K:PySem.W.Frag) (C:Addr):Prop where
 no:True
structure w8 (K:PySem.W.Frag) (C:Addr):Prop where
 n_start:yp K C "start"
 n_rows:yp K C "rows"
 n_turn:yp K C "turn"
structure vA (K:PySem.W.Frag) (C:Addr):Prop where
 n_start:yp K C "start"
 n_goal:yp K C "goal"
 n_turns:yp K C "turns"
structure vB (K:PySem.W.Frag) (C:Addr):Prop where
 no:True
structure vC (K:PySem.W.Frag) (C:Addr):Prop where
 n_rooms:yp K C "rooms"
 n_back:yp K C "back"
 n_starts:yp K C "starts"
 n_steps:yp K C "steps"
 n_stays:yp K C "stays"
structure vD (K:PySem.W.Frag) (C:Addr):Prop where
 n_room:yp K C "room"
 n_starts:yp K C "starts"
 n_steps:yp K C "steps"
 n_measure:yp K C "measure"
 n_step:yp K C "step"
 n_top:yp K C "top"
 n_falls:yp K C "falls"
 n_floors:yp K C "floors"
 n_tops:yp K C "tops"
inductive Fw:Nat->D->Prop
 | int {k:Nat} (i:Int):Fw (k + 1) (.int i)
 | bool {k:Nat} (b:Bool):Fw (k + 1) (.bool b)
 | non {k:Nat}:Fw (k + 1) .non
 | str {k:Nat} (x:Str):Fw (k + 1) (.str x)
 | lst {k:Nat} {ds:List D} (l:ds.length<=900) (h:∀ d∈ds,Fw k d):Fw (k + 1) (.lst ds)
 | tup {k:Nat} {ds:List D} (l:ds.length<=900) (h:∀ d∈ds,Fw k d):Fw (k + 1) (.tup ds)
theorem Fw.no {k:Nat} {d:D} (h:Fw k d):d.isObj=false:=by cases h <;> rfl
theorem Fw.lst_inv {k:Nat} {d:D} (h:Fw k d) (e:d.isLst=true):∃ ds,d=.lst ds/\ds.length<=900/\∃ j,k=j + 1/\∀ d∈ds,Fw j d:=by
 cases h with
 | lst l h=>exact ⟨_,rfl,l,_,rfl,h⟩
 | _=>cases e
theorem Fw.tup_inv {k:Nat} {d:D} (h:Fw k d) (e:d.isTup=true):∃ ds,d=.tup ds/\ds.length<=900/\∃ j,k=j + 1/\∀ d∈ds,Fw j d:=by
 cases h with
 | tup l h=>exact ⟨_,rfl,l,_,rfl,h⟩
 | _=>cases e
theorem zMZ {k:Nat} {ns:List Int}:∀ d∈ns.map D.int,Fw (k + 1) d:=λd m=>by
 obtain ⟨i,_,rfl⟩:=List.mem_map.mp m
 exact .int i
theorem k0 {n:Nat} (h:n.ble 1000=true:=by rfl):n<=1000:=Nat.le_of_ble_eq_true h
theorem bR {R:D->Prop} {a b:Bool} (q:R (.bool a)) (e:a=b):R (.bool b):=e ▸ q
def jE (d:D):Bool:=d.isInt && !d.isBool
def X4 (n:Int):D->Bool
 | .lst ds=>decide ((ds.length:Int)=n) && ds.all jE
 | _=>false
def YM (h w:Int):D->Bool
 | .lst ds=>decide ((ds.length:Int)=h) && ds.all (X4 w)
 | _=>false
def jF (n:Int):D->Bool
 | .tup ds=>decide ((ds.length:Int)=n + 1) && ds.all jE
 | _=>false
def zQW (n:Int):D->Bool
 | .lst ds=>ds.all (jF n)
 | _=>false
theorem v9 {α:Type} (f:α->Bool) (xs:List α):(xs.map f).all id=xs.all f:=by rw [List.all_map]; rfl
def qV:FL:=λds R=>∃ d,ds=[d]/\d.isObj=false/\R (.bool (jE d))
def JW:FL:=λds R=>∃ d n k,ds=[d,.int n]/\Fw k d/\R (.bool (X4 n d))
def qW:FL:=λds R=>∃ d h w k,ds=[d,.int h,.int w]/\Fw k d/\R (.bool (YM h w d))
def YN:FL:=λds R=>∃ d n k,ds=[d,.int n]/\Fw k d/\R (.bool (jF n d))
def X5:FL:=λds R=>∃ d n k,ds=[d,.int n]/\Fw k d/\R (.bool (zQW n d))
def qX (j:Nat):FL:=λds R=>∃ d n,ds=[d,.int n]/\Fw j d/\R d
def JX:FL:=λds R=>∃ p w n:Int,ds=[.int p,.int w,.int n]/\0<=w/\w<=900/\R (L (yd p w.toNat n))
def IS (d:D) (ns:List Int):Prop:=d=L ns\/d=U ns
theorem IS.seq {d:D} {ns:List Int} (h:IS d ns) {R:List D->Prop} (q:R (ns.map D.int)):qM d R:=by
 rcases h with rfl | rfl
 ·exact q
 ·exact q
def zMf:FL:=λds R=>∃ (f:Int) (d:D) (ns:List Int),ds=[.int f,d]/\IS d ns/\ns.length<=900/\Bd 9000 f/\(∀ x∈ns,Bd 9000 x)/\R (L (ns.map (f * ·)))
abbrev IL (e:D) (os:List Int):Prop:=e=L os\/False
def JY:FL:=λds R=>∃ (d e:D) (ns os:List Int),ds=[d,e]/\IS d ns/\IL e os/\ns.length<=900/\(∀ x∈ns,Bd 9000 x)/\(∀ x∈os,Bd 9000 x)/\R (.int (zN ns os))
theorem zJY:∀ ns os:List Int,List.zipWith xb (ns.map D.int) (os.map D.int)=(ns.zip os).map λq=>xb (.int q.1) (.int q.2)
 | [],_=>rfl
 | _ :: _,[]=>rfl
 | _ :: ns,_ :: os=>by rw [List.map_cons,List.map_cons,List.zipWith_cons_cons,zJY ns os]; rfl
theorem IS.zip {d e:D} {ns os:List Int} (h:IS d ns) (k:IL e os) {R:List D->Prop} (q:R ((ns.zip os).map λq=>xb (.int q.1) (.int q.2))):ue [d,e] R:=by
 rw [<- zJY] at q
 rcases h with rfl | rfl <;> rcases k with rfl | k <;> first | exact q | exact k.elim
theorem YO {qs:List (Int × Int)} {G:D->(D->Prop)->Prop} {R:D->Prop} (g:Int × Int->Int) (few:qs.length<=1000) (h:∀ q,q∈qs->G (xb (.int q.1) (.int q.2)) λe=>e=.int (g q)) (k:R (.lst ((qs.map g).map D.int))):zl (qs.map λq=>xb (.int q.1) (.int q.2)) G R:=
 zl.map (λd=>match d with | .tup [x,y]=>.int (g (zz x,zz y)) | _=>.non) (by rw [List.length_map]; exact few) (λd m=>by
  obtain ⟨q,hq,rfl⟩:=List.mem_map.mp m
  exact h q hq) (by rw [List.map_map] at k |-; exact k)
theorem zJd:∀ ns os:List Int,((ns.zip os).map λq=>q.1 * q.2).sum=zN ns os
 | [],_=>rfl
 | _ :: _,[]=>rfl
 | n :: ns,o :: os=>by rw [List.zip_cons_cons,List.map_cons,List.sum_cons,zJd ns os]; rfl
abbrev Tb (t:List (List Int)):D:=.lst (t.map L)
abbrev Rm (t:List (List Int)):D:=.lst (t.map U)
def zg:D->List Int
 | .lst ds=>ds.map zz
 | .tup ds=>ds.map zz
 | _=>[]
theorem zJ0 (ns:List Int):(ns.map D.int).map zz=ns:=by rw [List.map_map]; exact List.map_id _
theorem uQ (ns:List Int):zg (L ns)=ns:=zJ0 ns
theorem jG (ns:List Int):zg (U ns)=ns:=zJ0 ns
theorem xc {α:Type} {xs:List α} {G:D->(D->Prop)->Prop} {R:D->Prop} (u:α->D) (v:D->α) (hv:∀ x,v (u x)=x) (g:α->D) (few:xs.length<=1000) (h:∀ x,x∈xs->G (u x) λe=>e=g x) (q:R (.lst (xs.map g))):zl (xs.map u) G R:=
 zl.map (λd=>g (v d)) (by rw [List.length_map]; exact few) (λd m=>by
  obtain ⟨x,hx,rfl⟩:=List.mem_map.mp m
  rw [hv]
  exact h x hx) (by
  rw [List.map_map,show ((λd=>g (v d)) ∘ u)=g from funext λx=>congrArg g (hv x)]
  exact q)
def IT (e:D) (ls:List (List Int)):Prop:=e=Tb ls\/e=Rm ls
theorem zLC {α:Type} (u:α->D):∀ (ns:List Int) (ls:List α),List.zipWith xb (ns.map D.int) (ls.map u)=(ns.zip ls).map λq=>xb (.int q.1) (u q.2)
 | [],_=>rfl
 | _ :: _,[]=>rfl
 | _ :: ns,_ :: ls=>by rw [List.map_cons,List.map_cons,List.zipWith_cons_cons,zLC u ns ls]; rfl
def v2 (d:D):Int × List Int:=match d with
 | .tup [x,y]=>(zz x,zg y)
 | _=>(0,[])
theorem wZ {ns:List Int} {j:Nat} (h:j < ns.length) {i:Int} (e:i=(j:Int)):yL (ns.map D.int) i=some (.int (ns.getD j 0)):=by
 rw [uk,e]
 unfold yL wG
 rw [if_pos (by omega),if_pos (by omega)]
 show Option.map D.int ns[((j:Nat):Int).toNat]? = _
 rw [show ((j:Nat):Int).toNat=j by omega,List.getElem?_eq_getElem h,List.getD_eq_getElem?_getD,List.getElem?_eq_getElem h]
 rfl
theorem IS.zipT {d e:D} {ns:List Int} {ls:List (List Int)} (h:IS d ns) (k:IT e ls) {R:List D->Prop} (q:∀ u:List Int->D,u=L\/u=U->R ((ns.zip ls).map λq=>xb (.int q.1) (u q.2))):ue [d,e] R:=by
 have q1:=q L (.inl rfl)
 have q2:=q U (.inr rfl)
 rw [<- zLC] at q1 q2
 rcases h with rfl | rfl <;> rcases k with rfl | rfl <;> first | exact q1 | exact q2
theorem YQ {u:List Int->D} (hu:u=L\/u=U) (q:Int × List Int):v2 (xb (.int q.1) (u q.2))=q:=by
 rcases hu with rfl | rfl
 ·show (q.1,zg (L q.2))=q
  rw [uQ]
 ·show (q.1,zg (U q.2))=q
  rw [jG]
def YR:FL:=λds R=>∃ (d e:D) (ns:List Int) (ls:List (List Int)) (w:Nat),ds=[d,e,.int (w:Int)]/\IS d ns/\IT e ls/\w<=900/\ns.length<=900/\(∀ x∈ns,Bd 9000 x)/\(∀ r∈ls,w<=r.length/\∀ x∈r,Bd 9000 x)/\R (L ((List.range w).map (zS ns ls)))
def zMd:FL:=λds R=>∃ p w n b:Int,ds=[.int p,.int w,.int n,.int b]/\0<=w/\w<=900/\R (U (yd p w.toNat n++[b]))
theorem jH {e:Nat} {r:List Int} (h:∀ x∈r,Bd e x) (j:Nat):Bd e (r.getD j 0):=by
 rw [List.getD_eq_getElem?_getD]
 cases hj:r[j]? with
 | none=>show (0:Int).natAbs < 2 ^ e; exact Nat.two_pow_pos e
 | some x=>exact h x (List.mem_of_getElem? hj)
section
variable {P:Program} {w:World} {K:PySem.W.Frag} {mg:Str->Option Value} {base:Heap}
abbrev JZ:Stmt:=zp 8
theorem zIu:zh ["thing"] ["thing"] (zK JZ):=.a
abbrev X6:Stmt:=zp 10
theorem zHC:zh ["value","count"] ["value","count"] (zK X6):=.a
abbrev X7:Stmt:=zp 11
theorem zIv:zh ["value","tall","wide"] ["value","tall","wide"] (zK X7):=.a
abbrev YS:Stmt:=zp 12
theorem zLj:zh ["value","depth"] ["value","depth"] (zK YS):=.a
abbrev X8:Stmt:=zp 13
theorem zPO:zh ["place","wide","number"] ["place","wide","number"] (zK X8):=.a
abbrev X9:Stmt:=zp 14
theorem zLf:zh ["factor","numbers"] ["factor","numbers"] (zK X9):=.a
abbrev WA:Stmt:=zp 16
theorem zLg:zh ["numbers","others"] ["numbers","others"] (zK WA):=.a
variable {ag ah aClaim aSettles aComes aPaper aRooms aFalls:Addr} (aa:zE K mg "Mode" ag) (ab:wz K ag) (ac:zE K mg "Thing" ah) (ae:w4 K ah) (TClaim:zE K mg "Claim" aClaim) (AClaim:w6 K aClaim) (TSettles:zE K mg "Settles" aSettles) (ASettles:w8 K aSettles) (TComes:zE K mg "Comes" aComes) (AComes:vA K aComes) (TPaper:zE K mg "Paper" aPaper) (APaper:vB K aPaper) (TRooms:zE K mg "Rooms" aRooms) (ARooms:vC K aRooms) (TFalls:zE K mg "Falls" aFalls) (AFalls:vD K aFalls)
include aa ab ac ae TClaim AClaim TSettles ASettles TComes AComes TPaper APaper TRooms ARooms TFalls AFalls
theorem zI9 {k:Nat} {f:Addr} {fd:FuncData} (F:zj K "is_whole" "is_whole" JZ f fd) (B:Bl mg):zG P w K mg base zY (k + 1) f fd ["thing"] (zJ (qV)):=by
 refine zx F zIu (λds R h=>by obtain ⟨d,rfl,_⟩:=h; rfl) λcdv A outer s H E hr=>⟨_,(zP (zX (wX (yO (xi wo rfl B.isinstance_ xo (zi (zA 0) (zi (wj (v:=.ty "int") (u:=.type "int") rfl B.int_ kz rfl) yE))) (wx zRM)) (vk (zQd (yO (xi wo rfl B.isinstance_ xo (zi (zA 0) (zi (wj (v:=.ty "bool") (u:=.type "bool") rfl B.bool_ Kw rfl) yE))) (wx zJ4))))))),λds R h=>?_⟩
 obtain ⟨d,rfl,o,q⟩:=h
 refine ⟨o,λc=>⟨o,bR q ?_⟩,λc=>bR q ?_⟩
 ·unfold jE; rw [c]; rfl
 ·unfold jE; rw [c]; rfl
theorem zHe {k:Nat} {f:Addr} {fd:FuncData} (F:zj K "is_numbers" "is_numbers" X6 f fd) (B:Bl mg) (al:Fn P w K mg base "is_whole" ["thing"] k (zJ (qV))):zG P w K mg base zY (k + 1) f fd ["value","count"] (zJ (JW)):=by
 refine zx F zHC (λds R h=>by obtain ⟨d,n,k,rfl,_⟩:=h; rfl) λcdv A outer s H E hr=>⟨_,(zP (zX (wX (yO (xi wo rfl B.isinstance_ xo (zi (zA 0) (zi (wj (v:=.ty "list") (u:=.type "list") rfl B.list_ xq rfl) yE))) (wx jC)) (wX (uM hr.units (zy yf yo rfl B.len_ yh (zB (zA 0) zC)) (zA 1)) (vk (zy (vP rfl) vX rfl B.all_ vQ (zB (yI (own:=["number"]) (caps:=[]) (yB (S:=zK X6) (N:=["value","count"]) rfl (by decide +kernel) rfl ⟨0,rfl⟩ rfl (by decide +kernel) (by decide +kernel)) rfl rfl yD (yP (zA 0)) (λ_ _ _ _=>(zq 0 (show (["number"]:List Str).Nodup by decide +kernel) rfl (Or.inl rfl))) (λ_ _ _ _=>(zQ al hr rfl (zB (zA 0) zC)))) zC))))))),λds R h=>?_⟩
 obtain ⟨d,n,k,rfl,f,q⟩:=h
 refine ⟨f.no,λc=>?_,λc=>bR q ?_⟩
 ·obtain ⟨es,rfl,le,j,rfl,hj⟩:=f.lst_inv c
  refine ⟨λc2=>?_,λc2=>bR q ?_⟩
  ·refine zl.bool jE (by omega) (λd m=>⟨d,rfl,(hj d m).no,rfl⟩) ⟨_,rfl,bR q ?_⟩
   show (decide _ && _)=_
   rw [c2,v9]
   rfl
  ·show (decide _ && _)=_
   rw [c2]
   rfl
 ·cases d <;> first | rfl | cases c
theorem zJA {k:Nat} {f:Addr} {fd:FuncData} (F:zj K "is_table" "is_table" X7 f fd) (B:Bl mg) (aI:Fn P w K mg base "is_numbers" ["value","count"] k (zJ (JW))):zG P w K mg base zY (k + 1) f fd ["value","tall","wide"] (zJ (qW)):=by
 refine zx F zIv (λds R h=>by obtain ⟨d,h,w,k,rfl,_⟩:=h; rfl) λcdv A outer s H E hr=>⟨_,(zP (zX (wX (yO (xi wo rfl B.isinstance_ xo (zi (zA 0) (zi (wj (v:=.ty "list") (u:=.type "list") rfl B.list_ xq rfl) yE))) (wx jC)) (wX (uM hr.units (zy yf yo rfl B.len_ yh (zB (zA 0) zC)) (zA 1)) (vk (zy (vP rfl) vX rfl B.all_ vQ (zB (yI (own:=["part"]) (caps:=[(2,"wide")]) (yB (S:=zK X7) (N:=["value","tall","wide"]) rfl (by decide +kernel) rfl ⟨_,rfl⟩ rfl (by decide +kernel) (by decide +kernel)) rfl rfl yD (yP (zA 0)) (λ_ _ _ _=>(zq 0 (show (["part","wide"]:List Str).Nodup by decide +kernel) rfl (Or.inl rfl))) (λ_ _ _ _=>(zQ aI hr rfl (zB (zA 0) (zB (zA 1) zC))))) zC))))))),λds R h=>?_⟩
 obtain ⟨d,h,w,k,rfl,f,q⟩:=h
 refine ⟨f.no,λc=>?_,λc=>bR q ?_⟩
 ·obtain ⟨es,rfl,le,j,rfl,hj⟩:=f.lst_inv c
  refine ⟨λc2=>?_,λc2=>bR q ?_⟩
  ·refine zl.bool (X4 w) (by omega) (λd m=>⟨d,w,j,rfl,hj d m,rfl⟩) ⟨_,rfl,bR q ?_⟩
   show (decide _ && _)=_
   rw [c2,v9]
   rfl
  ·show (decide _ && _)=_
   rw [c2]
   rfl
 ·cases d <;> first | rfl | cases c
theorem gX {k:Nat} {f:Addr} {fd:FuncData} {dv:Value} {j:Nat} (F:xG K "copied" "copied" YS f fd dv) (B:Bl mg) (ak:vh P w K mg base "copied" ["value","depth"] k (zJ (qX j)) (.int 5)):zG P w K mg base zY (k + 1) f fd ["value","depth"] (zJ (qX (j + 1))):=by
 refine YA F zLj (λds R h=>by obtain ⟨d,n,rfl,_⟩:=h; rfl) λcdv A outer s H E hr=>⟨_,(zL (yR (vj hr.units (zA 1) zF) (zP (zX (zA 0))) yQ)
  (zL (yR (yc (yO (xi wo rfl B.isinstance_ xo (zi (zA 0) (zi (wj (v:=.ty "list") (u:=.type "list") rfl B.list_ xq rfl) yE))) (wx jC))) (zP (zX (yI (own:=["part"]) (caps:=[(1,"depth")]) (yB (S:=zK YS) (N:=["value","depth"]) rfl (by decide +kernel) rfl ⟨_,rfl⟩ rfl (by decide +kernel) (by decide +kernel)) rfl rfl yD (yP (zA 0)) (λ_ _ _ _=>(zq 0 (show (["part","depth"]:List Str).Nodup by decide +kernel) rfl (Or.inl rfl))) (λ_ _ _ _=>(zQ ak.fn hr rfl (zB (zA 0) (zB (xr (zA 1) zF) zC))))))) yQ)
  (zL (yR (yc (yO (xi wo rfl B.isinstance_ xo (zi (zA 0) (zi (wj (v:=.ty "tuple") (u:=.type "tuple") rfl B.tuple_ vI rfl) yE))) (wx Z9))) (zP (zX (xV uX ud rfl B.tuple_ vI (zB (yI (own:=["part"]) (caps:=[(1,"depth")]) (yB (S:=zK YS) (N:=["value","depth"]) rfl (by decide +kernel) rfl ⟨_,rfl⟩ rfl (by decide +kernel) (by decide +kernel)) rfl rfl yD (yP (zA 0)) (λ_ _ _ _=>(zq 0 (show (["part","depth"]:List Str).Nodup by decide +kernel) rfl (Or.inl rfl))) (λ_ _ _ _=>(zQ ak.fn hr rfl (zB (zA 0) (zB (xr (zA 1) zF) zC))))) zC)))) yQ)
  (zP (zX (zA 0)))))),λds R h=>?_⟩
 obtain ⟨d,n,rfl,f,q⟩:=h
 refine ⟨λc=>q,λc=>?_⟩
 refine ⟨f.no,λc=>?_,λc=>?_⟩
 ·obtain ⟨es,rfl,le,i,e1,hj⟩:=f.lst_inv c
  cases e1
  refine zl.map id (by omega) (λd m=>⟨d,_,rfl,hj d m,rfl⟩) ?_
  rw [List.map_id]
  exact q
 refine ⟨f.no,λc=>?_,λc=>q⟩
 obtain ⟨es,rfl,le,i,e1,hj⟩:=f.tup_inv c
 cases e1
 refine zl.map id (by omega) (λd m=>⟨d,_,rfl,hj d m,rfl⟩) ?_
 rw [List.map_id]
 exact q
theorem zPl {k:Nat} {f:Addr} {fd:FuncData} {dv:Value} (F:xG K "unit" "unit" X8 f fd dv) (B:Bl mg):zG P w K mg base zY (k + 1) f fd ["place","wide","number"] (zJ (JX)):=by
 refine YA F zPO (λds R h=>by obtain ⟨p,w,n,rfl,_⟩:=h; rfl) λcdv A outer s H E hr=>⟨_,(zP (zX (yI (own:=["other"]) (caps:=[(0,"place"),(2,"number")]) (yB (S:=zK X8) (N:=["place","wide","number"]) rfl (by decide +kernel) rfl ⟨_,rfl⟩ rfl (by decide +kernel) (by decide +kernel)) rfl rfl yD (xK rfl B.range_ (zB (zA 1) zC)) (λ_ _ _ _=>(zq 0 (show (["other","place","number"]:List Str).Nodup by decide +kernel) rfl (Or.inl rfl))) (λ_ _ _ _=>(zNo (vj hr.units (zA 0) (zA 1)) (zA 2) zF))))),λds R h=>?_⟩
 obtain ⟨p,w,n,rfl,w0,w1,q⟩:=h
 refine ⟨by omega,by omega,zl.rng0 (λi=>.int (if (i:Int)=p then n else 0)) (by omega) (λk hk=>?_) ?_⟩
 ·refine ⟨λc=>?_,λc=>?_⟩
  ·show D.int n=_
   rw [if_pos (of_decide_eq_true c)]
  ·show D.int 0=_
   rw [if_neg (of_decide_eq_false c)]
 ·unfold yd L at q
  rw [List.map_map] at q
  exact q
theorem zL9 {k:Nat} {f:Addr} {fd:FuncData} (F:zj K "scaled" "scaled" X9 f fd) (B:Bl mg):zG P w K mg base zY (k + 1) f fd ["factor","numbers"] (zJ (zMf)):=by
 refine zx F zLf (λds R h=>by obtain ⟨f,d,ns,rfl,_⟩:=h; rfl) λcdv A outer s H E hr=>⟨_,(zP (zX (yI (own:=["number"]) (caps:=[(0,"factor")]) (yB (S:=zK X9) (N:=["factor","numbers"]) rfl (by decide +kernel) rfl ⟨_,rfl⟩ rfl (by decide +kernel) (by decide +kernel)) rfl rfl yD (yP (zA 1)) (λ_ _ _ _=>(zq 0 (show (["number","factor"]:List Str).Nodup by decide +kernel) rfl (Or.inl rfl))) (λ_ _ _ _=>(xE (zA 1) (zA 0)))))),λds R h=>?_⟩
 obtain ⟨f,d,ns,rfl,h,l,bf,bn,q⟩:=h
 exact h.seq (zl.int _ (by omega) (λn hn=>⟨bf.mono,(bn n hn).mono,rfl⟩) q)
theorem zMA {k:Nat} {f:Addr} {fd:FuncData} (F:zj K "paired" "paired" WA f fd) (B:Bl mg):zG P w K mg base zY (k + 1) f fd ["numbers","others"] (zJ (JY)):=by
 refine zx F zLg (λds R h=>by obtain ⟨d,e,ns,os,rfl,_⟩:=h; rfl) λcdv A outer s H E hr=>⟨_,(zP (zX (zy (ZA rfl) Zn rfl B.sum_ k9 (zB (yI (own:=["number","other"]) (caps:=[]) (yB (S:=zK WA) (N:=["numbers","others"]) rfl (by decide +kernel) rfl ⟨0,rfl⟩ rfl (by decide +kernel) (by decide +kernel)) rfl rfl (qL (vZ (vZ qO))) (qN rfl B.zip_ (zB (zA 0) (zB (zA 1) zC))) (λ_ _ _ _=>(wK rfl (zw 0 (show (["number","other"]:List Str).Nodup by decide +kernel) rfl (Or.inl rfl) (zw 1 (show (["number","other"]:List Str).Nodup by decide +kernel) rfl (Or.inl rfl) wJ)))) (λ_ _ _ _=>(xE (zA 0) (zA 1)))) zC)))),λds R h=>?_⟩
 obtain ⟨d,e,ns,os,rfl,h,k,l,bn,bo,q⟩:=h
 refine h.zip k (YO (λq=>q.1 * q.2) (by rw [List.length_zip]; omega) (λp hp=>⟨(bn _ (List.of_mem_zip hp).1).mono,(bo _ (List.of_mem_zip hp).2).mono,rfl⟩) ⟨_,rfl,?_⟩)
 rw [zJd]
 exact q
end
section
variable {P:Program} {w:World} {K:PySem.W.Frag} {mg:Str->Option Value} {base:Heap}
abbrev WB:Stmt:=zp 17
theorem zIx:zh ["numbers","lists","wide"] ["numbers","lists","wide"] (zK WB):=.a
abbrev WC:Stmt:=zp 19
theorem zLi:zh ["value","many"] ["value","many"] (zK WC):=.a
abbrev WD:Stmt:=zp 20
theorem zKg:zh ["value","many"] ["value","many"] (zK WD):=.a
abbrev Ja:Stmt:=zp 21
theorem zLe:zh ["place","many","number","bound"] ["place","many","number","bound"] (zK Ja):=.a
variable {ag ah aClaim aSettles aComes aPaper aRooms aFalls:Addr} (aa:zE K mg "Mode" ag) (ab:wz K ag) (ac:zE K mg "Thing" ah) (ae:w4 K ah) (TClaim:zE K mg "Claim" aClaim) (AClaim:w6 K aClaim) (TSettles:zE K mg "Settles" aSettles) (ASettles:w8 K aSettles) (TComes:zE K mg "Comes" aComes) (AComes:vA K aComes) (TPaper:zE K mg "Paper" aPaper) (APaper:vB K aPaper) (TRooms:zE K mg "Rooms" aRooms) (ARooms:vC K aRooms) (TFalls:zE K mg "Falls" aFalls) (AFalls:vD K aFalls)
include aa ab ac ae TClaim AClaim TSettles ASettles TComes AComes TPaper APaper TRooms ARooms TFalls AFalls
theorem zJC {k:Nat} {f:Addr} {fd:FuncData} (F:zj K "added_up" "added_up" WB f fd) (B:Bl mg):zG P w K mg base zY (k + 1) f fd ["numbers","lists","wide"] (zJ (YR)):=by
 refine zx F zIx (λds R h=>by obtain ⟨d,e,ns,ls,w,rfl,_⟩:=h; rfl) λcdv A outer s H E hr=>⟨_,(zP (zX (yI (own:=["place"]) (caps:=[(0,"numbers"),(1,"lists")]) (yB (S:=zK WB) (N:=["numbers","lists","wide"]) rfl (by decide +kernel) rfl ⟨_,rfl⟩ rfl (by decide +kernel) (by decide +kernel)) rfl rfl yD (xK rfl B.range_ (zB (zA 2) zC)) (λ_ _ _ _=>(zq 0 (show (["place","numbers","lists"]:List Str).Nodup by decide +kernel) rfl (Or.inr rfl))) (λ_ _ _ _=>(zy (ZA rfl) Zn rfl B.sum_ k9 (zB (yI (own:=["number","part"]) (caps:=[(0,"place")]) (j6 rfl (by decide +kernel) (by decide +kernel) (by decide +kernel) (by decide +kernel)) rfl rfl (qL (vZ (vZ qO))) (qN rfl B.zip_ (zB (zA 1) (zB (zA 2) zC))) (λ_ _ _ _=>(wK rfl (zw 0 (show (["number","part","place"]:List Str).Nodup by decide +kernel) rfl (Or.inl rfl) (zw 1 (show (["number","part","place"]:List Str).Nodup by decide +kernel) rfl (Or.inl rfl) wJ)))) (λ_ _ _ _=>(xE (zA 0) (zV (zA 1) (zA 2) (λ_ _=>rfl))))) zC)))))),λds R h=>?_⟩
 obtain ⟨d,e,ns,ls,w,rfl,h,k,lw,ln,bn,bl,q⟩:=h
 refine ⟨by omega,by omega,?_⟩
 rw [show ((w:Nat):Int).toNat=w by omega]
 refine zl.rng0 (λj=>.int (zS ns ls j)) (by omega) (λj hj=>?_) (by unfold L at q; rw [List.map_map] at q; exact q)
 refine h.zipT k λu hu=>xc (λq=>xb (.int q.1) (u q.2)) v2 (YQ hu) (λq=>.int (q.1 * q.2.getD j 0)) (by rw [List.length_zip]; omega) (λq hq=>?_) ⟨(ns.zip ls).map λq=>q.1 * q.2.getD j 0,by rw [List.map_map]; rfl,rfl⟩
 have hb:=bl q.2 (List.of_mem_zip hq).2
 rcases hu with rfl | rfl
 all_goals exact ⟨_,wZ (j:=j) (by omega) (by omega),(bn _ (List.of_mem_zip hq).1).mono,(jH hb.2 j).mono,rfl⟩
theorem zMI {k:Nat} {f:Addr} {fd:FuncData} (F:zj K "is_row" "is_row" WC f fd) (B:Bl mg) (al:Fn P w K mg base "is_whole" ["thing"] k (zJ (qV))):zG P w K mg base zY (k + 1) f fd ["value","many"] (zJ (YN)):=by
 refine zx F zLi (λds R h=>by obtain ⟨d,n,k,rfl,_⟩:=h; rfl) λcdv A outer s H E hr=>⟨_,(zP (zX (wX (yO (xi wo rfl B.isinstance_ xo (zi (zA 0) (zi (wj (v:=.ty "tuple") (u:=.type "tuple") rfl B.tuple_ vI rfl) yE))) (wx Z9)) (wX (uM hr.units (zy yf yo rfl B.len_ yh (zB (zA 0) zC)) (zr (zA 1) zF)) (vk (zy (vP rfl) vX rfl B.all_ vQ (zB (yI (own:=["number"]) (caps:=[]) (yB (S:=zK WC) (N:=["value","many"]) rfl (by decide +kernel) rfl ⟨0,rfl⟩ rfl (by decide +kernel) (by decide +kernel)) rfl rfl yD (yP (zA 0)) (λ_ _ _ _=>(zq 0 (show (["number"]:List Str).Nodup by decide +kernel) rfl (Or.inl rfl))) (λ_ _ _ _=>(zQ al hr rfl (zB (zA 0) zC)))) zC))))))),λds R h=>?_⟩
 obtain ⟨d,n,k,rfl,f,q⟩:=h
 refine ⟨f.no,λc=>?_,λc=>bR q ?_⟩
 ·obtain ⟨es,rfl,le,j,rfl,hj⟩:=f.tup_inv c
  refine ⟨λc2=>?_,λc2=>bR q ?_⟩
  ·refine zl.bool jE (by omega) (λd m=>⟨d,rfl,(hj d m).no,rfl⟩) ⟨_,rfl,bR q ?_⟩
   show (decide _ && _)=_
   rw [c2,v9]
   rfl
  ·show (decide _ && _)=_
   rw [c2]
   rfl
 ·cases d <;> first | rfl | cases c
theorem zKv {k:Nat} {f:Addr} {fd:FuncData} (F:zj K "is_room" "is_room" WD f fd) (B:Bl mg) (aW:Fn P w K mg base "is_row" ["value","many"] k (zJ (YN))):zG P w K mg base zY (k + 1) f fd ["value","many"] (zJ (X5)):=by
 refine zx F zKg (λds R h=>by obtain ⟨d,n,k,rfl,_⟩:=h; rfl) λcdv A outer s H E hr=>⟨_,(zP (zX (wX (yO (xi wo rfl B.isinstance_ xo (zi (zA 0) (zi (wj (v:=.ty "list") (u:=.type "list") rfl B.list_ xq rfl) yE))) (wx jC)) (vk (zy (vP rfl) vX rfl B.all_ vQ (zB (yI (own:=["row"]) (caps:=[(1,"many")]) (yB (S:=zK WD) (N:=["value","many"]) rfl (by decide +kernel) rfl ⟨_,rfl⟩ rfl (by decide +kernel) (by decide +kernel)) rfl rfl yD (yP (zA 0)) (λ_ _ _ _=>(zq 0 (show (["row","many"]:List Str).Nodup by decide +kernel) rfl (Or.inl rfl))) (λ_ _ _ _=>(zQ aW hr rfl (zB (zA 0) (zB (zA 1) zC))))) zC)))))),λds R h=>?_⟩
 obtain ⟨d,n,k,rfl,f,q⟩:=h
 refine ⟨f.no,λc=>?_,λc=>bR q ?_⟩
 ·obtain ⟨es,rfl,le,j,rfl,hj⟩:=f.lst_inv c
  refine zl.bool (jF n) (by omega) (λd m=>⟨d,n,j,rfl,hj d m,rfl⟩) ⟨_,rfl,bR q ?_⟩
  rw [v9]
  rfl
 ·cases d <;> first | rfl | cases c
theorem zL8 {k:Nat} {f:Addr} {fd:FuncData} (F:zj K "single" "single" Ja f fd) (B:Bl mg) (aK:vh P w K mg base "unit" ["place","wide","number"] k (zJ (JX)) (.int 1)):zG P w K mg base zY (k + 1) f fd ["place","many","number","bound"] (zJ (zMd)):=by
 refine zx F zLe (λds R h=>by obtain ⟨p,w,n,b,rfl,_⟩:=h; rfl) λcdv A outer s H E hr=>⟨_,(zP (zX (zr (xV uX ud rfl B.tuple_ vI (zB (zQ aK.fn hr rfl (zB (zA 0) (zB (zA 1) (zB (zA 2) zC)))) zC)) (x8 (zB (zA 3) zC))))),λds R h=>?_⟩
 obtain ⟨p,w,n,b,rfl,w0,w1,q⟩:=h
 refine ⟨p,w,n,rfl,w0,w1,k0,by rw [List.length_map,u6]; show _ + 1<=1000; omega,?_⟩
 unfold U at q
 rw [List.map_append] at q
 exact q
end
abbrev zOu:List Str:=["rows","nexts","steer","push","add","divisor"]
abbrev zPH:List Str:=["many","kept_pushes","kept_modes"]
abbrev wM (C:Addr) (m:MD):D:=.obj C zOu [Rm m.rows,Tb m.nexts,L m.steer,Tb m.push,L m.add,.int m.div]
abbrev yN (b:Int × Int):D:=.tup [.int b.1,.int b.2]
abbrev x9 (C CM:Addr) (n:Nat) (bs:List (Int × Int)) (ms:List MD):D:=.obj C zPH [.int (n:Int),.lst (bs.map yN),.lst (ms.map (wM CM))]
theorem vb {k:Nat} {ns:List Int} (h:ns.length<=900):Fw (k + 2) (L ns):=.lst (by rw [List.length_map]; exact h) zMZ
theorem Jb {k:Nat} {ns:List Int} (h:ns.length<=900):Fw (k + 2) (U ns):=.tup (by rw [List.length_map]; exact h) zMZ
theorem jh {k:Nat} {t:List (List Int)} (h:t.length<=900) (h2:∀ r∈t,r.length<=900):Fw (k + 3) (Tb t):=.lst (by rw [List.length_map]; exact h) λd m=>by
 obtain ⟨r,hr,rfl⟩:=List.mem_map.mp m
 exact vb (h2 r hr)
theorem qY {k:Nat} {t:List (List Int)} (h:t.length<=900) (h2:∀ r∈t,r.length<=900):Fw (k + 3) (Rm t):=.lst (by rw [List.length_map]; exact h) λd m=>by
 obtain ⟨r,hr,rfl⟩:=List.mem_map.mp m
 exact Jb (h2 r hr)
theorem zIm (ns:List Int):(ns.map D.int).all jE=true:=List.all_eq_true.mpr λd m=>by
 obtain ⟨i,_,rfl⟩:=List.mem_map.mp m
 rfl
theorem Jc {n:Int} {ns:List Int} (h:(ns.length:Int)=n):X4 n (L ns)=true:=by
 show (decide _ && _)=true
 rw [List.length_map,decide_eq_true h,zIm]
 rfl
theorem WE {h w:Int} {t:List (List Int)} (e:(t.length:Int)=h) (k:∀ r∈t,(r.length:Int)=w):YM h w (Tb t)=true:=by
 show (decide _ && _)=true
 rw [List.length_map,decide_eq_true e]
 exact List.all_eq_true.mpr λd m=>by
  obtain ⟨r,hr,rfl⟩:=List.mem_map.mp m
  exact Jc (k r hr)
theorem zQV {n:Int} {ns:List Int} (h:(ns.length:Int)=n + 1):jF n (U ns)=true:=by
 show (decide _ && _)=true
 rw [List.length_map,decide_eq_true h,zIm]
 rfl
theorem WF {n:Int} {t:List (List Int)} (k:∀ r∈t,(r.length:Int)=n + 1):zQW n (Rm t)=true:=List.all_eq_true.mpr λd m=>by
 obtain ⟨r,hr,rfl⟩:=List.mem_map.mp m
 exact zQV (k r hr)
def Jd (C:Addr):FL:=λds R=>∃ r n s p a d,ds=[r,n,s,p,a,d]/\Fw 5 r/\Fw 5 n/\Fw 5 s/\Fw 5 p/\Fw 5 a/\R (.obj C zOu [r,n,s,p,a,d])
def zMm:FL:=λds R=>∃ b:Int × Int,ds=[yN b]/\b.1<=b.2/\R (.bool true)
def zMn (C:Addr):FL:=λds R=>∃ (m:MD) (n p:Nat),ds=[wM C m,.int (n:Int),.int (p:Int)]/\xH m n p/\R (.bool true)
def zKC (C:Addr):FL:=λds R=>∃ (n:Nat) (bs:List (Int × Int)) (ms:List MD),ds=[.int (n:Int),.lst (bs.map yN),.lst (ms.map (wM C))]/\wp n bs ms/\R (.bool true)
def Je (C CM:Addr):FL:=λds R=>∃ (n:Nat) (bs:List (Int × Int)) (ms:List MD),ds=[.int (n:Int),.lst (bs.map yN),.lst (ms.map (wM CM))]/\wp n bs ms/\R (x9 C CM n bs ms)
def YT (C CM:Addr):FL:=λds R=>∃ n bs ms,ds=[x9 C CM n bs ms]/\R (.lst (bs.map yN))
def WG (C CM:Addr):FL:=λds R=>∃ n bs ms,ds=[x9 C CM n bs ms]/\R (.lst (ms.map (wM CM)))
def gY (ms:List MD):Bool:=ms.all λm=>m.steer.all λx=>decide (x=0)
def zGt (C:Addr):FL:=λds R=>∃ m,ds=[wM C m]/\m.steer.length<=900/\R (.bool (m.steer.all λx=>decide (x=0)))
def zMp (C CM:Addr):FL:=λds R=>∃ n bs ms,ds=[x9 C CM n bs ms]/\wp n bs ms/\R (.bool (gY ms))
def zGu (C CM:Addr):FL:=λds R=>∃ n bs ms,ds=[x9 C CM n bs ms]/\wp n bs ms/\gY ms=true/\R .non
theorem zRk {ns:List Int} {G:D->(D->Prop)->Prop} {R:D->Prop} (g:Int->Bool) (few:ns.length<=1000) (h:∀ n,n∈ns->G (.int n) λe=>e=.bool (g n)) (q:R (.lst ((ns.map g).map D.bool))):zl (ns.map D.int) G R:=
 xc D.int zz (λ_=>rfl) (λn=>.bool (g n)) few h (by rw [List.map_map] at q; exact q)
def xM (d:D):MD:=match d with
 | .obj _ _ [.lst r,.lst n,s,.lst p,a,d]=>⟨r.map zg,n.map zg,zg s,p.map zg,zg a,zz d⟩
 | _=>⟨[],[],[],[],[],0⟩
theorem zOe (t:List (List Int)):(t.map L).map zg=t:=by
 rw [List.map_map,show (zg ∘ L)=id from funext λr=>uQ r]
 exact List.map_id _
theorem zQD (t:List (List Int)):(t.map U).map zg=t:=by
 rw [List.map_map,show (zg ∘ U)=id from funext λr=>jG r]
 exact List.map_id _
theorem WH (C:Addr) (m:MD):xM (wM C m)=m:=by
 show MD.mk ((m.rows.map U).map zg) ((m.nexts.map L).map zg) (zg (L m.steer)) ((m.push.map L).map zg) (zg (L m.add)) m.div=m
 rw [zQD,zOe,zOe,uQ,uQ]
def YU (d:D):Int × Int:=match d with
 | .tup [x,y]=>(zz x,zz y)
 | _=>(0,0)
theorem Fw.mono0 {j:Nat} {a:D} (h:Fw j a):∀ {k:Nat},j<=k->Fw k a:=by
 induction h with
 | lst l _ ih=>
  intro k hk
  obtain ⟨m,rfl⟩:∃ m,k=m + 1:=⟨k - 1,by omega⟩
  exact .lst l λa ha=>ih a ha (by omega)
 | tup l _ ih=>
  intro k hk
  obtain ⟨m,rfl⟩:∃ m,k=m + 1:=⟨k - 1,by omega⟩
  exact .tup l λa ha=>ih a ha (by omega)
 | int i=>intro k hk; obtain ⟨m,rfl⟩:∃ m,k=m + 1:=⟨k - 1,by omega⟩; exact .int i
 | bool i=>intro k hk; obtain ⟨m,rfl⟩:∃ m,k=m + 1:=⟨k - 1,by omega⟩; exact .bool i
 | non=>intro k hk; obtain ⟨m,rfl⟩:∃ m,k=m + 1:=⟨k - 1,by omega⟩; exact .non
 | str i=>intro k hk; obtain ⟨m,rfl⟩:∃ m,k=m + 1:=⟨k - 1,by omega⟩; exact .str i
structure MBd (m:MD):Prop where
 nexts:∀ r∈m.nexts,∀ x∈r,Bd 9000 x
 push:∀ r∈m.push,∀ x∈r,Bd 9000 x
 add:∀ x∈m.add,Bd 9000 x
 div:Bd 9000 m.div
theorem Fw.mono {j k:Nat} {a:D} (h:Fw j a) (l:j<=k:=by decide):Fw k a:=h.mono0 l
section
variable {P:Program} {w:World} {K:PySem.W.Frag} {mg:Str->Option Value} {base:Heap}
abbrev Jf:Stmt:=j2 (zp 27) 0
theorem zFU:zh ["self","rows","nexts","steer","push","add","divisor"] ["self","rows","nexts","steer","push","add","divisor"] (zK Jf):=.a
abbrev Jg:Stmt:=zp 30
theorem zKh:zh ["value"] ["value"] (zK Jg):=.a
abbrev Jh:Stmt:=zp 31
theorem zKi:zh ["value","many","wide"] ["value","many","wide"] (zK Jh):=.a
abbrev YV:Stmt:=zp 29
theorem zIw:zh ["many","pushes","modes"] ["many","pushes","modes"] (zK YV):=.a
abbrev Ji:Stmt:=j2 (zp 28) 0
theorem zEs:zh ["self","many","pushes","modes"] ["self","many","pushes","modes"] (zK Ji):=.a
abbrev Jj:Stmt:=j2 (zp 28) 1
theorem zFw:zh ["self"] ["self"] (zK Jj):=.a
abbrev Jk:Stmt:=j2 (zp 28) 2
theorem zGd:zh ["self"] ["self"] (zK Jk):=.a
abbrev WI:Stmt:=zp 32
theorem zFu:zh ["mode"] ["mode"] (zK WI):=.a
abbrev WJ:Stmt:=j2 (zp 28) 3
theorem zEV:zh ["self"] ["self"] (zK WJ):=.a
abbrev Jl:Stmt:=zp 33
theorem zHF:zh ["thing"] ["thing"] (zK Jl):=.a
variable {ag ah aClaim aSettles aComes aPaper aRooms aFalls:Addr} (aa:zE K mg "Mode" ag) (ab:wz K ag) (ac:zE K mg "Thing" ah) (ae:w4 K ah) (TClaim:zE K mg "Claim" aClaim) (AClaim:w6 K aClaim) (TSettles:zE K mg "Settles" aSettles) (ASettles:w8 K aSettles) (TComes:zE K mg "Comes" aComes) (AComes:vA K aComes) (TPaper:zE K mg "Paper" aPaper) (APaper:vB K aPaper) (TRooms:zE K mg "Rooms" aRooms) (ARooms:vC K aRooms) (TFalls:zE K mg "Falls" aFalls) (AFalls:vD K aFalls)
include aa ab ac ae TClaim AClaim TSettles ASettles TComes AComes TPaper APaper TRooms ARooms TFalls AFalls
theorem zFa {k:Nat} {f:Addr} {fd:FuncData} (F:zj K "__init__" "Mode.__init__" Jf f fd) (B:Bl mg) (ak:vh P w K mg base "copied" ["value","depth"] k (zJ (qX 6)) (.int 5)):zG P w K mg base zY (k + 1) f fd ["self","rows","nexts","steer","push","add","divisor"] (wf ag (Jd ag)):=by
 refine JO F zFU (λds R h=>by obtain ⟨r,n,s,p,a,d,rfl,_⟩:=h; rfl) λcdv A outer s H E hr=>⟨_,(zL (yM (wl (yi 0) (uP (.int 5) (λ_=>.int 5) ak hr rfl (zB (zA 1) zC)) rfl) wy)
  (zL (yM (wl (yi 0) (uP (.int 5) (λ_=>.int 5) ak hr rfl (zB (zA 2) zC)) rfl) wy)
  (zL (yM (wl (yi 0) (uP (.int 5) (λ_=>.int 5) ak hr rfl (zB (zA 3) zC)) rfl) wy)
  (zL (yM (wl (yi 0) (uP (.int 5) (λ_=>.int 5) ak hr rfl (zB (zA 4) zC)) rfl) wy)
  (zL (yM (wl (yi 0) (uP (.int 5) (λ_=>.int 5) ak hr rfl (zB (zA 5) zC)) rfl) wy)
  (zP (yM (wl (yi 0) (zA 6) rfl) wy))))))),λo ds R h=>?_⟩
 obtain ⟨r,n,s,p,a,d,rfl,f1,f2,f3,f4,f5,q⟩:=h
 refine ⟨r,5,rfl,f1.mono,⟨aa.cl,ab.n_rows⟩,by decide +kernel,by decide,rfl,?_⟩
 refine ⟨n,5,rfl,f2.mono,⟨aa.cl,ab.n_nexts⟩,by decide +kernel,by decide,rfl,?_⟩
 refine ⟨s,5,rfl,f3.mono,⟨aa.cl,ab.n_steer⟩,by decide +kernel,by decide,rfl,?_⟩
 refine ⟨p,5,rfl,f4.mono,⟨aa.cl,ab.n_push⟩,by decide +kernel,by decide,rfl,?_⟩
 refine ⟨a,5,rfl,f5.mono,⟨aa.cl,ab.n_add⟩,by decide +kernel,by decide,rfl,?_⟩
 exact ⟨⟨aa.cl,ab.n_divisor⟩,by decide +kernel,by decide,rfl,rfl,q⟩
theorem zKw {k:Nat} {f:Addr} {fd:FuncData} (F:zj K "is_push" "is_push" Jg f fd) (B:Bl mg) (al:Fn P w K mg base "is_whole" ["thing"] k (zJ (qV))):zG P w K mg base zY (k + 1) f fd ["value"] (zJ (zMm)):=by
 refine zx F zKh (λds R h=>by obtain ⟨b,rfl,_⟩:=h; rfl) λcdv A outer s H E hr=>⟨_,(zL (yR (PW.pt (wI (xF (yc (yO (xi wo rfl B.isinstance_ xo (zi (zA 0) (zi (wj (v:=.ty "tuple") (u:=.type "tuple") rfl B.tuple_ vI rfl) yE))) (wx Z9)))) (we (Xm hr.units (zy yf yo rfl B.len_ yh (zB (zA 0) zC)) zF)))) (zP (zX xk)) yQ)
  (zP (zX (wX (zQ al hr rfl (zB (zV (zA 0) zF (λ_ _=>rfl)) zC)) (wX (zQ al hr rfl (zB (zV (zA 0) zF (λ_ _=>rfl)) zC)) (vk (zQe (zV (zA 0) zF (λ_ _=>rfl)) (zV (zA 0) zF (λ_ _=>rfl))))))))),λds R h=>?_⟩
 obtain ⟨b,rfl,h,q⟩:=h
 refine ⟨rfl,wF rfl (wF rfl ?_)⟩
 refine ⟨_,rfl,_,rfl,rfl,wT rfl ?_⟩
 refine ⟨_,rfl,_,rfl,rfl,wT rfl ?_⟩
 exact ⟨_,rfl,_,rfl,bR q (decide_eq_true h).symm⟩
theorem zKx {k:Nat} {f:Addr} {fd:FuncData} (F:zj K "is_mode" "is_mode" Jh f fd) (B:Bl mg) (aA:Fn P w K mg base "is_room" ["value","many"] k (zJ (X5))) (aD:Fn P w K mg base "is_table" ["value","tall","wide"] k (zJ (qW))) (aI:Fn P w K mg base "is_numbers" ["value","count"] k (zJ (JW))) (al:Fn P w K mg base "is_whole" ["thing"] k (zJ (qV))):zG P w K mg base zY (k + 1) f fd ["value","many","wide"] (zJ (zMn ag)):=by
 refine zx F zKi (λds R h=>by obtain ⟨m,n,p,rfl,_⟩:=h; rfl) λcdv A outer s H E hr=>⟨_,(zL (yR (PW.pt (wI (xF (yc (yO (xi ZI rfl B.isinstance_ xo (zi (zA 0) (zi (ZH aa rfl) yE))) YD))) (we (xF (yc (zQ aA hr rfl (zB (yA K (zA 0) rfl) (zB (zA 1) zC)))))))) (zP (zX xk)) yQ)
  (zL (yR (PW.pt (wI (xF (yc (zQ aD hr rfl (zB (yA K (zA 0) rfl) (zB (zA 1) (zB (zA 1) zC)))))) (we (xF (yc (zQ aD hr rfl (zB (yA K (zA 0) rfl) (zB (zA 1) (zB (zA 2) zC))))))))) (zP (zX xk)) yQ)
  (zL (yR (PW.pt (wI (xF (yc (zQ aI hr rfl (zB (yA K (zA 0) rfl) (zB (zA 1) zC))))) (we (xF (yc (zQ aI hr rfl (zB (yA K (zA 0) rfl) (zB (zA 1) zC)))))))) (zP (zX xk)) yQ)
  (zP (zX (wX (zQ al hr rfl (zB (yA K (zA 0) rfl) zC)) (vk (zQg (yA K (zA 0) rfl) zF)))))))),λds R h=>?_⟩
 obtain ⟨m,n,p,rfl,h,q⟩:=h
 have n3:=h.n3
 have p6:=h.p6
 refine ⟨⟨_,_,aa⟩,_,Uh,wF rfl ?_⟩
 refine ⟨⟨aa.cl,ab.n_rows⟩,_,rfl,_,_,3,rfl,qY h.few (λr hr=>by rw [h.rows r hr]; omega),wF (by rw [WF λr hr=>by rw [h.rows r hr]; rfl]; rfl) ?_⟩
 refine ⟨⟨aa.cl,ab.n_nexts⟩,_,rfl,_,_,_,3,rfl,jh (by rw [h.nexts.1]; omega) (λr hr=>by rw [h.nexts.2 r hr]; omega),wF (by rw [WE (by rw [h.nexts.1]) (λr hr=>by rw [h.nexts.2 r hr])]; rfl) ?_⟩
 refine ⟨⟨aa.cl,ab.n_push⟩,_,rfl,_,_,_,3,rfl,jh (by rw [h.push.1]; omega) (λr hr=>by rw [h.push.2 r hr]; omega),wF (by rw [WE (by rw [h.push.1]) (λr hr=>by rw [h.push.2 r hr])]; rfl) ?_⟩
 refine ⟨⟨aa.cl,ab.n_steer⟩,_,rfl,_,_,2,rfl,vb (by rw [h.steer]; omega),wF (by rw [Jc (by rw [h.steer])]; rfl) ?_⟩
 refine ⟨⟨aa.cl,ab.n_add⟩,_,rfl,_,_,2,rfl,vb (by rw [h.add]; omega),wF (by rw [Jc (by rw [h.add])]; rfl) ?_⟩
 refine ⟨⟨aa.cl,ab.n_divisor⟩,_,rfl,_,rfl,rfl,wT rfl ?_⟩
 exact ⟨⟨aa.cl,ab.n_divisor⟩,_,rfl,bR q (decide_eq_true h.div).symm⟩
theorem zJB {k:Nat} {f:Addr} {fd:FuncData} (F:zj K "is_sound" "is_sound" YV f fd) (B:Bl mg) (al:Fn P w K mg base "is_whole" ["thing"] k (zJ (qV))) (aX:Fn P w K mg base "is_push" ["value"] k (zJ (zMm))) (aY:Fn P w K mg base "is_mode" ["value","many","wide"] k (zJ (zMn ag))):zG P w K mg base zY (k + 1) f fd ["many","pushes","modes"] (zJ (zKC ag)):=by
 refine zx F zIw (λds R h=>by obtain ⟨n,bs,ms,rfl,_⟩:=h; rfl) λcdv A outer s H E hr=>⟨_,(zL (yR (PW.pt (wI (xF (yc (zQ al hr rfl (zB (zA 0) zC)))) (wI (Uz (zA 0) zF) (we (Ze (zA 0) (Uu rfl B.MOST_NUMBERS_)))))) (zP (zX xk)) yQ)
  (zL (yR (PW.pt (wI (xF (yc (yO (xi wo rfl B.isinstance_ xo (zi (zA 1) (zi (wj (v:=.ty "list") (u:=.type "list") rfl B.list_ xq rfl) yE))) (wx jC)))) (we (xF (yc (zy (vP rfl) vX rfl B.all_ vQ (zB (yI (own:=["push"]) (caps:=[]) (yB (S:=zK YV) (N:=["many","pushes","modes"]) rfl (by decide +kernel) rfl ⟨_,rfl⟩ rfl (by decide +kernel) (by decide +kernel)) rfl rfl yD (yP (zA 1)) (λ_ _ _ _=>(zq 0 (show (["push"]:List Str).Nodup by decide +kernel) rfl (Or.inl rfl))) (λ_ _ _ _=>(zQ aX hr rfl (zB (zA 0) zC)))) zC))))))) (zP (zX xk)) yQ)
  (zL (yR (PW.pt (wI (xF (yc (yO (xi wo rfl B.isinstance_ xo (zi (zA 2) (zi (wj (v:=.ty "list") (u:=.type "list") rfl B.list_ xq rfl) yE))) (wx jC)))) (we (vj hr.units (zy yf yo rfl B.len_ yh (zB (zA 2) zC)) zF)))) (zP (zX xk)) yQ)
  (zP (zX (zy (vP rfl) vX rfl B.all_ vQ (zB (yI (own:=["mode"]) (caps:=[(0,"many"),(1,"pushes")]) (yB (S:=zK YV) (N:=["many","pushes","modes"]) rfl (by decide +kernel) rfl ⟨_,rfl⟩ rfl (by decide +kernel) (by decide +kernel)) rfl rfl yD (yP (zA 2)) (λ_ _ _ _=>(zq 0 (show (["mode","many","pushes"]:List Str).Nodup by decide +kernel) rfl (Or.inl rfl))) (λ_ _ _ _=>(zQ aY hr rfl (zB (zA 0) (zB (zA 1) (zB (zy yf yo rfl B.len_ yh (zB (zA 2) zC)) zC)))))) zC))))))),λds R h=>?_⟩
 obtain ⟨n,bs,ms,rfl,h,q⟩:=h
 have n1:=h.n1
 have n3:=h.n3
 have m40:=h.m40
 have m1:=h.m1
 have b6:=h.b6
 refine ⟨_,rfl,rfl,wF rfl (wF (decide_eq_false (by omega)) (wF (decide_eq_false (by omega)) ?_))⟩
 refine ⟨rfl,wF rfl ?_⟩
 refine xc yN YU (λ_=>rfl) (λ_=>.bool true) (by omega) (λb hb=>⟨b,rfl,h.bok b hb,rfl⟩) ⟨bs.map λ_=>true,by rw [List.map_map]; rfl,?_⟩
 rw [show (bs.map λ_=>true).all id=true from List.all_eq_true.mpr λx hx=>by obtain ⟨_,_,rfl⟩:=List.mem_map.mp hx; rfl]
 refine wF rfl ?_
 refine ⟨rfl,wF rfl (wF (decide_eq_false (by rw [List.length_map]; omega)) ?_)⟩
 refine xc (wM ag) xM (WH _) (λ_=>.bool true) (by omega) (λm hm=>⟨m,n,bs.length,by rw [List.length_map],h.mok m hm,rfl⟩) ⟨ms.map λ_=>true,by rw [List.map_map]; rfl,bR q ?_⟩
 exact (List.all_eq_true.mpr λx hx=>by obtain ⟨_,_,rfl⟩:=List.mem_map.mp hx; rfl).symm
theorem zE3 {k:Nat} {f:Addr} {fd:FuncData} (F:zj K "__init__" "Thing.__init__" Ji f fd) (B:Bl mg) (aZ:Fn P w K mg base "is_sound" ["many","pushes","modes"] k (zJ (zKC ag))):zG P w K mg base zY (k + 1) f fd ["self","many","pushes","modes"] (wf ah (Je ah ag)):=by
 refine JO F zEs (λds R h=>by obtain ⟨n,bs,ms,rfl,_⟩:=h; rfl) λcdv A outer s H E hr=>⟨_,(zL (yR (xF (yc (zQ aZ hr rfl (zB (zA 1) (zB (zA 2) (zB (zA 3) zC)))))) (zP Xy) yQ)
  (zL (yR (PW.pt (wI (Ze (zy yf yo rfl B.len_ yh (zB (zA 2) zC)) (Uu rfl B.MOST_PUSHES_)) (we (Ze (zy yf yo rfl B.len_ yh (zB (zA 3) zC)) (Uu rfl B.MOST_MODES_))))) (zP Xy) yQ)
  (zL (yM (wl (yi 0) (zA 1) rfl) wy)
  (zL (yM (wl (yi 0) (xV v4 v6 rfl B.list_ xq (zB (zA 2) zC)) rfl) wy)
  (zP (yM (wl (yi 0) (xV v4 v6 rfl B.list_ xq (zB (zA 3) zC)) rfl) wy)))))),λo ds R h=>?_⟩
 obtain ⟨n,bs,ms,rfl,h,q⟩:=h
 have m40:=h.m40
 have b6:=h.b6
 refine ⟨n,bs,ms,rfl,h,wF rfl ?_⟩
 refine wF (decide_eq_false (by rw [List.length_map]; omega)) (wF (decide_eq_false (by rw [List.length_map]; omega)) ?_)
 refine ⟨⟨ac.cl,ae.n_many⟩,by decide +kernel,by decide,rfl,?_⟩
 refine ⟨⟨ac.cl,ae.n_kept_pushes⟩,by decide +kernel,by decide,rfl,?_⟩
 exact ⟨⟨ac.cl,ae.n_kept_modes⟩,by decide +kernel,by decide,rfl,rfl,q⟩
theorem zGD {k:Nat} {f:Addr} {fd:FuncData} (F:zj K "pushes" "Thing.pushes" Jj f fd) (B:Bl mg):zG P w K mg base zY (k + 1) f fd ["self"] (zJ (YT ah ag)):=by
 refine zx F zFw (λds R h=>by obtain ⟨n,bs,ms,rfl,_⟩:=h; rfl) λcdv A outer s H E hr=>⟨_,(zP (zX (xV v4 v6 rfl B.list_ xq (zB (yA K (zA 0) rfl) zC)))),λds R h=>?_⟩
 obtain ⟨n,bs,ms,rfl,q⟩:=h
 exact ⟨⟨ac.cl,ae.n_kept_pushes⟩,_,rfl,q⟩
theorem zGh {k:Nat} {f:Addr} {fd:FuncData} (F:zj K "modes" "Thing.modes" Jk f fd) (B:Bl mg):zG P w K mg base zY (k + 1) f fd ["self"] (zJ (WG ah ag)):=by
 refine zx F zGd (λds R h=>by obtain ⟨n,bs,ms,rfl,_⟩:=h; rfl) λcdv A outer s H E hr=>⟨_,(zP (zX (xV v4 v6 rfl B.list_ xq (zB (yA K (zA 0) rfl) zC)))),λds R h=>?_⟩
 obtain ⟨n,bs,ms,rfl,q⟩:=h
 exact ⟨⟨ac.cl,ae.n_kept_modes⟩,_,rfl,q⟩
theorem zGB {k:Nat} {f:Addr} {fd:FuncData} (F:zj K "is_unsteered" "is_unsteered" WI f fd) (B:Bl mg):zG P w K mg base zY (k + 1) f fd ["mode"] (zJ (zGt ag)):=by
 refine zx F zFu (λds R h=>by obtain ⟨m,rfl,_⟩:=h; rfl) λcdv A outer s H E hr=>⟨_,(zP (zX (zy (vP rfl) vX rfl B.all_ vQ (zB (yI (own:=["number"]) (caps:=[]) (yB (S:=zK WI) (N:=["mode"]) rfl (by decide +kernel) rfl ⟨0,rfl⟩ rfl (by decide +kernel) (by decide +kernel)) rfl rfl yD (yP (yA K (zA 0) rfl)) (λ_ _ _ _=>(zq 0 (show (["number"]:List Str).Nodup by decide +kernel) rfl (Or.inl rfl))) (λ_ _ _ _=>(uM hr.units (zA 0) zF))) zC)))),λds R h=>?_⟩
 obtain ⟨m,rfl,h,q⟩:=h
 refine ⟨⟨aa.cl,ab.n_steer⟩,_,rfl,?_⟩
 refine zRk (λx=>decide (x=0)) (by omega) (λn hn=>rfl) ⟨_,rfl,bR q ?_⟩
 rw [v9]
theorem zEi {k:Nat} {f:Addr} {fd:FuncData} (F:zj K "is_closed" "Thing.is_closed" WJ f fd) (B:Bl mg) (bc:Fn P w K mg base "is_unsteered" ["mode"] k (zJ (zGt ag))):zG P w K mg base zY (k + 1) f fd ["self"] (zJ (zMp ah ag)):=by
 refine zx F zEV (λds R h=>by obtain ⟨n,bs,ms,rfl,_⟩:=h; rfl) λcdv A outer s H E hr=>⟨_,(zP (zX (zy (vP rfl) vX rfl B.all_ vQ (zB (yI (own:=["mode"]) (caps:=[]) (yB (S:=zK WJ) (N:=["self"]) rfl (by decide +kernel) rfl ⟨0,rfl⟩ rfl (by decide +kernel) (by decide +kernel)) rfl rfl yD (yP (yA K (zA 0) rfl)) (λ_ _ _ _=>(zq 0 (show (["mode"]:List Str).Nodup by decide +kernel) rfl (Or.inl rfl))) (λ_ _ _ _=>(zQ bc hr rfl (zB (zA 0) zC)))) zC)))),λds R h=>?_⟩
 obtain ⟨n,bs,ms,rfl,h,q⟩:=h
 refine ⟨⟨ac.cl,ae.n_kept_modes⟩,_,rfl,?_⟩
 have m40:=h.m40
 refine xc (wM ag) xM (WH _) (λm=>.bool (m.steer.all λx=>decide (x=0))) (by omega) (λm hm=>⟨m,rfl,by have:=(h.mok m hm).steer; have:=h.n3; omega,rfl⟩) ⟨ms.map λm=>m.steer.all λx=>decide (x=0),by rw [List.map_map]; rfl,bR q ?_⟩
 rw [v9]
 rfl
theorem zHh {k:Nat} {f:Addr} {fd:FuncData} (F:zj K "ask_closed" "ask_closed" Jl f fd) (B:Bl mg) (be:vi P w K mg base ah "is_closed" ["self"] k (zJ (zMp ah ag))):zG P w K mg base zY (k + 1) f fd ["thing"] (zJ (zGu ah ag)):=by
 refine zx F zHF (λds R h=>by obtain ⟨n,bs,ms,rfl,_⟩:=h; rfl) λcdv A outer s H E hr=>⟨_,(zP (yR (xF (yc (jD be ac hr (zA 0)))) (zP Xy) yQ)),λds R h=>?_⟩
 obtain ⟨n,bs,ms,rfl,h,c,q⟩:=h
 exact ⟨rfl,by decide +kernel,n,bs,ms,rfl,h,wF (by rw [c]; rfl) q⟩
end
def vn (n p:Nat) (ws:List Int) (b:Int) (m:MD):List Int:=((List.range n).map (zS ws m.nexts)++(List.range p).map (zS ws m.push))++[m.div * b - zN ws m.add]
theorem Jm:∀ (rows:List (List Int)) (nums:List Int) (j:Nat),yz rows nums j=zS nums rows j
 | [],nums,j=>by unfold yz zS; simp
 | r :: rows,[],j=>by unfold yz zS; simp
 | r :: rows,x :: nums,j=>by rw [ZT,qB,Jm rows nums j,Int.mul_comm]
def uR:D->Bool
 | .int i=>decide (0<=i)
 | _=>false
def xZ (c:Nat):D->Bool
 | .tup [x,.lst ys]=>uR x && (decide (ys.length=c) && ys.all uR)
 | _=>false
def uo (rows:List (List Int)) (tw:List Int) (n:Nat):D->Bool
 | .tup [.int o,.lst ys]=>xZ rows.length (.tup [.int o,.lst ys]) && j8 rows tw o (ys.map zz) n
 | _=>false
def qZ (a:D):Prop:=∀ o ys,a=.tup [.int o,.lst ys]->Bd 1000 o/\∀ y∈ys,Bd 1000 (zz y)
structure vT (rows:List (List Int)) (n:Nat):Prop where
 row:∀ r∈rows,r.length=n + 1/\∀ x∈r,Bd 1000 x
 few:rows.length<=500
 nar:n<=100
theorem zGs:∀ {ys:List D},ys.all uR=true->∃ ns:List Int,ys=ns.map .int/\ys.map zz=ns/\∀ x∈ns,0<=x
 | [],_=>⟨[],rfl,rfl,λ_ h=>by cases h⟩
 | a :: ys,h=>by
  rw [List.all_cons,Bool.and_eq_true] at h
  obtain ⟨ns,rfl,e,h0⟩:=zGs h.2
  cases a with
  | int i=>exact ⟨i :: ns,rfl,by rw [List.map_cons,e]; rfl,λx hx=>(List.mem_cons.mp hx).elim (λz=>z ▸ of_decide_eq_true h.1) (h0 x)⟩
  | _=>cases h.1
theorem zNd {c:Nat} {a:D} (h:xZ c a=true):∃ (o:Int) (ns:List Int),a=.tup [.int o,L ns]/\0<=o/\ns.length=c/\∀ x∈ns,0<=x:=by
 unfold xZ at h
 split at h
 ·rename_i x ys
  rw [Bool.and_eq_true,Bool.and_eq_true,decide_eq_true_iff] at h
  obtain ⟨ns,rfl,_,h0⟩:=zGs h.2.2
  cases x with
  | int o=>exact ⟨o,ns,rfl,of_decide_eq_true h.1,by have:=h.2.1; rw [List.length_map] at this; exact this,h0⟩
  | _=>cases h.1
 ·cases h
theorem zNc {rows:List (List Int)} {tw:List Int} {n:Nat} {a:D} (h:xZ rows.length a=false):uo rows tw n a=false:=by
 unfold uo
 split
 ·rw [h]; rfl
 ·rfl
theorem zOA (ns:List Int):(ns.map D.int).map zz=ns:=by rw [List.map_map]; exact List.map_id _
theorem zLc {rows:List (List Int)} {tw ns:List Int} {n:Nat} {o:Int} (h:xZ rows.length (.tup [.int o,L ns])=true):uo rows tw n (.tup [.int o,L ns])=j8 rows tw o ns n:=by
 show (xZ rows.length (.tup [.int o,.lst (ns.map .int)]) && j8 rows tw o ((ns.map D.int).map zz) n)=_
 rw [show xZ rows.length (.tup [.int o,.lst (ns.map .int)])=true from h,zOA]
 rfl
def gZ (c:Int):D->Bool
 | .lst as=>decide ((as.length:Int)=c)
 | _=>false
def uf (rows tws:List (List Int)) (n:Nat):D->Bool
 | .lst as=>decide ((as.length:Int)=(tws.length:Int)) && (tws.zip as).all λp=>uo rows p.1 n p.2
 | _=>false
def xQ (a:D):Prop:=∀ as,a=.lst as->∀ x∈as,qZ x
theorem WK {c:Int} {a:D} (h:gZ c a=true):∃ as,a=.lst as/\(as.length:Int)=c:=by
 cases a with
 | lst as=>exact ⟨as,rfl,of_decide_eq_true h⟩
 | _=>cases h
theorem zOQ {rows tws:List (List Int)} {n:Nat} {a:D} (h:gZ (tws.length:Int) a=false):uf rows tws n a=false:=by
 cases a with
 | lst as=>show (decide _ && _)=false; rw [show decide ((as.length:Int)=(tws.length:Int))=false from h]; rfl
 | _=>rfl
theorem wg {e:Nat}:Bd e (0:Int):=by
 show (0:Int).natAbs < 2 ^ e
 exact Nat.two_pow_pos e
theorem Jn {e:Nat} {r:List Int} (h:∀ x∈r,Bd e x) (j:Nat):Bd e (r.getD j 0):=by
 rw [List.getD_eq_getElem?_getD]
 cases hj:r[j]? with
 | none=>exact wg
 | some x=>exact h x (List.mem_of_getElem? hj)
theorem YW {a b:Nat}:∀ {ns os:List Int},(∀ x∈ns,Bd a x)->(∀ x∈os,Bd b x)->Bd (a + b + ns.length + 1) (zN ns os)
 | [],_,_,_=>by unfold zN; exact wg
 | _ :: _,[],_,_=>by unfold zN; exact wg
 | n :: ns,o :: os,hn,ho=>by
  have i:=YW (a:=a) (b:=b) (ns:=ns) (os:=os) (λq m=>hn q (List.mem_cons_of_mem _ m)) (λq m=>ho q (List.mem_cons_of_mem _ m))
  rw [List.length_cons]
  show Bd _ (n * o + zN ns os)
  exact (((hn n List.mem_cons_self).mul (ho o List.mem_cons_self)).mono (show a + b<=a + b + ns.length + 1 by omega) |>.add i).mono (by omega)
theorem YX {a b j:Nat} {ns:List Int} {N:List (List Int)} (h:∀ x∈ns,Bd a x) (hN:∀ r∈N,∀ x∈r,Bd b x):Bd (a + b + ns.length + 1) (zS ns N j):=by
 rw [ja]
 refine YW h λx hx=>?_
 obtain ⟨r,hr,rfl⟩:=List.mem_map.mp hx
 exact Jn (hN r hr) j
structure MS (m:MD):Prop where
 nexts:∀ r∈m.nexts,∀ x∈r,Bd 300 x
 push:∀ r∈m.push,∀ x∈r,Bd 300 x
 add:∀ x∈m.add,Bd 300 x
 div:Bd 300 m.div
 rows:∀ r∈m.rows,∀ x∈r,Bd 300 x
 few:m.rows.length<=100
structure wN (room:List (List Int)) (n:Nat):Prop where
 row:∀ r∈room,r.length=n + 1/\∀ x∈r,Bd 300 x
 few:room.length<=100
theorem wN.rw {room:List (List Int)} {n:Nat} (h:wN room n) (n3:n<=3):vT room n:=⟨λr hr=>⟨(h.row r hr).1,λx hx=>((h.row r hr).2 x hx).mono⟩,by have:=h.few; omega,by omega⟩
theorem zM5 {e n:Nat} {pl nu:Int} (h:Bd e nu):∀ x∈yd pl n nu,Bd e x:=λx hx=>by
 obtain ⟨i,_,rfl⟩:=List.mem_map.mp hx
 show Bd e (if (i:Int)=pl then nu else 0)
 split
 ·exact h
 ·exact wg
theorem zNa {n:Nat} {bs:List (Int × Int)} {rows:List (List Int)} (h:∀ r∈rows,r.length=n + 1/\∀ x∈r,Bd 1000 x) (few:rows.length<=400) (n3:n<=3) (b6:bs.length<=6) (bb:∀ b∈bs,Bd 300 b.1/\Bd 300 b.2):vT (jZ n bs rows) (n + bs.length):=by
 have b1:Bd 4 (1:Int):=Bd.lit
 refine ⟨λr hr=>?_,?_,by omega⟩
 ·rcases List.mem_append.mp hr with hr | hr
  ·obtain ⟨q,hq,rfl⟩:=List.mem_map.mp hr
   obtain ⟨lq,bq⟩:=h q hq
   refine ⟨by unfold wH; simp; omega,λx hx=>?_⟩
   unfold wH at hx
   rcases List.mem_append.mp hx with hx | hx
   ·rcases List.mem_append.mp hx with hx | hx
    ·exact bq x (List.mem_of_mem_take hx)
    ·rw [List.eq_of_mem_replicate hx]; exact wg
   ·rw [List.mem_singleton.mp hx]; exact Jn bq n
  ·obtain ⟨l,hl,hr⟩:=List.mem_flatten.mp hr
   obtain ⟨i,hi,rfl⟩:=List.mem_mapIdx.mp hl
   have hb:=bb _ (List.getElem_mem hi)
   have key:∀ (y c:Int),Bd 1000 y->Bd 1000 c->(yd ((n + i:Nat):Int) (n + bs.length) y++[c]).length=n + bs.length + 1/\∀ x∈yd ((n + i:Nat):Int) (n + bs.length) y++[c],Bd 1000 x:=λy c hy hc=>⟨by rw [List.length_append,u6]; rfl,λx hx=>by
    rcases List.mem_append.mp hx with hx | hx
    ·exact zM5 hy x hx
    ·rw [List.mem_singleton.mp hx]; exact hc⟩
   rcases List.mem_cons.mp hr with rfl | hr
   ·exact key _ _ b1.mono (hb.2.mono)
   ·rw [List.mem_singleton.mp hr]
    exact key _ _ (b1.neg.mono) (hb.1.neg.mono)
 ·unfold jZ
  rw [List.length_append,List.length_map]
  have:((bs.mapIdx (v5 n bs.length)).flatten).length=2 * bs.length:=by
   rw [List.length_flatten]
   have e:(bs.mapIdx (v5 n bs.length)).map List.length=List.replicate bs.length 2:=by
    refine List.ext_getElem (by simp) λi h1 h2=>?_
    simp [v5]
   rw [e]
   simp
   omega
  omega
theorem zIG (n p:Nat) (ws:List Int) (b:Int) (m:MD):(vn n p ws b m).length=n + p + 1:=by unfold vn; simp; omega
theorem zNk {n p:Nat} {ws:List Int} {b:Int} {m:MD} (h:MS m) (lw:ws.length<=3) (bw:∀ x∈ws,Bd 301 x) (bb:Bd 301 b):∀ x∈vn n p ws b m,Bd 700 x:=λx hx=>by
 unfold vn at hx
 rcases List.mem_append.mp hx with hx | hx
 ·rcases List.mem_append.mp hx with hx | hx <;> obtain ⟨j,_,rfl⟩:=List.mem_map.mp hx
  ·exact (YX bw h.nexts).mono (by omega)
  ·exact (YX bw h.push).mono (by omega)
 ·rw [List.mem_singleton.mp hx]
  exact (((h.div.mul bb).mono (show 300 + 301<=650 by decide)).sub ((YW bw h.add).mono (show 301 + 300 + ws.length + 1<=650 by omega))).mono
def qc (n p:Nat) (m:MD) (behind:List (List Int)):List (List Int):=behind.map λr=>vn n p (r.take n) (r.getD n 0) m
def ga (n:Nat) (bs:List (Int × Int)) (room behind:List (List Int)) (m:MD) (a:D):Bool:=uf (jZ n bs (room++m.rows)) (qc n bs.length m behind) (n + bs.length) a
def qd (n:Nat) (bs:List (Int × Int)) (ms:List MD) (room behind:List (List Int)):D->Bool
 | .lst as=>decide ((as.length:Int)=(ms.length:Int)) && (ms.zip as).all λp=>ga n bs room behind p.1 p.2
 | _=>false
structure gb (n:Nat) (bs:List (Int × Int)) (ms:List MD):Prop where
 ok:wp n bs ms
 ms:∀ m∈ms,MS m
 bs:∀ b∈bs,Bd 300 b.1/\Bd 300 b.2
theorem zMU {n:Nat} {bs:List (Int × Int)} {ms:List MD} {room behind:List (List Int)} {a:D} (h:gZ (ms.length:Int) a=false):qd n bs ms room behind a=false:=by
 cases a with
 | lst as=>show (decide _ && _)=false; rw [show decide ((as.length:Int)=(ms.length:Int))=false from h]; rfl
 | _=>rfl
def xR (a:D):Prop:=∀ as,a=.lst as->∀ x∈as,xQ x
theorem vo {r:List Int} {n:Nat} (h:r.length=n + 1):zf (r.map D.int) none (some (-1))=(r.take n).map D.int:=by
 have e1:HT.sIx (r.map D.int).length 0 none=0:=HT.sIx_none _ _
 have e2:HT.sIx (r.map D.int).length (r.map D.int).length (some (-1))=n:=by
  rw [List.length_map,h]
  show (if (-1:Int) < 0 then ((-1:Int) + ((n + 1:Nat):Int)).toNat else min (-1:Int).toNat (n + 1))=n
  rw [if_pos (by decide)]
  omega
 unfold zf
 rw [e1,e2,List.drop_zero,Nat.sub_zero,List.map_take]
theorem Jo (ws:List Int) (b:Int):zf ((ws++[b]).map D.int) none (some (-1))=ws.map D.int:=by
 rw [vo (n:=ws.length) (by rw [List.length_append]; rfl),List.take_append_of_le_length (Nat.le_refl _),List.take_of_length_le (Nat.le_refl _)]
theorem qe {r:List Int} {n:Nat} (h:r.length=n + 1):yL (r.map D.int) (-1)=some (.int (r.getD n 0)):=by
 rw [uk]
 unfold yL wG
 rw [if_neg (by decide),if_pos (by omega)]
 show Option.map D.int r[((-1:Int) + (r.length:Int)).toNat]? = _
 rw [show ((-1:Int) + (r.length:Int)).toNat=n by omega,List.getElem?_eq_getElem (by omega),List.getD_eq_getElem?_getD,List.getElem?_eq_getElem (by omega)]
 rfl
theorem zM8 (ws:List Int) (b:Int):yL ((ws++[b]).map D.int) (-1)=some (.int b):=by
 rw [qe (n:=ws.length) (by rw [List.length_append]; rfl),List.getD_eq_getElem?_getD,List.getElem?_append_right (Nat.le_refl _),Nat.sub_self]
 rfl
theorem RmA (a b:List (List Int)):D.lst (a.map U++b.map U)=Rm (a++b):=by rw [Rm,List.map_append]
theorem YY {α:Type} (u:α->D):∀ (xs:List α) (ys:List D),List.zipWith xb (xs.map u) ys=(xs.zip ys).map λq=>xb (u q.1) q.2
 | [],_=>rfl
 | _ :: _,[]=>rfl
 | _ :: xs,_ :: ys=>by rw [List.map_cons,List.zipWith_cons_cons,YY u xs ys]; rfl
theorem Jp {α:Type} {xs:List α} {ys:List D} {G:D->(D->Prop)->Prop} {R:D->Prop} (u:α->D) (v:D->α) (hv:∀ x,v (u x)=x) (g:α->D->Bool) (few:xs.length<=1000) (h:∀ x y,(x,y)∈xs.zip ys->G (xb (u x) y) λe=>e=.bool (g x y)) (q:R (.lst (((xs.zip ys).map λp=>g p.1 p.2).map D.bool))):zl (List.zipWith xb (xs.map u) ys) G R:=by
 rw [YY]
 refine xc (λp:α × D=>xb (u p.1) p.2) (λd=>match d with | .tup [a,b]=>(v a,b) | _=>(v .non,.non)) (λp=>?_) (λp=>.bool (g p.1 p.2)) (by rw [List.length_zip]; omega) (λp hp=>h p.1 p.2 hp) (by rw [List.map_map] at q; exact q)
 show (v (u p.1),p.2)=p
 rw [hv]
theorem zLK {d:D} (h:jE d=true):∃ i,d=.int i:=by
 cases d with
 | int i=>exact ⟨i,rfl⟩
 | bool b=>cases h
 | _=>cases h
theorem MS.mbd {m:MD} (h:MS m):MBd m:=⟨λr hr x hx=>(h.nexts r hr x hx).mono,λr hr x hx=>(h.push r hr x hx).mono,λx hx=>(h.add x hx).mono,h.div.mono⟩
theorem zl.cast {ds ds':List D} {G:D->(D->Prop)->Prop} {R:D->Prop} (e:ds=ds') (h:zl ds' G R):zl ds G R:=by rw [e]; exact h
theorem qf (ns:List Int):(L ns).pl 50=true:=qK 48 ns
theorem Jq {α:Type} (f:α->List Int) (xs:List α):D.lst (xs.map λr=>U (f r))=Rm (xs.map f):=by unfold Rm; rw [List.map_map]; rfl
theorem gc {b:Bool} (h:(!b)=true):b=false:=by cases b <;> first | rfl | cases h
theorem gf {b:Bool} (h:(!b)=false):b=true:=by cases b <;> first | rfl | cases h
def zIX (C CM:Addr):FL:=λds R=>∃ n bs ms rows,ds=[x9 C CM n bs ms,Rm rows]/\n<=3/\bs.length<=6/\(∀ r∈rows,r.length=n + 1)/\rows.length<=900/\R (Rm (jZ n bs rows))
def zOz (C CM:Addr):FL:=λds R=>∃ n bs ms m r,ds=[x9 C CM n bs ms,wM CM m,U r]/\n<=3/\bs.length<=6/\xH m n bs.length/\MBd m/\r.length=n + 1/\(∀ x∈r,Bd 9000 x)/\R (U (vn n bs.length (r.take n) (r.getD n 0) m))
def zO3:FL:=λds R=>∃ rows d ns n,ds=[Rm rows,d,.int ((n:Nat):Int)]/\IS d ns/\n<=800/\ns.length<=900/\(∀ x∈ns,Bd 9000 x)/\(∀ r∈rows,n + 1<=r.length/\∀ x∈r,Bd 9000 x)/\R (U ((List.range (n + 1)).map (zS ns rows)))
def WL:FL:=λds R=>∃ d,ds=[d]/\d.isObj=false/\R (.bool (uR d))
def zMe:FL:=λds R=>∃ d c k,ds=[d,.int ((c:Nat):Int)]/\Fw k d/\R (.bool (xZ c d))
def zOy:FL:=λds R=>∃ rows tw n d k,ds=[Rm rows,U tw,d]/\tw.length=n + 1/\(∀ x∈tw,Bd 1000 x)/\vT rows n/\Fw k d/\qZ d/\R (.bool (uo rows tw n d))
def YZ:FL:=λds R=>∃ d c k,ds=[d,.int c]/\Fw k d/\R (.bool (gZ c d))
def WM:FL:=λds R=>∃ rows tws n d k,ds=[Rm rows,Rm tws,d]/\vT rows n/\vT tws n/\Fw k d/\xQ d/\R (.bool (uf rows tws n d))
def zMj (C CM:Addr):FL:=λds R=>∃ n bs ms m room behind d k,ds=[x9 C CM n bs ms,wM CM m,Rm room,Rm behind,d]/\gb n bs ms/\xH m n bs.length/\MS m/\wN room n/\wN behind n/\Fw k d/\xQ d/\R (.bool (ga n bs room behind m d))
def zO0 (C CM:Addr):FL:=λds R=>∃ n bs ms room behind d k,ds=[x9 C CM n bs ms,Rm room,Rm behind,d]/\gb n bs ms/\wN room n/\wN behind n/\Fw k d/\xR d/\R (.bool (qd n bs ms room behind d))
def fNo:FL:=λ_ _=>False
theorem Yb {r:List Int} {n:Nat} (h:r.length=n + 1):r=r.take n++[r.getD n 0]:=by
 conv=>lhs; rw [<- List.take_append_drop n r]
 congr 1
 rw [List.getD_eq_getElem?_getD,List.getElem?_eq_getElem (by omega)]
 exact List.drop_eq_getElem_cons (by omega) |>.trans (by rw [List.drop_eq_nil_of_le (by omega)]; rfl)
theorem zPG {α:Type} {l:List (List α)} {k:Nat} {x:List α} (h:l[k]? = some x):(l.take (k + 1)).flatten=(l.take k).flatten++x:=by
 rw [uz h,List.flatten_append,List.flatten_singleton]
section
variable {P:Program} {w:World} {K:PySem.W.Frag} {mg:Str->Option Value} {base:Heap}
abbrev Yc:Stmt:=zp 45
theorem qg:zh ["thing","rows","pushes","wide","noughts","told","place","push"] ["thing","rows"] (zK Yc):=.a
abbrev Jr:Stmt:=zp 46
theorem Js:zh ["thing","mode","row","numbers","ahead"] ["thing","mode","row"] (zK Jr):=.a
abbrev Jt:Stmt:=zp 48
theorem zNf:zh ["rows","numbers","many"] ["rows","numbers","many"] (zK Jt):=.a
abbrev Ju:Stmt:=zp 49
theorem zFv:zh ["value"] ["value"] (zK Ju):=.a
abbrev WN:Stmt:=zp 50
theorem zHG:zh ["value","count"] ["value","count"] (zK WN):=.a
abbrev WO:Stmt:=zp 51
theorem Jv:zh ["rows","target","shares","total","wanted"] ["rows","target","shares"] (zK WO):=.a
abbrev Jw:Stmt:=zp 57
theorem zHD:zh ["value","count"] ["value","count"] (zK Jw):=.a
abbrev WP:Stmt:=zp 58
theorem zHE:zh ["rows","targets","shares"] ["rows","targets","shares"] (zK WP):=.a
abbrev WQ:Stmt:=zp 65
theorem zHB:zh ["thing","mode","room","behind","shares"] ["thing","mode","room","behind","shares"] (zK WQ):=.a
abbrev WR:Stmt:=zp 64
theorem zJi:zh ["thing","room","behind","steps","modes"] ["thing","room","behind","steps"] (zK WR):=.a
variable {ag ah aClaim aSettles aComes aPaper aRooms aFalls:Addr} (aa:zE K mg "Mode" ag) (ab:wz K ag) (ac:zE K mg "Thing" ah) (ae:w4 K ah) (TClaim:zE K mg "Claim" aClaim) (AClaim:w6 K aClaim) (TSettles:zE K mg "Settles" aSettles) (ASettles:w8 K aSettles) (TComes:zE K mg "Comes" aComes) (AComes:vA K aComes) (TPaper:zE K mg "Paper" aPaper) (APaper:vB K aPaper) (TRooms:zE K mg "Rooms" aRooms) (ARooms:vC K aRooms) (TFalls:zE K mg "Falls" aFalls) (AFalls:vD K aFalls)
include aa ab ac ae TClaim AClaim TSettles ASettles TComes AComes TPaper APaper TRooms ARooms TFalls AFalls
theorem zI4 {k:Nat} {f:Addr} {fd:FuncData} (F:zj K "standing" "standing" Yc f fd) (B:Bl mg) (ap:vi P w K mg base ah "pushes" ["self"] k (zJ (YT ah ag))) (aQ:Fn P w K mg base "single" ["place","many","number","bound"] k (zJ (zMd))):zG P w K mg base zY (k + 1) f fd ["thing","rows"] (zJ (zIX ah ag)):=by
 refine zx F qg (λds R h=>by obtain ⟨n,bs,ms,rows,rfl,_⟩:=h; rfl) λcdv A outer s H E hr=>⟨_,(zL (zv 2 qg.nd rfl (Or.inl rfl) (jD ap ac hr (zA 0)))
  (zL (zv 3 qg.nd rfl (Or.inl rfl) (zr (yA K (zA 0) rfl) (zy yf yo rfl B.len_ yh (zB (zA 2) zC))))
  (zL (zv 4 qg.nd rfl (Or.inr rfl) (xV uX ud rfl B.tuple_ vI (zB (yI (own:=["push"]) (caps:=[]) (yB (S:=zK Yc) (N:=["thing","rows","pushes","wide","noughts","told","place","push"]) rfl (by decide +kernel) rfl ⟨_,rfl⟩ rfl (by decide +kernel) (by decide +kernel)) rfl rfl yD (yP (zA 2)) (λ_ _ _ _=>(zq 0 (show (["push"]:List Str).Nodup by decide +kernel) rfl (Or.inl rfl))) (λ_ _ _ _=>zF)) zC)))
  (zL (uO 5 true qg.nd rfl rfl (own:=["row"]) (caps:=[(4,"noughts")]) (yB (S:=zK Yc) (N:=["thing","rows","pushes","wide","noughts","told","place","push"]) rfl (by decide +kernel) rfl ⟨_,rfl⟩ rfl (by decide +kernel) (by decide +kernel)) rfl rfl yD (yP (zA 1)) (λ_ _ _ _=>(zq 0 (show (["row","noughts"]:List Str).Nodup by decide +kernel) rfl (Or.inl rfl))) (λ_ _ _ _=>(zr (zr (xP (zA 0) xN (xO (xl zF))) (zA 1)) (x8 (zB (zV (zA 0) (xl zF) (λ_ _=>rfl)) zC)))) rfl)
  (zL (wL PassesOwn.never rfl (zLr rfl B.enumerate_ (zB (zA 2) zC) (yA K (zA 0) rfl)) (wK rfl (zw 6 qg.nd rfl (Or.inl rfl) (zw 7 qg.nd rfl (Or.inl rfl) wJ))) (zL (yM (wE (wQ PySem.F.plainAttrs_list PySem.F.slot_list_append PySem.F.type_list_append yb (yi 5) (zi (zQ aQ hr rfl (zB (zA 6) (zB (zA 3) (zB zF (zB (zV (zA 7) zF (λ_ _=>rfl)) zC))))) yE))) wY)
   (zP (yM (wE (wQ PySem.F.plainAttrs_list PySem.F.slot_list_append PySem.F.type_list_append yb (yi 5) (zi (zQ aQ hr rfl (zB (zA 6) (zB (zA 3) (zB (xl zF) (zB (xl (zV (zA 7) zF (λ_ _=>rfl))) zC))))) yE))) wY))))
  (zP (ww 5 (zX (zA 5))))))))),λds R h=>?_⟩
 obtain ⟨n,bs,ms,rows,rfl,n3,b6,hr0,l9,q⟩:=h
 have hp:(List.map yN bs).length=bs.length:=List.length_map ..
 refine ⟨rfl,by decide +kernel,n,bs,ms,rfl,?_⟩
 refine ⟨⟨ac.cl,ae.n_many⟩,_,rfl,?_⟩
 refine xc yN YU (λ_=>rfl) (λ_=>.int 0) (by omega) (λb hb=>rfl) ?_
 refine xc U zg jG (λr=>U (wH n bs.length r)) (by omega) (λr hr=>?_) ?_
 ·have lr:=hr0 r hr
  refine ⟨by rw [vo lr,List.length_map,List.length_map,List.length_take]; omega,_,qe lr,k0,by rw [vo lr,List.length_append,List.length_map,List.length_map,List.length_take]; show _ + 1<=1000; omega,?_⟩
  rw [vo lr]
  unfold wH U
  rw [List.map_append,List.map_append,List.map_replicate,List.map_const']
  rfl
 refine ⟨⟨ac.cl,ae.n_many⟩,_,rfl,by omega,by omega,?_⟩
 rw [show ((n:Nat):Int).toNat=n by omega]
 refine ⟨λk Γ=>∃ s6 s7,Γ=[.sh (x9 ah ag n bs ms),.sh (Rm rows),.sh (.lst (bs.map yN)),.sh (.int ((n:Int) + ((bs.map yN).length:Int))),.sh (.tup (bs.map λ_=>.int 0)),.ow ((rows.map (wH n bs.length)++((bs.mapIdx (v5 n bs.length)).take k).flatten).map U),s6,s7],⟨_,_,by rw [List.take_zero,List.flatten_nil,List.append_nil,List.map_map]; rfl⟩,?_,?_⟩
 ·rintro k d Γ' hk ⟨s6,s7,rfl⟩
  obtain ⟨d',hd',rfl⟩:=JR hk
  rw [List.getElem?_map] at hd'
  cases hb:bs[k]? with
  | none=>rw [hb] at hd'; cases hd'
  | some b=>
  rw [hb] at hd'
  cases hd'
  have kl:k < bs.length:=(List.getElem?_eq_some_iff.mp hb).1
  have hx:(bs.mapIdx (v5 n bs.length))[k]? = some (v5 n bs.length k b):=by rw [List.getElem?_mapIdx,hb]; rfl
  have ll:((bs.mapIdx (v5 n bs.length)).take k).flatten.length=2 * k:=by
   rw [List.length_flatten]
   have e:((bs.mapIdx (v5 n bs.length)).take k).map List.length=List.replicate k 2:=by
    refine List.ext_getElem (by simp; omega) λi h1 h2=>?_
    simp [v5]
   rw [e]
   simp
   omega
  have lw:((rows.map (wH n bs.length)++((bs.mapIdx (v5 n bs.length)).take k).flatten).map U).length=rows.length + 2 * k:=by rw [List.length_map,List.length_append,List.length_map,ll]
  have e:((rows.map (wH n bs.length)++((bs.mapIdx (v5 n bs.length)).take (k + 1)).flatten).map U)=((rows.map (wH n bs.length)++((bs.mapIdx (v5 n bs.length)).take k).flatten).map U)++[U (yd ((n + k:Nat):Int) ((n:Int) + ((bs.map yN).length:Int)).toNat 1++[b.2])]++[U (yd ((n + k:Nat):Int) ((n:Int) + ((bs.map yN).length:Int)).toNat (-1)++[-b.1])]:=by
   rw [zPG hx,<- List.append_assoc,List.map_append,hp,show ((n:Int) + (bs.length:Int)).toNat=n + bs.length by omega,List.append_assoc]
   rfl
  refine ⟨_,rfl,_,_,_,_,rfl,by omega,by omega,by omega,?_⟩
  refine ⟨_,rfl,_,_,_,_,rfl,by omega,by omega,by rw [List.length_append]; show _ + 1 < 1000; omega,?_⟩
  refine ⟨.sh (.int ((n + k:Nat):Int)),.sh (yN b),?_⟩
  rw [e]
  rfl
 ·rintro Γ' ⟨s6,s7,rfl⟩
  rw [JQ,hp,List.take_of_length_le (by rw [List.length_mapIdx]; omega)]
  exact q
theorem zN1 {k:Nat} {f:Addr} {fd:FuncData} (F:zj K "reach" "reach" Jr f fd) (B:Bl mg) (aq:Fn P w K mg base "added_up" ["numbers","lists","wide"] k (zJ (YR))) (ap:vi P w K mg base ah "pushes" ["self"] k (zJ (YT ah ag))) (aJ:Fn P w K mg base "paired" ["numbers","others"] k (zJ (JY))):zG P w K mg base zY (k + 1) f fd ["thing","mode","row"] (zJ (zOz ah ag)):=by
 refine zx F Js (λds R h=>by obtain ⟨n,bs,ms,m,r,rfl,_⟩:=h; rfl) λcdv A outer s H E hr=>⟨_,(zL (zv 3 Js.nd rfl (Or.inl rfl) (xP (zA 2) xN (xO (xl zF))))
  (zL (zv 4 Js.nd rfl (Or.inl rfl) (zr (zQ aq hr rfl (zB (zA 3) (zB (yA K (zA 1) rfl) (zB (yA K (zA 0) rfl) zC)))) (zQ aq hr rfl (zB (zA 3) (zB (yA K (zA 1) rfl) (zB (zy yf yo rfl B.len_ yh (zB (jD ap ac hr (zA 0)) zC)) zC))))))
  (zP (zX (zr (xV uX ud rfl B.tuple_ vI (zB (zA 4) zC)) (x8 (zB (xr (xE (yA K (zA 1) rfl) (zV (zA 2) (xl zF) (λ_ _=>rfl))) (zQ aJ hr rfl (zB (zA 3) (zB (yA K (zA 1) rfl) zC)))) zC))))))),λds R h=>?_⟩
 obtain ⟨n,bs,ms,m,r,rfl,n3,b6,MO,MB,lr,br,q⟩:=h
 have lt:(r.take n).length=n:=by rw [List.length_take]; omega
 have bt:∀ x∈r.take n,Bd 9000 x:=λx hx=>br x (List.mem_of_mem_take hx)
 have hp:(List.map yN bs).length=bs.length:=List.length_map ..
 refine ⟨⟨aa.cl,ab.n_nexts⟩,_,rfl,⟨ac.cl,ae.n_many⟩,_,rfl,_,_,r.take n,m.nexts,n,rfl,.inr (by rw [vo lr]),.inl rfl,by omega,by omega,bt,λx hx=>⟨by rw [MO.nexts.2 x hx]; omega,MB.nexts x hx⟩,?_⟩
 refine ⟨⟨aa.cl,ab.n_push⟩,_,rfl,rfl,by decide +kernel,n,bs,ms,rfl,_,_,r.take n,m.push,bs.length,by rw [hp],.inr (by rw [vo lr]),.inl rfl,by omega,by omega,bt,λx hx=>⟨by rw [MO.push.2 x hx]; omega,MB.push x hx⟩,?_⟩
 refine ⟨by rw [List.length_map,List.length_map,List.length_map,List.length_map,List.length_range,List.length_range]; omega,?_⟩
 refine ⟨⟨aa.cl,ab.n_divisor⟩,_,rfl,_,qe lr,MB.div.mono,(jH br n).mono,⟨aa.cl,ab.n_add⟩,_,rfl,_,_,r.take n,m.add,rfl,.inr (by rw [vo lr]),.inl rfl,by omega,bt,MB.add,k0,?_,?_⟩
 ·rw [List.length_append,List.length_map,List.length_map,List.length_map,List.length_map,List.length_range,List.length_range]
  show _ + 1<=1000
  omega
 ·unfold vn U at q
  rw [List.map_append,List.map_append] at q
  exact q
theorem zN5 {k:Nat} {f:Addr} {fd:FuncData} (F:zj K "added" "added" Jt f fd) (B:Bl mg) (aq:Fn P w K mg base "added_up" ["numbers","lists","wide"] k (zJ (YR))):zG P w K mg base zY (k + 1) f fd ["rows","numbers","many"] (zJ (zO3)):=by
 refine zx F zNf (λds R h=>by obtain ⟨rows,d,ns,n,rfl,_⟩:=h; rfl) λcdv A outer s H E hr=>⟨_,(zP (zX (xV uX ud rfl B.tuple_ vI (zB (zQ aq hr rfl (zB (zA 1) (zB (zA 0) (zB (zr (zA 2) zF) zC)))) zC)))),λds R h=>?_⟩
 obtain ⟨rows,d,ns,n,rfl,h,n8,l9,bn,br,q⟩:=h
 exact ⟨_,_,ns,rows,n + 1,rfl,h,.inr rfl,by omega,l9,bn,br,q⟩
theorem zGC {k:Nat} {f:Addr} {fd:FuncData} (F:zj K "is_from_0_on" "is_from_0_on" Ju f fd) (B:Bl mg) (al:Fn P w K mg base "is_whole" ["thing"] k (zJ (qV))):zG P w K mg base zY (k + 1) f fd ["value"] (zJ (WL)):=by
 refine zx F zFv (λds R h=>by obtain ⟨d,rfl,_⟩:=h; rfl) λcdv A outer s H E hr=>⟨_,(zP (zX (wX (zQ al hr rfl (zB (zA 0) zC)) (vk (zQg (zA 0) zF))))),λds R h=>?_⟩
 obtain ⟨d,rfl,o,q⟩:=h
 refine ⟨d,rfl,o,w2 (λc=>?_) (λc=>bR q ?_)⟩
 ·obtain ⟨i,rfl⟩:=zLK c
  exact q
 ·cases d <;> first | rfl | cases c
theorem zHi {k:Nat} {f:Addr} {fd:FuncData} (F:zj K "are_shares" "are_shares" WN f fd) (B:Bl mg) (aB:Fn P w K mg base "is_from_0_on" ["value"] k (zJ (WL))):zG P w K mg base zY (k + 1) f fd ["value","count"] (zJ (zMe)):=by
 refine zx F zHG (λds R h=>by obtain ⟨d,c,k,rfl,_⟩:=h; rfl) λcdv A outer s H E hr=>⟨_,(zL (yR (PW.pt (wI (xF (yc (yO (xi wo rfl B.isinstance_ xo (zi (zA 0) (zi (wj (v:=.ty "tuple") (u:=.type "tuple") rfl B.tuple_ vI rfl) yE))) (wx Z9)))) (we (Xm hr.units (zy yf yo rfl B.len_ yh (zB (zA 0) zC)) zF)))) (zP (zX xk)) yQ)
  (zL (yR (PW.pt (wI (xF (yc (zQ aB hr rfl (zB (zV (zA 0) zF (λ_ _=>rfl)) zC)))) (wI (xF (yc (yO (xi wo rfl B.isinstance_ xo (zi (zV (zA 0) zF (λ_ _=>rfl)) (zi (wj (v:=.ty "list") (u:=.type "list") rfl B.list_ xq rfl) yE))) (wx jC)))) (we (Xm hr.units (zy yf yo rfl B.len_ yh (zB (zV (zA 0) zF (λ_ _=>rfl)) zC)) (zA 1)))))) (zP (zX xk)) yQ)
  (zP (zX (zy (vP rfl) vX rfl B.all_ vQ (zB (yI (own:=["number"]) (caps:=[]) (yB (S:=zK WN) (N:=["value","count"]) rfl (by decide +kernel) rfl ⟨0,rfl⟩ rfl (by decide +kernel) (by decide +kernel)) rfl rfl yD (yP (zV (zA 0) zF (λ_ _=>rfl))) (λ_ _ _ _=>(zq 0 (show (["number"]:List Str).Nodup by decide +kernel) rfl (Or.inl rfl))) (λ_ _ _ _=>(zQ aB hr rfl (zB (zA 0) zC)))) zC)))))),λds R h=>?_⟩
 obtain ⟨d,c,k,rfl,f,q⟩:=h
 refine ⟨f.no,w2 (λc1=>wT rfl (bR q ?_)) λc1=>?_⟩
 ·cases d <;> first | rfl | cases c1
 obtain ⟨es,rfl,le,j,rfl,hj⟩:=f.tup_inv (by cases z:d.isTup with | true=>rfl | false=>rw [z] at c1; cases c1)
 refine w2 (λc2=>bR q ?_) λc2=>?_
 ·match es,c2 with
  | [],_=>rfl
  | [_],_=>rfl
  | [_,_],c2=>cases c2
  | _ :: y :: _ :: _,_=>cases y <;> rfl
 obtain ⟨x,y,rfl⟩:∃ x y,es=[x,y]:=by
  match es,c2 with
  | [x,y],_=>exact ⟨x,y,rfl⟩
  | [],c2=>cases c2
  | [_],c2=>cases c2
  | _ :: _ :: _ :: _,c2=>
   have c2:(!decide (((_:Nat):Int)=2))=false:=c2
   rw [Bool.not_eq_false',decide_eq_true_iff] at c2
   simp at c2
   omega
 have fx:=hj x List.mem_cons_self
 have fy:=hj y (List.mem_cons_of_mem _ List.mem_cons_self)
 refine ⟨x,rfl,x,rfl,fx.no,w2 (λc3=>wT rfl (bR q ?_)) λc3=>?_⟩
 ·cases y <;> first | rfl | (show (uR x && _)=false; rw [show uR x=false by cases z:uR x with | false=>rfl | true=>rw [z] at c3; cases c3]; rfl)
 have c3:uR x=true:=by cases z:uR x with | true=>rfl | false=>rw [z] at c3; cases c3
 refine ⟨y,rfl,fy.no,w2 (λc4=>wT rfl (bR q ?_)) λc4=>?_⟩
 ·cases y <;> first | rfl | cases c4
 obtain ⟨ys,rfl,ly,i,rfl,hi⟩:=fy.lst_inv (by cases z:y.isLst with | true=>rfl | false=>rw [z] at c4; cases c4)
 have key:xZ c (.tup [x,.lst ys])=(decide (ys.length=c) && ys.all uR):=by
  show (uR x && _)=_
  rw [c3]
  rfl
 rw [key] at q
 refine ⟨_,rfl,w2 (λc5=>bR q ?_) λc5=>?_⟩
 ·have c5:(!decide ((ys.length:Int)=(c:Int)))=true:=c5
  rw [Bool.not_eq_true',decide_eq_false_iff_not] at c5
  rw [decide_eq_false (by omega)]
  rfl
 have c5:(!decide ((ys.length:Int)=(c:Int)))=false:=c5
 rw [Bool.not_eq_false',decide_eq_true_iff] at c5
 refine ⟨_,rfl,zl.bool uR (by omega) (λd m=>⟨d,rfl,(hi d m).no,rfl⟩) ⟨_,rfl,bR q ?_⟩⟩
 rw [v9,decide_eq_true (by omega)]
 rfl
theorem zN0 {k:Nat} {f:Addr} {fd:FuncData} (F:zj K "shows" "shows" WO f fd) (B:Bl mg) (bg:Fn P w K mg base "are_shares" ["value","count"] k (zJ (zMe))) (bh:Fn P w K mg base "added" ["rows","numbers","many"] k (zJ (zO3))) (bj:Fn P w K mg base "scaled" ["factor","numbers"] k (zJ (zMf))):zG P w K mg base zY (k + 1) f fd ["rows","target","shares"] (zJ (zOy)):=by
 refine zx F Jv (λds R h=>by obtain ⟨rows,tw,n,d,k,rfl,_⟩:=h; rfl) λcdv A outer s H E hr=>⟨_,(zL (yR (xF (yc (zQ bg hr rfl (zB (zA 2) (zB (zy yf yo rfl B.len_ yh (zB (zA 0) zC)) zC))))) (zP (zX xk)) yQ)
  (zL (zv 3 Jv.nd rfl (Or.inl rfl) (zQ bh hr rfl (zB (zA 0) (zB (zV (zA 2) zF (λ_ _=>rfl)) (zB (xr (zy yf yo rfl B.len_ yh (zB (zA 1) zC)) zF) zC)))))
  (zL (yR (vj hr.units (zV (zA 2) zF (λ_ _=>rfl)) zF) (zP (zX (wX (zy (vP rfl) vX rfl B.all_ vQ (zB (yI (own:=["number"]) (caps:=[]) (yB (S:=zK WO) (N:=["rows","target","shares","total","wanted"]) rfl (by decide +kernel) rfl ⟨0,rfl⟩ rfl (by decide +kernel) (by decide +kernel)) rfl rfl yD (yP (xP (zA 3) xN (xO (xl zF)))) (λ_ _ _ _=>(zq 0 (show (["number"]:List Str).Nodup by decide +kernel) rfl (Or.inl rfl))) (λ_ _ _ _=>(uM hr.units (zA 0) zF))) zC)) (vk (ZZ (zV (zA 3) (xl zF) (λ_ _=>rfl)) zF))))) yQ)
  (zL (zv 4 Jv.nd rfl (Or.inl rfl) (zQ bj hr rfl (zB (zV (zA 2) zF (λ_ _=>rfl)) (zB (zA 1) zC))))
  (zP (zX (wX (uM hr.units (xV v4 v6 rfl B.list_ xq (zB (xP (zA 3) xN (xO (xl zF))) zC)) (xP (zA 4) xN (xO (xl zF)))) (vk (zQe (zV (zA 3) (xl zF) (λ_ _=>rfl)) (zV (zA 4) (xl zF) (λ_ _=>rfl))))))))))),λds R h=>?_⟩
 obtain ⟨rows,tw,n,d,k,rfl,lt,bt,RW,f,sb,q⟩:=h
 have lr:(List.map U rows).length=rows.length:=List.length_map ..
 have ltw:(List.map D.int tw).length=n + 1:=by rw [List.length_map]; exact lt
 have nar:=RW.nar
 have fewr:=RW.few
 refine ⟨d,rows.length,k,by rw [lr],f,w2 (λc1=>bR q ?_) λc1=>?_⟩
 ·exact zNc (by cases z:xZ rows.length d with | false=>rfl | true=>rw [z] at c1; cases c1)
 have c1:xZ rows.length d=true:=by cases z:xZ rows.length d with | true=>rfl | false=>rw [z] at c1; cases c1
 obtain ⟨o,ns,rfl,o0,ln,n0⟩:=zNd c1
 rw [zLc c1] at q
 obtain ⟨bo,bn⟩:=sb o _ rfl
 have bn:∀ x∈ns,Bd 1000 x:=λx hx=>bn (.int x) (List.mem_map.mpr ⟨x,hx,rfl⟩)
 have tot:(List.range (n + 1)).map (zS ns rows)=(List.range n).map (zS ns rows)++[zS ns rows n]:=by rw [List.range_succ,List.map_append]; rfl
 have e1:(List.range n).map (yz rows ns)=(List.range n).map (zS ns rows):=List.map_congr_left λj _=>Jm rows ns j
 unfold j8 at q
 rw [e1,Jm] at q
 refine ⟨_,rfl,rows,_,ns,n,by rw [ltw]; show [Rm rows,L ns,D.int (((n + 1:Nat):Int) - 1)]=_; rw [show ((n + 1:Nat):Int) - 1=(n:Int) by omega],.inl rfl,by omega,by omega,λx hx=>(bn x hx).mono,λr hr=>⟨by rw [(RW.row r hr).1]; omega,λx hx=>((RW.row r hr).2 x hx).mono⟩,?_⟩
 rw [tot]
 refine ⟨_,rfl,w2 (λc2=>?_) λc2=>?_⟩
 ·rw [if_pos (of_decide_eq_true c2)] at q
  refine zl.cast (Jo _ _) (zRk (λx=>decide (x=0)) (by rw [List.length_map,List.length_range]; omega) (λx hx=>rfl) ⟨_,rfl,w2 (λc3=>?_) λc3=>bR q ?_⟩)
  ·refine ⟨_,zM8 _ _,bR q ?_⟩
   rw [v9] at c3
   rw [c3]
   rfl
  ·rw [v9] at c3
   rw [c3]
   rfl
 ·rw [if_neg (of_decide_eq_false c2)] at q
  have lsc:(tw.map (o * ·)).length=n + 1:=by rw [List.length_map]; exact lt
  have ets:(tw.map (o * ·)).take n=(tw.take n).map (o * ·):=(List.map_take ..).symm
  refine ⟨_,rfl,o,_,tw,rfl,.inr rfl,by omega,bo.mono,λx hx=>(bt x hx).mono,?_⟩
  refine ⟨by rw [Jo]; exact qf _,by rw [vo lsc]; exact qf _,w2 (λc3=>?_) λc3=>bR q ?_⟩
  all_goals rw [Jo,vo lsc,Zc,ets] at c3
  ·refine ⟨_,zM8 _ _,_,qe lsc,bR q ?_⟩
   rw [c3]
   rw [show (tw.map (o * ·)).getD n 0=o * tw.getD n 0 by
    rw [List.getD_eq_getElem?_getD,List.getElem?_map,List.getElem?_eq_getElem (by omega),List.getD_eq_getElem?_getD,List.getElem?_eq_getElem (by omega)]; rfl]
   rfl
  ·rw [c3]
   rfl
theorem zHf {k:Nat} {f:Addr} {fd:FuncData} (F:zj K "is_list_of" "is_list_of" Jw f fd) (B:Bl mg):zG P w K mg base zY (k + 1) f fd ["value","count"] (zJ (YZ)):=by
 refine zx F zHD (λds R h=>by obtain ⟨d,c,k,rfl,_⟩:=h; rfl) λcdv A outer s H E hr=>⟨_,(zP (zX (wX (yO (xi wo rfl B.isinstance_ xo (zi (zA 0) (zi (wj (v:=.ty "list") (u:=.type "list") rfl B.list_ xq rfl) yE))) (wx jC)) (vk (uM hr.units (zy yf yo rfl B.len_ yh (zB (zA 0) zC)) (zA 1)))))),λds R h=>?_⟩
 obtain ⟨d,c,k,rfl,f,q⟩:=h
 refine ⟨f.no,w2 (λc1=>?_) λc1=>bR q ?_⟩
 ·obtain ⟨es,rfl,le,j,rfl,hj⟩:=f.lst_inv c1
  exact q
 ·cases d <;> first | rfl | cases c1
theorem zHg {k:Nat} {f:Addr} {fd:FuncData} (F:zj K "each_shown" "each_shown" WP f fd) (B:Bl mg) (av:Fn P w K mg base "is_list_of" ["value","count"] k (zJ (YZ))) (bp:Fn P w K mg base "shows" ["rows","target","shares"] k (zJ (zOy))):zG P w K mg base zY (k + 1) f fd ["rows","targets","shares"] (zJ (WM)):=by
 refine zx F zHE (λds R h=>by obtain ⟨rows,tws,n,d,k,rfl,_⟩:=h; rfl) λcdv A outer s H E hr=>⟨_,(zL (yR (xF (yc (zQ av hr rfl (zB (zA 2) (zB (zy yf yo rfl B.len_ yh (zB (zA 1) zC)) zC))))) (zP (zX xk)) yQ)
  (zP (zX (zy (vP rfl) vX rfl B.all_ vQ (zB (yI (own:=["target","part"]) (caps:=[(0,"rows")]) (yB (S:=zK WP) (N:=["rows","targets","shares"]) rfl (by decide +kernel) rfl ⟨_,rfl⟩ rfl (by decide +kernel) (by decide +kernel)) rfl rfl (qL (vZ (vZ qO))) (qN rfl B.zip_ (zB (zA 1) (zB (zA 2) zC))) (λ_ _ _ _=>(wK rfl (zw 0 (show (["target","part","rows"]:List Str).Nodup by decide +kernel) rfl (Or.inl rfl) (zw 1 (show (["target","part","rows"]:List Str).Nodup by decide +kernel) rfl (Or.inl rfl) wJ)))) (λ_ _ _ _=>(zQ bp hr rfl (zB (zA 2) (zB (zA 0) (zB (zA 1) zC)))))) zC))))),λds R h=>?_⟩
 obtain ⟨rows,tws,n,d,k,rfl,RW,RT,f,sb,q⟩:=h
 have lt:(List.map U tws).length=tws.length:=List.length_map ..
 have fewt:=RT.few
 refine ⟨d,_,k,rfl,f,w2 (λc1=>bR q ?_) λc1=>?_⟩
 ·rw [lt] at c1
  exact zOQ (gc c1)
 rw [lt] at c1
 obtain ⟨as,rfl,la⟩:=WK (gf c1)
 obtain ⟨es,e1,le,j,rfl,hj⟩:=f.lst_inv rfl
 cases e1
 have sb:=sb as rfl
 refine Jp U zg jG (λt a=>uo rows t n a) (by omega) (λt a hm=>?_) ⟨_,rfl,bR q ?_⟩
 ·have h1:=(List.of_mem_zip hm).1
  have h2:=(List.of_mem_zip hm).2
  exact ⟨rows,t,n,a,j,rfl,(RT.row t h1).1,(RT.row t h1).2,RW,hj a h2,sb a h2,rfl⟩
 ·show (decide _ && _)=_
  rw [decide_eq_true la,v9]
  rfl
theorem zHd {k:Nat} {f:Addr} {fd:FuncData} (F:zj K "mode_leads" "mode_leads" WQ f fd) (B:Bl mg) (aE:Fn P w K mg base "each_shown" ["rows","targets","shares"] k (zJ (WM))) (bA:Fn P w K mg base "reach" ["thing","mode","row"] k (zJ (zOz ah ag))) (bC:Fn P w K mg base "standing" ["thing","rows"] k (zJ (zIX ah ag))):zG P w K mg base zY (k + 1) f fd ["thing","mode","room","behind","shares"] (zJ (zMj ah ag)):=by
 refine zx F zHB (λds R h=>by obtain ⟨n,bs,ms,m,room,behind,d,k,rfl,_⟩:=h; rfl) λcdv A outer s H E hr=>⟨_,(zP (zX (zQ aE hr rfl (zB (zQ bC hr rfl (zB (zA 0) (zB (zr (zA 2) (yA K (zA 1) rfl)) zC))) (zB (yI (own:=["row"]) (caps:=[(0,"thing"),(1,"mode")]) (yB (S:=zK WQ) (N:=["thing","mode","room","behind","shares"]) rfl (by decide +kernel) rfl ⟨_,rfl⟩ rfl (by decide +kernel) (by decide +kernel)) rfl rfl yD (yP (zA 3)) (λ_ _ _ _=>(zq 0 (show (["row","thing","mode"]:List Str).Nodup by decide +kernel) rfl (Or.inl rfl))) (λ_ _ _ _=>(zQ bA hr rfl (zB (zA 1) (zB (zA 2) (zB (zA 0) zC)))))) (zB (zA 4) zC)))))),λds R h=>?_⟩
 obtain ⟨n,bs,ms,m,room,behind,d,k,rfl,TS,MO,MSm,R1,R2,f,sb,q⟩:=h
 have n1:=TS.ok.n1
 have n3:=TS.ok.n3
 have b6:=TS.ok.b6
 have f1:=R1.few
 have f2:=R2.few
 have f3:=MSm.few
 have hrl:∀ r∈room++m.rows,r.length=n + 1/\∀ x∈r,Bd 1000 x:=λr hr=>by
  rcases List.mem_append.mp hr with hr | hr
  ·exact ⟨(R1.row r hr).1,λx hx=>((R1.row r hr).2 x hx).mono⟩
  ·exact ⟨MO.rows r hr,λx hx=>(MSm.rows r hr x hx).mono⟩
 refine ⟨⟨aa.cl,ab.n_rows⟩,_,rfl,by rw [List.length_map,List.length_map]; omega,n,bs,ms,room++m.rows,by rw [RmA],n3,b6,λr hr=>(hrl r hr).1,by rw [List.length_append]; omega,?_⟩
 refine xc U zg jG (λr=>U (vn n bs.length (r.take n) (r.getD n 0) m)) (by omega) (λr hr=>?_) ?_
 ·exact ⟨n,bs,ms,m,r,rfl,n3,b6,MO,MSm.mbd,(R2.row r hr).1,λx hx=>((R2.row r hr).2 x hx).mono,rfl⟩
 have RW2:vT (qc n bs.length m behind) (n + bs.length):=by
  refine ⟨λr hr=>?_,by unfold qc; rw [List.length_map]; omega,by omega⟩
  obtain ⟨r0,h0,rfl⟩:=List.mem_map.mp hr
  obtain ⟨lr,br⟩:=R2.row r0 h0
  exact ⟨zIG ..,λx hx=>(zNk MSm (by rw [List.length_take]; omega) (λy hy=>(br y (List.mem_of_mem_take hy)).mono) (Jn br n).mono x hx).mono⟩
 exact ⟨_,qc n bs.length m behind,n + bs.length,d,k,by rw [Jq (λr:List Int=>vn n bs.length (r.take n) (r.getD n 0) m)]; rfl,zNa hrl (by rw [List.length_append]; omega) n3 b6 TS.bs,RW2,f,sb,q⟩
theorem zN2 {k:Nat} {f:Addr} {fd:FuncData} (F:zj K "leads" "leads" WR f fd) (B:Bl mg) (aF:vi P w K mg base ah "modes" ["self"] k (zJ (WG ah ag))) (av:Fn P w K mg base "is_list_of" ["value","count"] k (zJ (YZ))) (bE:Fn P w K mg base "mode_leads" ["thing","mode","room","behind","shares"] k (zJ (zMj ah ag))):zG P w K mg base zY (k + 1) f fd ["thing","room","behind","steps"] (zJ (zO0 ah ag)):=by
 refine zx F zJi (λds R h=>by obtain ⟨n,bs,ms,room,behind,d,k,rfl,_⟩:=h; rfl) λcdv A outer s H E hr=>⟨_,(zL (zv 4 zJi.nd rfl (Or.inl rfl) (jD aF ac hr (zA 0)))
  (zL (yR (xF (yc (zQ av hr rfl (zB (zA 3) (zB (zy yf yo rfl B.len_ yh (zB (zA 4) zC)) zC))))) (zP (zX xk)) yQ)
  (zP (zX (zy (vP rfl) vX rfl B.all_ vQ (zB (yI (own:=["mode","shares"]) (caps:=[(0,"thing"),(1,"room"),(2,"behind")]) (yB (S:=zK WR) (N:=["thing","room","behind","steps","modes"]) rfl (by decide +kernel) rfl ⟨_,rfl⟩ rfl (by decide +kernel) (by decide +kernel)) rfl rfl (qL (vZ (vZ qO))) (qN rfl B.zip_ (zB (zA 4) (zB (zA 3) zC))) (λ_ _ _ _=>(wK rfl (zw 0 (show (["mode","shares","thing","room","behind"]:List Str).Nodup by decide +kernel) rfl (Or.inl rfl) (zw 1 (show (["mode","shares","thing","room","behind"]:List Str).Nodup by decide +kernel) rfl (Or.inl rfl) wJ)))) (λ_ _ _ _=>(zQ bE hr rfl (zB (zA 2) (zB (zA 0) (zB (zA 3) (zB (zA 4) (zB (zA 1) zC)))))))) zC)))))),λds R h=>?_⟩
 obtain ⟨n,bs,ms,room,behind,d,k,rfl,TS,R1,R2,f,sb,q⟩:=h
 have m40:=TS.ok.m40
 have lm:(List.map (wM ag) ms).length=ms.length:=List.length_map ..
 refine ⟨rfl,by decide +kernel,n,bs,ms,rfl,?_⟩
 refine ⟨d,_,k,rfl,f,w2 (λc1=>bR q ?_) λc1=>?_⟩
 ·rw [lm] at c1
  exact zMU (gc c1)
 rw [lm] at c1
 obtain ⟨as,rfl,la⟩:=WK (gf c1)
 obtain ⟨es,e1,le,j,rfl,hj⟩:=f.lst_inv rfl
 cases e1
 have sb:=sb as rfl
 refine Jp (wM ag) xM (WH _) (λm a=>ga n bs room behind m a) (by omega) (λm a hm=>?_) ⟨_,rfl,bR q ?_⟩
 ·have h1:=(List.of_mem_zip hm).1
  have h2:=(List.of_mem_zip hm).2
  exact ⟨n,bs,ms,m,room,behind,a,j,rfl,TS,TS.ok.mok m h1,TS.ms m h1,R1,R2,hj a h2,sb a h2,rfl⟩
 ·show (decide _ && _)=_
  rw [decide_eq_true la,v9]
  rfl
end
abbrev zQT:List Str:=["start","rows","turn"]
abbrev zQX:List Str:=["rooms","back","starts","steps","stays"]
abbrev vc (rooms:List (List (List Int))):D:=.lst (rooms.map Rm)
abbrev jI (C:Addr) (s g:List (List Int)) (t:Int):D:=.obj C zQT [Rm s,Rm g,.int t]
abbrev qh (C:Addr) (rooms:List (List (List Int))) (BK A1 A2 A3:D):D:=.obj C zQX [vc rooms,BK,A1,A2,A3]
def ji (a:D):Prop:=∀ as,a=.lst as->∀ x∈as,xR x
def gg (n:Nat) (bs:List (Int × Int)) (ms:List MD) (rooms:List (List (List Int))) (b:Nat):D->Bool
 | .lst as=>decide ((as.length:Int)=(rooms.length:Int)) && (rooms.zip ((rooms.drop 1++[rooms.getD b []]).zip as)).all λp=>qd n bs ms p.1 p.2.1 p.2.2
 | _=>false
def gh (n:Nat) (rooms:List (List (List Int))) (f:Nat) (g:List (List Int)):D->Bool
 | .lst as=>decide ((as.length:Int)=(rooms.length:Int)) && ((rooms.drop f).zip (as.drop f)).all λp=>uf p.1 g n p.2
 | _=>false
def uA (n:Nat) (bs:List (Int × Int)) (ms:List MD) (s g:List (List Int)) (t:Int) (rooms:List (List (List Int))) (BK A1 A2 A3:D):Bool:=
 match BK with
 | .int b=>if b < 0\/(rooms.length:Int)<=b then false else uf s (rooms.getD 0 []) n A1 && (gg n bs ms rooms b.toNat A2 && gh n rooms (min b t).toNat g A3)
 | _=>false
structure gj (n:Nat) (rooms:List (List (List Int))):Prop where
 rm:∀ r∈rooms,wN r n
 few:rooms.length<=100
theorem zK6 {n:Nat} {bs:List (Int × Int)} {ms:List MD} {rooms:List (List (List Int))} {b:Nat} {a:D} (h:gZ (rooms.length:Int) a=false):gg n bs ms rooms b a=false:=by
 cases a with
 | lst as=>show (decide _ && _)=false; rw [show decide ((as.length:Int)=(rooms.length:Int))=false from h]; rfl
 | _=>rfl
theorem zNZ {n:Nat} {rooms:List (List (List Int))} {f:Nat} {g:List (List Int)} {a:D} (h:gZ (rooms.length:Int) a=false):gh n rooms f g a=false:=by
 cases a with
 | lst as=>show (decide _ && _)=false; rw [show decide ((as.length:Int)=(rooms.length:Int))=false from h]; rfl
 | _=>rfl
def jj:D->List (List Int)
 | .lst ds=>ds.map zg
 | _=>[]
theorem Yd (r:List (List Int)):jj (Rm r)=r:=by
 show (r.map U).map zg=r
 rw [List.map_map]
 exact (List.map_congr_left λx _=>jG x).trans (List.map_id _)
theorem Ye {rooms:List (List (List Int))} {b:Int} (h0:0<=b) (h1:b < (rooms.length:Int)):yL (rooms.map Rm) b=some (Rm (rooms.getD b.toNat [])):=by
 rw [uk]
 unfold yL wG
 rw [if_pos h0,if_pos (by omega)]
 show Option.map Rm rooms[b.toNat]? = _
 rw [List.getElem?_eq_getElem (by omega),List.getD_eq_getElem?_getD,List.getElem?_eq_getElem (by omega)]
 rfl
theorem Jx {rooms:List (List (List Int))} {b:Nat} (h:b < rooms.length):rooms.getD b []∈rooms:=by
 rw [List.getD_eq_getElem?_getD,List.getElem?_eq_getElem h]
 exact List.getElem_mem _
theorem gk {α:Type} {xs:List α} {b:Int} (h:0<=b):zf xs (some b) none=xs.drop b.toNat:=by
 obtain ⟨k,rfl⟩:=Int.eq_ofNat_of_zero_le h
 unfold zf
 have e:HT.sIx xs.length 0 (some ((k:Nat):Int))=min k xs.length:=HT.sIx_nat ..
 show (xs.drop (HT.sIx xs.length 0 (some ((k:Nat):Int)))).take (xs.length - HT.sIx xs.length 0 (some ((k:Nat):Int)))=xs.drop ((k:Nat):Int).toNat
 rw [e,Int.toNat_natCast,List.take_of_length_le (by rw [List.length_drop]; exact Nat.le_refl _)]
 by_cases c:k<=xs.length
 ·rw [Nat.min_eq_left c]
 ·rw [Nat.min_eq_right (by omega),List.drop_eq_nil_of_le (Nat.le_refl _),List.drop_eq_nil_of_le (show xs.length<=k by omega)]
def zRW (C:Addr):FL:=λds R=>∃ s g t,ds=[s,g,t]/\Fw 6 s/\Fw 6 g/\R (.obj C zQT [s,g,t])
def zRX (C:Addr):FL:=λds R=>∃ a b c d e,ds=[a,b,c,d,e]/\Fw 6 a/\Fw 6 c/\Fw 6 d/\Fw 6 e/\R (.obj C zQX [a,b,c,d,e])
def zRV (C:Addr):FL:=λds R=>∃ s g t n,ds=[jI C s g t,.int ((n:Nat):Int)]/\n<=3/\wN s n/\wN g n/\0<=t/\R (.bool true)
def zRd:FL:=λds R=>∃ rooms n,ds=[vc rooms,.int ((n:Nat):Int)]/\gj n rooms/\n<=3/\R (.bool true)
def zMo (C CM CR:Addr):FL:=λds R=>∃ n bs ms rooms b A1 A2 A3 k,ds=[x9 C CM n bs ms,qh CR rooms (.int b) A1 A2 A3]/\gb n bs ms/\gj n rooms/\0<=b/\b < (rooms.length:Int)/\Fw k A2/\ji A2/\R (.bool (gg n bs ms rooms b.toNat A2))
def zRT (CS CR:Addr):FL:=λds R=>∃ n s g t rooms b A1 A2 A3 k,ds=[jI CS s g t,qh CR rooms (.int b) A1 A2 A3]/\n<=3/\gj n rooms/\wN g n/\0<=t/\0<=b/\Fw k A3/\xR A3/\R (.bool (gh n rooms (min b t).toNat g A3))
def WS (C CM CS CR:Addr):FL:=λds R=>∃ n bs ms s g t rooms BK A1 A2 A3 k,ds=[x9 C CM n bs ms,jI CS s g t,qh CR rooms BK A1 A2 A3]/\gb n bs ms/\wN s n/\wN g n/\0<=t/\gj n rooms/\BK.isObj=false/\Fw k A1/\Fw k A2/\Fw k A3/\xQ A1/\ji A2/\xR A3/\gY ms=true/\R (.bool (uA n bs ms s g t rooms BK A1 A2 A3))
section
variable {P:Program} {w:World} {K:PySem.W.Frag} {mg:Str->Option Value} {base:Heap}
abbrev Jy:Stmt:=j2 (zp 42) 0
theorem zD8:zh ["self","start","rows","turn"] ["self","start","rows","turn"] (zK Jy):=.a
abbrev Jz:Stmt:=j2 (zp 54) 0
theorem zEt:zh ["self","rooms","back","starts","steps","stays"] ["self","rooms","back","starts","steps","stays"] (zK Jz):=.a
abbrev J2:Stmt:=zp 59
theorem zFq:zh ["claim","many"] ["claim","many"] (zK J2):=.a
abbrev WT:Stmt:=zp 62
theorem zIF:zh ["value","many"] ["value","many"] (zK WT):=.a
abbrev WU:Stmt:=zp 63
theorem zDh:zh ["thing","paper","following"] ["thing","paper"] (zK WU):=.a
abbrev WV:Stmt:=zp 66
theorem zEQ:zh ["claim","paper","first"] ["claim","paper"] (zK WV):=.a
abbrev J5:Stmt:=zp 61
theorem zFS:zh ["thing","claim","paper"] ["thing","claim","paper"] (zK J5):=.a
abbrev J7:Stmt:=zp 56
theorem zKe:zh ["thing","claim","paper"] ["thing","claim","paper"] (zK J7):=.a
variable {ag ah aClaim aSettles aComes aPaper aRooms aFalls:Addr} (aa:zE K mg "Mode" ag) (ab:wz K ag) (ac:zE K mg "Thing" ah) (ae:w4 K ah) (TClaim:zE K mg "Claim" aClaim) (AClaim:w6 K aClaim) (TSettles:zE K mg "Settles" aSettles) (ASettles:w8 K aSettles) (TComes:zE K mg "Comes" aComes) (AComes:vA K aComes) (TPaper:zE K mg "Paper" aPaper) (APaper:vB K aPaper) (TRooms:zE K mg "Rooms" aRooms) (ARooms:vC K aRooms) (TFalls:zE K mg "Falls" aFalls) (AFalls:vD K aFalls)
include aa ab ac ae TClaim AClaim TSettles ASettles TComes AComes TPaper APaper TRooms ARooms TFalls AFalls
theorem zEE {k:Nat} {f:Addr} {fd:FuncData} {dv:Value} (F:xG K "__init__" "Settles.__init__" Jy f fd dv) (B:Bl mg) (ak:vh P w K mg base "copied" ["value","depth"] k (zJ (qX 6)) (.int 5)):zG P w K mg base zY (k + 1) f fd ["self","start","rows","turn"] (wf aSettles (zRW aSettles)):=by
 refine JP F zD8 (λds R h=>by obtain ⟨s,g,t,rfl,_⟩:=h; rfl) λcdv A outer s H E hr=>⟨_,(zL (yM (wl (yi 0) (uP (.int 5) (λ_=>.int 5) ak hr rfl (zB (zA 1) zC)) rfl) wy)
  (zL (yM (wl (yi 0) (uP (.int 5) (λ_=>.int 5) ak hr rfl (zB (zA 2) zC)) rfl) wy)
  (zP (yM (wl (yi 0) (zA 3) rfl) wy)))),λo ds R h=>?_⟩
 obtain ⟨s,g,t,rfl,f1,f2,q⟩:=h
 refine ⟨s,5,rfl,f1,⟨TSettles.cl,ASettles.n_start⟩,by decide +kernel,by decide,rfl,?_⟩
 refine ⟨g,5,rfl,f2,⟨TSettles.cl,ASettles.n_rows⟩,by decide +kernel,by decide,rfl,?_⟩
 exact ⟨⟨TSettles.cl,ASettles.n_turn⟩,by decide +kernel,by decide,rfl,rfl,q⟩
theorem zE4 {k:Nat} {f:Addr} {fd:FuncData} (F:zj K "__init__" "Rooms.__init__" Jz f fd) (B:Bl mg) (ak:vh P w K mg base "copied" ["value","depth"] k (zJ (qX 6)) (.int 5)):zG P w K mg base zY (k + 1) f fd ["self","rooms","back","starts","steps","stays"] (wf aRooms (zRX aRooms)):=by
 refine JO F zEt (λds R h=>by obtain ⟨a,b,c,d,e,rfl,_⟩:=h; rfl) λcdv A outer s H E hr=>⟨_,(zL (yM (wl (yi 0) (uP (.int 5) (λ_=>.int 5) ak hr rfl (zB (zA 1) zC)) rfl) wy)
  (zL (yM (wl (yi 0) (zA 2) rfl) wy)
  (zL (yM (wl (yi 0) (uP (.int 5) (λ_=>.int 5) ak hr rfl (zB (zA 3) zC)) rfl) wy)
  (zL (yM (wl (yi 0) (uP (.int 5) (λ_=>.int 5) ak hr rfl (zB (zA 4) zC)) rfl) wy)
  (zP (yM (wl (yi 0) (uP (.int 5) (λ_=>.int 5) ak hr rfl (zB (zA 5) zC)) rfl) wy)))))),λo ds R h=>?_⟩
 obtain ⟨a,b,c,d,e,rfl,f1,f3,f4,f5,q⟩:=h
 refine ⟨a,5,rfl,f1,⟨TRooms.cl,ARooms.n_rooms⟩,by decide +kernel,by decide,rfl,?_⟩
 refine ⟨⟨TRooms.cl,ARooms.n_back⟩,by decide +kernel,by decide,rfl,?_⟩
 refine ⟨c,5,rfl,f3,⟨TRooms.cl,ARooms.n_starts⟩,by decide +kernel,by decide,rfl,?_⟩
 refine ⟨d,5,rfl,f4,⟨TRooms.cl,ARooms.n_steps⟩,by decide +kernel,by decide,rfl,?_⟩
 exact ⟨e,5,rfl,f5,⟨TRooms.cl,ARooms.n_stays⟩,by decide +kernel,by decide,rfl,rfl,q⟩
theorem zF6 {k:Nat} {f:Addr} {fd:FuncData} (F:zj K "settles_over" "settles_over" J2 f fd) (B:Bl mg) (aB:Fn P w K mg base "is_from_0_on" ["value"] k (zJ (WL))) (aA:Fn P w K mg base "is_room" ["value","many"] k (zJ (X5))):zG P w K mg base zY (k + 1) f fd ["claim","many"] (zJ (zRV aSettles)):=by
 refine zx F zFq (λds R h=>by obtain ⟨s,g,t,n,rfl,_⟩:=h; rfl) λcdv A outer s H E hr=>⟨_,(zP (zX (wX (zQ aA hr rfl (zB (yA K (zA 0) rfl) (zB (zA 1) zC))) (wX (zQ aA hr rfl (zB (yA K (zA 0) rfl) (zB (zA 1) zC))) (vk (zQ aB hr rfl (zB (yA K (zA 0) rfl) zC))))))),λds R h=>?_⟩
 obtain ⟨s,g,t,n,rfl,n3,RS,RG,t0,q⟩:=h
 refine ⟨⟨TSettles.cl,ASettles.n_start⟩,_,rfl,_,_,3,rfl,qY (by have:=RS.few; omega) (λr hr=>by rw [(RS.row r hr).1]; omega),wT (by rw [WF λr hr=>by rw [(RS.row r hr).1]; rfl]) ?_⟩
 refine ⟨⟨TSettles.cl,ASettles.n_rows⟩,_,rfl,_,_,3,rfl,qY (by have:=RG.few; omega) (λr hr=>by rw [(RG.row r hr).1]; omega),wT (by rw [WF λr hr=>by rw [(RG.row r hr).1]; rfl]) ?_⟩
 exact ⟨⟨TSettles.cl,ASettles.n_turn⟩,_,rfl,_,rfl,rfl,bR q (decide_eq_true t0).symm⟩
theorem zIQ {k:Nat} {f:Addr} {fd:FuncData} (F:zj K "are_rooms" "are_rooms" WT f fd) (B:Bl mg) (aA:Fn P w K mg base "is_room" ["value","many"] k (zJ (X5))):zG P w K mg base zY (k + 1) f fd ["value","many"] (zJ (zRd)):=by
 refine zx F zIF (λds R h=>by obtain ⟨rooms,n,rfl,_⟩:=h; rfl) λcdv A outer s H E hr=>⟨_,(zP (zX (wX (yO (xi wo rfl B.isinstance_ xo (zi (zA 0) (zi (wj (v:=.ty "list") (u:=.type "list") rfl B.list_ xq rfl) yE))) (wx jC)) (vk (zy (vP rfl) vX rfl B.all_ vQ (zB (yI (own:=["room"]) (caps:=[(1,"many")]) (yB (S:=zK WT) (N:=["value","many"]) rfl (by decide +kernel) rfl ⟨_,rfl⟩ rfl (by decide +kernel) (by decide +kernel)) rfl rfl yD (yP (zA 0)) (λ_ _ _ _=>(zq 0 (show (["room","many"]:List Str).Nodup by decide +kernel) rfl (Or.inl rfl))) (λ_ _ _ _=>(zQ aA hr rfl (zB (zA 0) (zB (zA 1) zC))))) zC)))))),λds R h=>?_⟩
 obtain ⟨rooms,n,rfl,RR,n3,q⟩:=h
 have few:=RR.few
 refine ⟨rfl,wT rfl (xc Rm jj Yd (λ_=>.bool true) (by omega) (λr hr=>?_) ⟨rooms.map λ_=>true,by rw [List.map_map]; rfl,bR q ?_⟩)⟩
 ·have h:=RR.rm r hr
  refine ⟨_,_,3,rfl,qY (by have:=h.few; omega) (λr hr=>by rw [(h.row r hr).1]; omega),?_⟩
  rw [WF λr hr=>by rw [(h.row r hr).1]; rfl]
 ·rw [List.all_map]
  exact (List.all_eq_true.mpr λ_ _=>rfl).symm
theorem zF7 {k:Nat} {f:Addr} {fd:FuncData} (F:zj K "rooms_follow" "rooms_follow" WU f fd) (B:Bl mg) (av:Fn P w K mg base "is_list_of" ["value","count"] k (zJ (YZ))) (bF:Fn P w K mg base "leads" ["thing","room","behind","steps"] k (zJ (zO0 ah ag))):zG P w K mg base zY (k + 1) f fd ["thing","paper"] (zJ (zMo ah ag aRooms)):=by
 refine zx F zDh (λds R h=>by obtain ⟨n,bs,ms,rooms,b,A1,A2,A3,k,rfl,_⟩:=h; rfl) λcdv A outer s H E hr=>⟨_,(zL (yR (xF (yc (zQ av hr rfl (zB (yA K (zA 1) rfl) (zB (zy yf yo rfl B.len_ yh (zB (yA K (zA 1) rfl) zC)) zC))))) (zP (zX xk)) yQ)
  (zL (zv 2 zDh.nd rfl (Or.inl rfl) (zr (xP (yA K (zA 1) rfl) (xO zF) xN) (y8 (zB (zV (yA K (zA 1) rfl) (yA K (zA 1) rfl) (λ_ _=>rfl)) zC))))
  (zP (zX (zy (vP rfl) vX rfl B.all_ vQ (zB (yI (own:=["room","behind","steps"]) (caps:=[(0,"thing")]) (yB (S:=zK WU) (N:=["thing","paper","following"]) rfl (by decide +kernel) rfl ⟨_,rfl⟩ rfl (by decide +kernel) (by decide +kernel)) rfl rfl (qL (vZ (vZ (vZ qO)))) (zNn rfl B.zip_ (zB (yA K (zA 1) rfl) (zB (zA 2) (zB (yA K (zA 1) rfl) zC)))) (λ_ _ _ _=>(wK rfl (zw 0 (show (["room","behind","steps","thing"]:List Str).Nodup by decide +kernel) rfl (Or.inl rfl) (zw 1 (show (["room","behind","steps","thing"]:List Str).Nodup by decide +kernel) rfl (Or.inl rfl) (zw 2 (show (["room","behind","steps","thing"]:List Str).Nodup by decide +kernel) rfl (Or.inl rfl) wJ))))) (λ_ _ _ _=>(zQ bF hr rfl (zB (zA 3) (zB (zA 0) (zB (zA 1) (zB (zA 2) zC))))))) zC)))))),λds R h=>?_⟩
 obtain ⟨n,bs,ms,rooms,b,A1,A2,A3,k,rfl,TS,RR,b0,bl,F2,B2,q⟩:=h
 have few:=RR.few
 have lm:(List.map Rm rooms).length=rooms.length:=List.length_map ..
 refine ⟨⟨TRooms.cl,ARooms.n_steps⟩,_,rfl,⟨TRooms.cl,ARooms.n_rooms⟩,_,rfl,A2,_,k,rfl,F2,w2 (λc1=>bR q (zK6 (by rw [lm] at c1; exact gc c1))) λc1=>?_⟩
 rw [lm] at c1
 obtain ⟨as,rfl,la⟩:=WK (gf c1)
 obtain ⟨es,e1,le,j,rfl,hj⟩:=F2.lst_inv rfl
 cases e1
 have B2:=B2 as rfl
 have ef:D.lst (zf (rooms.map Rm) (some 1) none++[Rm (rooms.getD b.toNat [])])=vc (rooms.drop 1++[rooms.getD b.toNat []]):=by
  unfold vc
  rw [gk (by decide),List.map_append,List.map_drop]
  rfl
 have hf:∀ r∈rooms.drop 1++[rooms.getD b.toNat []],wN r n:=λr hr=>by
  rcases List.mem_append.mp hr with hr | hr
  ·exact RR.rm r (List.mem_of_mem_drop hr)
  ·rw [List.mem_singleton.mp hr]
   exact RR.rm _ (Jx (by omega))
 refine ⟨⟨TRooms.cl,ARooms.n_rooms⟩,_,rfl,⟨TRooms.cl,ARooms.n_rooms⟩,_,rfl,⟨TRooms.cl,ARooms.n_back⟩,_,rfl,_,Ye b0 bl,k0,by rw [gk (by decide),List.length_drop,lm]; show _ + 1<=1000; omega,?_⟩
 rw [ef]
 refine ⟨⟨TRooms.cl,ARooms.n_rooms⟩,_,rfl,⟨TRooms.cl,ARooms.n_steps⟩,_,rfl,?_⟩
 refine zl.cast (zOa Rm Rm rooms (rooms.drop 1++[rooms.getD b.toNat []]) as) (xc (λp:List (List Int) × List (List Int) × D=>YL (Rm p.1) (Rm p.2.1) p.2.2) (λd=>match d with | .tup [x,y,z]=>(jj x,jj y,z) | _=>([],[],.non)) (λp=>by show (jj (Rm p.1),jj (Rm p.2.1),p.2.2)=p; rw [Yd,Yd]) (λp=>.bool (qd n bs ms p.1 p.2.1 p.2.2)) (by rw [List.length_zip]; omega) (λp hp=>?_) ⟨(rooms.zip ((rooms.drop 1++[rooms.getD b.toNat []]).zip as)).map λp=>qd n bs ms p.1 p.2.1 p.2.2,by rw [List.map_map]; rfl,bR q ?_⟩)
 ·have h1:=(List.of_mem_zip hp).1
  have h2:=List.of_mem_zip (List.of_mem_zip hp).2
  exact ⟨n,bs,ms,p.1,p.2.1,p.2.2,j,rfl,TS,RR.rm _ h1,hf _ h2.1,hj _ h2.2,B2 _ h2.2,rfl⟩
 ·rw [v9]
  show (decide _ && _)=_
  rw [decide_eq_true la]
  rfl
theorem zHc {k:Nat} {f:Addr} {fd:FuncData} (F:zj K "rooms_stay" "rooms_stay" WV f fd) (B:Bl mg) (av:Fn P w K mg base "is_list_of" ["value","count"] k (zJ (YZ))) (aE:Fn P w K mg base "each_shown" ["rows","targets","shares"] k (zJ (WM))):zG P w K mg base zY (k + 1) f fd ["claim","paper"] (zJ (zRT aSettles aRooms)):=by
 refine zx F zEQ (λds R h=>by obtain ⟨n,s,g,t,rooms,b,A1,A2,A3,k,rfl,_⟩:=h; rfl) λcdv A outer s H E hr=>⟨_,(zL (yR (xF (yc (zQ av hr rfl (zB (yA K (zA 1) rfl) (zB (zy yf yo rfl B.len_ yh (zB (yA K (zA 1) rfl) zC)) zC))))) (zP (zX xk)) yQ)
  (zL (zv 2 zEQ.nd rfl (Or.inl rfl) (zy (KF rfl) zM1 rfl B.min_ zIg (zB (yA K (zA 1) rfl) (zB (yA K (zA 0) rfl) zC))))
  (zP (zX (zy (vP rfl) vX rfl B.all_ vQ (zB (yI (own:=["room","shares"]) (caps:=[(0,"claim")]) (yB (S:=zK WV) (N:=["claim","paper","first"]) rfl (by decide +kernel) rfl ⟨_,rfl⟩ rfl (by decide +kernel) (by decide +kernel)) rfl rfl (qL (vZ (vZ qO))) (qN rfl B.zip_ (zB (xP (yA K (zA 1) rfl) (xO (zA 2)) xN) (zB (xP (yA K (zA 1) rfl) (xO (zA 2)) xN) zC))) (λ_ _ _ _=>(wK rfl (zw 0 (show (["room","shares","claim"]:List Str).Nodup by decide +kernel) rfl (Or.inl rfl) (zw 1 (show (["room","shares","claim"]:List Str).Nodup by decide +kernel) rfl (Or.inl rfl) wJ)))) (λ_ _ _ _=>(zQ aE hr rfl (zB (zA 0) (zB (yA K (zA 2) rfl) (zB (zA 1) zC)))))) zC)))))),λds R h=>?_⟩
 obtain ⟨n,s,g,t,rooms,b,A1,A2,A3,k,rfl,n3,RR,RG,t0,b0,F3,B3,q⟩:=h
 have few:=RR.few
 have lm:(List.map Rm rooms).length=rooms.length:=List.length_map ..
 refine ⟨⟨TRooms.cl,ARooms.n_stays⟩,_,rfl,⟨TRooms.cl,ARooms.n_rooms⟩,_,rfl,A3,_,k,rfl,F3,w2 (λc1=>bR q (zNZ (by rw [lm] at c1; exact gc c1))) λc1=>?_⟩
 rw [lm] at c1
 obtain ⟨as,rfl,la⟩:=WK (gf c1)
 obtain ⟨es,e1,le,j,rfl,hj⟩:=F3.lst_inv rfl
 cases e1
 have B3:=B3 as rfl
 have m0:0<=min b t:=by omega
 refine ⟨⟨TRooms.cl,ARooms.n_back⟩,_,rfl,⟨TSettles.cl,ASettles.n_turn⟩,_,rfl,⟨TRooms.cl,ARooms.n_rooms⟩,_,rfl,⟨TRooms.cl,ARooms.n_stays⟩,_,rfl,?_⟩
 refine zl.cast (ds':=List.zipWith xb ((rooms.drop (min b t).toNat).map Rm) (as.drop (min b t).toNat)) (by rw [gk m0,gk m0,<- List.map_drop]) (Jp Rm jj Yd (λr a=>uf r g n a) (by rw [List.length_drop]; omega) (λr a hm=>?_) ⟨_,rfl,bR q ?_⟩)
 ·have h1:=List.mem_of_mem_drop (List.of_mem_zip hm).1
  have h2:=List.mem_of_mem_drop (List.of_mem_zip hm).2
  exact ⟨⟨TSettles.cl,ASettles.n_rows⟩,_,rfl,r,g,n,a,j,rfl,(RR.rm r h1).rw n3,RG.rw n3,hj a h2,B3 a h2,rfl⟩
 ·rw [v9]
  show (decide _ && _)=_
  rw [decide_eq_true la]
  rfl
theorem zFX {k:Nat} {f:Addr} {fd:FuncData} (F:zj K "lets_rooms_by" "lets_rooms_by" J5 f fd) (B:Bl mg) (bG:Fn P w K mg base "are_rooms" ["value","many"] k (zJ (zRd))) (bH:Fn P w K mg base "settles_over" ["claim","many"] k (zJ (zRV aSettles))) (aB:Fn P w K mg base "is_from_0_on" ["value"] k (zJ (WL))) (aE:Fn P w K mg base "each_shown" ["rows","targets","shares"] k (zJ (WM))) (bI:Fn P w K mg base "rooms_stay" ["claim","paper"] k (zJ (zRT aSettles aRooms))) (bJ:Fn P w K mg base "rooms_follow" ["thing","paper"] k (zJ (zMo ah ag aRooms))):zG P w K mg base zY (k + 1) f fd ["thing","claim","paper"] (zJ (WS ah ag aSettles aRooms)):=by
 refine zx F zFS (λds R h=>by obtain ⟨n,bs,ms,s,g,t,rooms,BK,A1,A2,A3,k,rfl,_⟩:=h; rfl) λcdv A outer s H E hr=>⟨_,(zL (yR (PW.pt (wI (xF (yc (zQ bH hr rfl (zB (zA 1) (zB (yA K (zA 0) rfl) zC))))) (we (xF (yc (zQ bG hr rfl (zB (yA K (zA 2) rfl) (zB (yA K (zA 0) rfl) zC)))))))) (zP (zX xk)) yQ)
  (zL (yR (PW.pt (wI (xF (yc (zQ aB hr rfl (zB (yA K (zA 2) rfl) zC)))) (we (Xn (yA K (zA 2) rfl) (zy yf yo rfl B.len_ yh (zB (yA K (zA 2) rfl) zC)))))) (zP (zX xk)) yQ)
  (zL (yR (xF (yc (zQ aE hr rfl (zB (yA K (zA 1) rfl) (zB (zV (yA K (zA 2) rfl) zF (λ_ _=>rfl)) (zB (yA K (zA 2) rfl) zC)))))) (zP (zX xk)) yQ)
  (zP (zX (wX (zQ bJ hr rfl (zB (zA 0) (zB (zA 2) zC))) (vk (zQ bI hr rfl (zB (zA 1) (zB (zA 2) zC)))))))))),λds R h=>?_⟩
 obtain ⟨n,bs,ms,s,g,t,rooms,BK,A1,A2,A3,k,rfl,TS,RS,RG,t0,RR,bo,F1,F2,F3,B1,B2,B3,cl,q⟩:=h
 have n3:=TS.ok.n3
 have lm:(List.map Rm rooms).length=rooms.length:=List.length_map ..
 refine ⟨⟨ac.cl,ae.n_many⟩,_,rfl,s,g,t,n,rfl,n3,RS,RG,t0,wF rfl ?_⟩
 refine ⟨⟨TRooms.cl,ARooms.n_rooms⟩,_,rfl,⟨ac.cl,ae.n_many⟩,_,rfl,rooms,n,rfl,RR,n3,wF rfl ?_⟩
 refine ⟨⟨TRooms.cl,ARooms.n_back⟩,_,rfl,BK,rfl,bo,w2 (λc1=>wT rfl (bR q ?_)) λc1=>?_⟩
 ·have c1:=gc c1
  cases BK with
  | int b=>exact if_pos (.inl (by have:=of_decide_eq_false c1; omega))
  | _=>rfl
 obtain ⟨b,rfl,b0⟩:∃ b,BK=.int b/\0<=b:=by
  have c1:=gf c1
  cases BK with
  | int b=>exact ⟨b,rfl,of_decide_eq_true c1⟩
  | _=>cases c1
 refine ⟨⟨TRooms.cl,ARooms.n_back⟩,_,rfl,⟨TRooms.cl,ARooms.n_rooms⟩,_,rfl,w2 (λc2=>bR q (if_pos (.inr (by have:=of_decide_eq_true c2; omega)))) λc2=>?_⟩
 have bl:b < (rooms.length:Int):=by have:=of_decide_eq_false c2; omega
 have z:uA n bs ms s g t rooms (.int b) A1 A2 A3=(uf s (rooms.getD 0 []) n A1 && (gg n bs ms rooms b.toNat A2 && gh n rooms (min b t).toNat g A3)):=if_neg (by omega)
 rw [z] at q
 refine ⟨⟨TSettles.cl,ASettles.n_start⟩,_,rfl,⟨TRooms.cl,ARooms.n_rooms⟩,_,rfl,_,Ye (b:=0) (by decide) (by omega),⟨TRooms.cl,ARooms.n_starts⟩,_,rfl,s,rooms.getD 0 [],n,A1,k,rfl,RS.rw n3,(RR.rm _ (Jx (by omega))).rw n3,F1,B1,w2 (λc3=>bR q (by rw [gc c3]; rfl)) λc3=>?_⟩
 rw [gf c3] at q
 refine ⟨n,bs,ms,rooms,b,A1,A2,A3,k,rfl,TS,RR,b0,bl,F2,B2,w2 (λc4=>?_) λc4=>bR q (by rw [c4]; rfl)⟩
 rw [c4] at q
 exact ⟨n,s,g,t,rooms,b,A1,A2,A3,k,rfl,n3,RR,RG,t0,b0,F3,B3,q⟩
theorem zKo {k:Nat} {f:Addr} {fd:FuncData} (F:zj K "lets_by" "lets_by" J7 f fd) (B:Bl mg) (bK:Fn P w K mg base "ask_closed" ["thing"] k (zJ (zGu ah ag))) (bL:Fn P w K mg base "lets_rooms_by" ["thing","claim","paper"] k (zJ (WS ah ag aSettles aRooms))) (bN:Fn P w K mg base "lets_fall_by" ["thing","claim","paper"] k (zJ fNo)):zG P w K mg base zY (k + 1) f fd ["thing","claim","paper"] (zJ (WS ah ag aSettles aRooms)):=by
 refine zx F zKe (λds R h=>by obtain ⟨n,bs,ms,s,g,t,rooms,BK,A1,A2,A3,k,rfl,_⟩:=h; rfl) λcdv A outer s H E hr=>⟨_,(zL (zNm (zQ bK hr rfl (zB (zA 0) zC)))
  (zL (yR (PW.pt (zLo (yc (yO (xi ZI rfl B.isinstance_ xo (zi (zA 1) (zi (ZH TSettles rfl) yE))) YD)) (zJm (yc (yO (xi ZI rfl B.isinstance_ xo (zi (zA 2) (zi (ZH TRooms rfl) yE))) YD))))) (zP (zX (zQ bL hr rfl (zB (zA 0) (zB (zA 1) (zB (zA 2) zC)))))) yQ)
  (zL (yR (PW.pt (zLo (yc (yO (xi ZI rfl B.isinstance_ xo (zi (zA 1) (zi (ZH TComes rfl) yE))) YD)) (zJm (yc (yO (xi ZI rfl B.isinstance_ xo (zi (zA 2) (zi (ZH TFalls rfl) yE))) YD))))) (zP (zX (zQ bN hr rfl (zB (zA 0) (zB (zA 1) (zB (zA 2) zC)))))) yQ)
  (zP (zX xk))))),λds R h=>?_⟩
 obtain ⟨n,bs,ms,s,g,t,rooms,BK,A1,A2,A3,k,rfl,TS,RS,RG,t0,RR,bo,F1,F2,F3,B1,B2,B3,cl,q⟩:=h
 refine ⟨n,bs,ms,rfl,TS.ok,cl,?_⟩
 refine ⟨⟨_,_,TSettles⟩,_,Uh,wT rfl ?_⟩
 refine ⟨⟨_,_,TRooms⟩,_,Uh,wT rfl ?_⟩
 exact ⟨n,bs,ms,s,g,t,rooms,BK,A1,A2,A3,k,rfl,TS,RS,RG,t0,RR,bo,F1,F2,F3,B1,B2,B3,cl,q⟩
end
theorem zLX {n:Nat} {bs:List (Int × Int)} {rows:List (List Int)} (h:∀ r∈rows,r.length=n + 1):∀ r∈jZ n bs rows,r.length=n + bs.length + 1:=λr hr=>by
 rcases List.mem_append.mp hr with hr | hr
 ·obtain ⟨q,hq,rfl⟩:=List.mem_map.mp hr
  have:=h q hq
  unfold wH
  simp
  omega
 ·obtain ⟨l,hl,hr⟩:=List.mem_flatten.mp hr
  obtain ⟨i,hi,rfl⟩:=List.mem_mapIdx.mp hl
  rcases List.mem_cons.mp hr with rfl | hr
  ·rw [List.length_append,u6]; rfl
  ·rw [List.mem_singleton.mp hr,List.length_append,u6]; rfl
theorem zKb {n p:Nat} {T B rows:List (List Int)} {tw:List Int} {a:D} (h:TB n T B) (hr:∀ r∈rows,r.length=n + p + 1) (ht:tw.length=n + p + 1):uo (rows.map (zb n B)) (zb n B tw) (n + p) a=uo rows tw (n + p) a:=by
 unfold uo
 split
 ·rw [List.length_map,zKa h hr ht]
 ·rfl
theorem J8 {n p:Nat} {T B rows tws:List (List Int)} {a:D} (h:TB n T B) (hr:∀ r∈rows,r.length=n + p + 1) (ht:∀ r∈tws,r.length=n + p + 1):uf (rows.map (zb n B)) (tws.map (zb n B)) (n + p) a=uf rows tws (n + p) a:=by
 cases a with
 | lst as=>
  show (decide _ && _)=(decide _ && _)
  rw [List.length_map]
  congr 1
  rw [List.zip_map_left,List.all_map]
  rw [Bool.eq_iff_iff,List.all_eq_true,List.all_eq_true]
  refine forall_congr' λq=>forall_congr' λhq=>?_
  have:=zKb (a:=q.2) h hr (ht q.1 (List.of_mem_zip hq).1)
  show uo (rows.map (zb n B)) (zb n B q.1) (n + p) q.2=true ↔ _
  rw [this]
 | _=>rfl
theorem zH6 {n:Nat} {B:List (List Int)} {r:List Int}:(zb n B r).take n=fB n B (r.take n):=by
 unfold zb fB
 rw [List.take_append_of_le_length (by rw [List.length_map,List.length_range]; exact Nat.le_refl _),List.take_of_length_le (by rw [List.length_map,List.length_range]; exact Nat.le_refl _)]
structure TM (n p:Nat) (T B:List (List Int)) (m m':MD):Prop where
 rows:m'.rows=m.rows.map (zb n B)
 nexts:m'.nexts=yJ (yJ T m.nexts n) B n
 push:m'.push=yJ T m.push p
 add:m'.add=T.map λq=>zN q m.add
 div:m'.div=m.div
theorem zNj {n p:Nat} {T B:List (List Int)} {m m':MD} {ws:List Int} {b:Int} (h:TB n T B) (t:TM n p T B m m') (o:xH m n p) (lw:ws.length=n):vn n p (fB n B ws) b m'=zb n B (vn n p ws b m):=by
 have:=zKj (b:=b) (d:=m.div) h lw o.nexts.1 o.nexts.2 o.push.1 o.push.2 o.add
 unfold vn
 rw [t.nexts,t.push,t.add,t.div]
 exact this
theorem zJE {n:Nat} {bs:List (Int × Int)} {T B room behind:List (List Int)} {m m':MD} {a:D} (h:TB n T B) (t:TM n bs.length T B m m') (o:xH m n bs.length) (h1:∀ r∈room,r.length=n + 1) (h2:∀ r∈behind,r.length=n + 1) :
  ga n bs (room.map (zb n B)) (behind.map (zb n B)) m' a=ga n bs room behind m a:=by
 unfold ga
 have hR:∀ r∈room++m.rows,r.length=n + 1:=λr hr=>(List.mem_append.mp hr).elim (h1 r) (o.rows r)
 have e2:qc n bs.length m' (behind.map (zb n B))=(qc n bs.length m behind).map (zb n B):=by
  unfold qc
  rw [List.map_map,List.map_map]
  refine List.map_congr_left λr hr=>?_
  show vn n bs.length ((zb n B r).take n) ((zb n B r).getD n 0) m'=zb n B (vn n bs.length (r.take n) (r.getD n 0) m)
  rw [zH6,Xd (Nat.le_refl n)]
  exact zNj h t o (by have:=h2 r hr; rw [List.length_take]; omega)
 rw [t.rows,<- List.map_append,zKZ hR,e2]
 exact J8 h (zLX hR) (λr hr=>by
  obtain ⟨q,_,rfl⟩:=List.mem_map.mp hr
  exact zIG ..)
theorem zFO {α β γ:Type} {f:α->β->Bool} {g:γ->β->Bool} {R:α->γ->Prop}:∀ {xs:List α} {ys:List γ} (as:List β),Paired R xs ys->(∀ x y,R x y->∀ b,f x b=g y b)->((xs.zip as).all λp=>f p.1 p.2)=((ys.zip as).all λp=>g p.1 p.2)
 | _,_,[],.nil,_=>rfl
 | _,_,_ :: _,.nil,_=>rfl
 | _,_,[],.cons _ _,_=>rfl
 | _,_,b :: as,.cons h t,k=>by
  rw [List.zip_cons_cons,List.zip_cons_cons,List.all_cons,List.all_cons,zFO as t k,k _ _ h b]
def J9 (n p:Nat) (T B:List (List Int)) (ms ms':List MD):Prop:=Paired (λm' m=>TM n p T B m m'/\xH m n p) ms' ms
theorem zK3 {n:Nat} {bs:List (Int × Int)} {T B room behind:List (List Int)} {ms ms':List MD} {a:D} (h:TB n T B) (t:J9 n bs.length T B ms ms') (h1:∀ r∈room,r.length=n + 1) (h2:∀ r∈behind,r.length=n + 1) :
  qd n bs ms' (room.map (zb n B)) (behind.map (zb n B)) a=qd n bs ms room behind a:=by
 cases a with
 | lst as=>
  show (decide _ && _)=(decide _ && _)
  rw [Paired.length t]
  congr 1
  exact zFO as t λm' m hm b=>zJE h hm.1 hm.2 h1 h2
 | _=>rfl
def yx (T:List (List Int)):Prop:=∀ r∈T,∀ x∈r,Bd 20 x
structure uq (e:Nat) (m:MD):Prop where
 nexts:∀ r∈m.nexts,∀ x∈r,Bd e x
 steer:∀ x∈m.steer,Bd e x
 push:∀ r∈m.push,∀ x∈r,Bd e x
 add:∀ x∈m.add,Bd e x
 div:Bd e m.div
 rows:∀ r∈m.rows,∀ x∈r,Bd e x
 few:m.rows.length<=100
theorem uq.ms {e:Nat} {m:MD} (h:uq e m) (k:e<=300):MS m:=⟨λr hr x hx=>(h.nexts r hr x hx).mono k,λr hr x hx=>(h.push r hr x hx).mono k,λx hx=>(h.add x hx).mono k,h.div.mono k,λr hr x hx=>(h.rows r hr x hx).mono k,h.few⟩
def vd (n w:Nat) (T B:List (List Int)) (m:MD):MD:=⟨m.rows.map (zb n B),yJ (yJ T m.nexts n) B n,T.map λq=>zN q m.steer,yJ T m.push w,T.map λq=>zN q m.add,m.div⟩
theorem qi {T O:List (List Int)} {w:Nat}:(yJ T O w).length=T.length:=List.length_map ..
theorem jk {T O:List (List Int)} {w:Nat}:∀ r∈yJ T O w,r.length=w:=λr hr=>by
 obtain ⟨q,_,rfl⟩:=List.mem_map.mp hr
 rw [List.length_map,List.length_range]
theorem WW {T O:List (List Int)} {w a b l:Nat} (hl:∀ r∈T,r.length<=l) (hT:∀ r∈T,∀ x∈r,Bd a x) (hO:∀ r∈O,∀ x∈r,Bd b x):∀ r∈yJ T O w,∀ x∈r,Bd (a + b + l + 1) x:=λr hr x hx=>by
 obtain ⟨q,hq,rfl⟩:=List.mem_map.mp hr
 obtain ⟨j,_,rfl⟩:=List.mem_map.mp hx
 exact (YX (hT q hq) hO).mono (by have:=hl q hq; omega)
theorem zPC {n b:Nat} {B:List (List Int)} {r:List Int} (lr:r.length=n + 1) (n3:n<=3) (hr:∀ x∈r,Bd b x) (hB:yx B):∀ x∈zb n B r,Bd (b + 25) x:=λx hx=>by
 rcases List.mem_append.mp hx with hx | hx
 ·obtain ⟨j,_,rfl⟩:=List.mem_map.mp hx
  exact (YX (λy hy=>hr y (List.mem_of_mem_take hy)) hB).mono (by rw [List.length_take]; omega)
 ·exact (hr x (List.mem_of_mem_drop hx)).mono (by omega)
theorem QA {n w:Nat} {T B:List (List Int)} {m:MD} (h:TB n T B) (o:xH m n w):xH (vd n w T B m) n w where
 rows:=λr hr=>by
  obtain ⟨q,hq,rfl⟩:=List.mem_map.mp hr
  rw [zH8 (by rw [o.rows q hq]; omega)]
  exact o.rows q hq
 few:=by show (m.rows.map _).length<=900; rw [List.length_map]; exact o.few
 nexts:=⟨by show (yJ _ _ _).length=n; rw [qi,qi]; exact h.tl,jk⟩
 steer:=by show (T.map _).length=n; rw [List.length_map]; exact h.tl
 push:=⟨by show (yJ _ _ _).length=n; rw [qi]; exact h.tl,jk⟩
 add:=by show (T.map _).length=n; rw [List.length_map]; exact h.tl
 div:=o.div
 n3:=o.n3
 p6:=o.p6
theorem zQJ {n w:Nat} {T B:List (List Int)} {m:MD} (h:TB n T B) (o:xH m n w) (hT:yx T) (hB:yx B) (k:uq 200 m):uq 260 (vd n w T B m) where
 nexts:=λr hr x hx=>by
  have n3:=o.n3
  exact (WW (l:=3) (λq hq=>by rw [jk q hq]; omega) (WW (l:=3) (λq hq=>by rw [h.tr q hq]; omega) hT k.nexts) hB r hr x hx).mono
 steer:=λx hx=>by
  have n3:=o.n3
  obtain ⟨q,hq,rfl⟩:=List.mem_map.mp hx
  exact (YW (hT q hq) k.steer).mono (by rw [h.tr q hq]; omega)
 push:=λr hr x hx=>by
  have n3:=o.n3
  exact (WW (l:=3) (λq hq=>by rw [h.tr q hq]; omega) hT k.push r hr x hx).mono
 add:=λx hx=>by
  have n3:=o.n3
  obtain ⟨q,hq,rfl⟩:=List.mem_map.mp hx
  exact (YW (hT q hq) k.add).mono (by rw [h.tr q hq]; omega)
 div:=k.div.mono
 rows:=λr hr x hx=>by
  obtain ⟨q,hq,rfl⟩:=List.mem_map.mp hr
  exact (zPC (o.rows q hq) o.n3 (k.rows q hq) hB x hx).mono
 few:=by show (m.rows.map _).length<=100; rw [List.length_map]; exact k.few
theorem zQI {n:Nat} {bs:List (Int × Int)} {T B:List (List Int)} {ms:List MD} (o:∀ m∈ms,xH m n bs.length):J9 n bs.length T B ms (ms.map (vd n bs.length T B)):=by
 induction ms with
 | nil=>exact .nil
 | cons m ms ih=>exact .cons ⟨⟨rfl,rfl,rfl,rfl,rfl⟩,o m List.mem_cons_self⟩ (ih λx hx=>o x (List.mem_cons_of_mem _ hx))
theorem zFP:∀ {q z:List Int},(∀ x∈z,x=0)->zN q z=0
 | [],_,_=>by unfold zN; rfl
 | _ :: _,[],_=>by unfold zN; rfl
 | a :: q,b :: z,h=>by
  show a * b + zN q z=0
  rw [h b List.mem_cons_self,zFP λx hx=>h x (List.mem_cons_of_mem _ hx)]
  omega
theorem zLU {n w:Nat} {T B:List (List Int)} {ms:List MD} (h:gY ms=true):gY (ms.map (vd n w T B))=true:=List.all_eq_true.mpr λm' hm=>by
 obtain ⟨m,hm1,rfl⟩:=List.mem_map.mp hm
 refine List.all_eq_true.mpr λx hx=>decide_eq_true ?_
 obtain ⟨q,_,rfl⟩:=List.mem_map.mp hx
 exact zFP λy hy=>of_decide_eq_true (List.all_eq_true.mp (List.all_eq_true.mp h m hm1) y hy)
def QB:FL:=λds R=>∃ T O w,ds=[Tb T,Tb O,.int ((w:Nat):Int)]/\w<=900/\T.length<=900/\(∀ r∈T,r.length<=900/\∀ x∈r,Bd 9000 x)/\(∀ r∈O,w<=r.length/\∀ x∈r,Bd 9000 x)/\R (Tb (yJ T O w))
def zRS:FL:=λds R=>∃ B r n,ds=[Tb B,U r]/\r.length=n + 1/\n<=800/\(∀ x∈r,Bd 9000 x)/\(∀ q∈B,n<=q.length/\∀ x∈q,Bd 9000 x)/\R (U (zb n B r))
def zOx (CM:Addr):FL:=λds R=>∃ m T B n w,ds=[wM CM m,Tb T,Tb B,.int ((w:Nat):Int)]/\TB n T B/\yx T/\yx B/\xH m n w/\uq 270 m/\R (wM CM (vd n w T B m))
def zMl:FL:=λds R=>∃ T B n,ds=[Tb T,Tb B,.int ((n:Nat):Int)]/\TB n T B/\yx T/\yx B/\n<=3/\R (.bool true)
def zMc (C CM:Addr):FL:=λds R=>∃ n bs ms T B,ds=[x9 C CM n bs ms,Tb T,Tb B]/\wp n bs ms/\TB n T B/\yx T/\yx B/\(∀ m∈ms,uq 270 m)/\R (x9 C CM n bs (ms.map (vd n bs.length T B)))
theorem QC (t:List (List Int)):(Tb t).pl 50=true:=List.all_eq_true.mpr λd m=>by
 obtain ⟨r,_,rfl⟩:=List.mem_map.mp m
 exact qK 47 r
theorem zRg {r:List Int} {n:Nat} (h:r.length=n + 1):r.drop n=[r.getD n 0]:=by
 have:=Yb h
 conv=>lhs; rw [this]
 rw [List.drop_append_of_le_length (by rw [List.length_take]; omega),List.drop_eq_nil_of_le (by rw [List.length_take]; omega)]
 rfl
section
variable {P:Program} {w:World} {K:PySem.W.Frag} {mg:Str->Option Value} {base:Heap}
abbrev WX:Stmt:=zp 38
theorem zKd:zh ["table","other","wide"] ["table","other","wide"] (zK WX):=.a
abbrev QD:Stmt:=zp 35
theorem zG8:zh ["back","row"] ["back","row"] (zK QD):=.a
abbrev gl:Stmt:=zp 39
theorem zD5:zh ["mode","there","back","wide","many"] ["mode","there","back","wide"] (zK gl):=.a
abbrev WY:Stmt:=zp 37
theorem zKf:zh ["there","back","many"] ["there","back","many"] (zK WY):=.a
abbrev WZ:Stmt:=zp 36
theorem zID:zh ["thing","there","back","modes"] ["thing","there","back"] (zK WZ):=.a
variable {ag ah aClaim aSettles aComes aPaper aRooms aFalls:Addr} (aa:zE K mg "Mode" ag) (ab:wz K ag) (ac:zE K mg "Thing" ah) (ae:w4 K ah) (TClaim:zE K mg "Claim" aClaim) (AClaim:w6 K aClaim) (TSettles:zE K mg "Settles" aSettles) (ASettles:w8 K aSettles) (TComes:zE K mg "Comes" aComes) (AComes:vA K aComes) (TPaper:zE K mg "Paper" aPaper) (APaper:vB K aPaper) (TRooms:zE K mg "Rooms" aRooms) (ARooms:vC K aRooms) (TFalls:zE K mg "Falls" aFalls) (AFalls:vD K aFalls)
include aa ab ac ae TClaim AClaim TSettles ASettles TComes AComes TPaper APaper TRooms ARooms TFalls AFalls
theorem zKn {k:Nat} {f:Addr} {fd:FuncData} (F:zj K "product" "product" WX f fd) (B:Bl mg) (aq:Fn P w K mg base "added_up" ["numbers","lists","wide"] k (zJ (YR))):zG P w K mg base zY (k + 1) f fd ["table","other","wide"] (zJ (QB)):=by
 refine zx F zKd (λds R h=>by obtain ⟨T,O,w,rfl,_⟩:=h; rfl) λcdv A outer s H E hr=>⟨_,(zP (zX (yI (own:=["numbers"]) (caps:=[(1,"other"),(2,"wide")]) (yB (S:=zK WX) (N:=["table","other","wide"]) rfl (by decide +kernel) rfl ⟨_,rfl⟩ rfl (by decide +kernel) (by decide +kernel)) rfl rfl yD (yP (zA 0)) (λ_ _ _ _=>(zq 0 (show (["numbers","other","wide"]:List Str).Nodup by decide +kernel) rfl (Or.inl rfl))) (λ_ _ _ _=>(zQ aq hr rfl (zB (zA 0) (zB (zA 1) (zB (zA 2) zC)))))))),λds R h=>?_⟩
 obtain ⟨T,O,w,rfl,w9,t9,hT,hO,q⟩:=h
 refine xc L zg uQ (λr=>L ((List.range w).map (zS r O))) (by omega) (λr hr=>⟨_,_,r,O,w,rfl,.inl rfl,.inl rfl,w9,(hT r hr).1,(hT r hr).2,hO,rfl⟩) ?_
 unfold yJ Tb at q
 rw [List.map_map] at q
 exact q
theorem zHb {k:Nat} {f:Addr} {fd:FuncData} (F:zj K "turned_row" "turned_row" QD f fd) (B:Bl mg) (aq:Fn P w K mg base "added_up" ["numbers","lists","wide"] k (zJ (YR))):zG P w K mg base zY (k + 1) f fd ["back","row"] (zJ (zRS)):=by
 refine zx F zG8 (λds R h=>by obtain ⟨B,r,n,rfl,_⟩:=h; rfl) λcdv A outer s H E hr=>⟨_,(zP (zX (zr (xV uX ud rfl B.tuple_ vI (zB (zQ aq hr rfl (zB (xP (zA 1) xN (xO (xl zF))) (zB (zA 0) (zB (xr (zy yf yo rfl B.len_ yh (zB (zA 1) zC)) zF) zC)))) zC)) (x8 (zB (zV (zA 1) (xl zF) (λ_ _=>rfl)) zC))))),λds R h=>?_⟩
 obtain ⟨B,r,n,rfl,lr,n8,br,bB,q⟩:=h
 refine ⟨_,_,r.take n,B,n,by rw [vo lr,List.length_map,lr,show ((n + 1:Nat):Int) - 1=(n:Int) by omega],.inr rfl,.inl rfl,by omega,by rw [List.length_take]; omega,λx hx=>br x (List.mem_of_mem_take hx),bB,?_⟩
 refine ⟨_,qe lr,k0,by rw [List.length_map,List.length_map,List.length_range]; show _ + 1<=1000; omega,?_⟩
 unfold zb U at q
 rw [List.map_append,zRg lr] at q
 exact q
theorem zGf {k:Nat} {f:Addr} {fd:FuncData} (F:zj K "turned_mode" "turned_mode" gl f fd) (B:Bl mg) (aL:uI P w K mg base ag ["self","rows","nexts","steer","push","add","divisor"] k (wf ag (Jd ag))) (aJ:Fn P w K mg base "paired" ["numbers","others"] (k + 1) (zJ (JY))) (aG:Fn P w K mg base "product" ["table","other","wide"] (k + 1) (zJ (QB))) (bO:Fn P w K mg base "turned_row" ["back","row"] (k + 1) (zJ (zRS))):zG P w K mg base zY (k + 1 + 1) f fd ["mode","there","back","wide"] (zJ (zOx ag)):=by
 refine zx F zD5 (λds R h=>by obtain ⟨m,T,B,n,w,rfl,_⟩:=h; rfl) λcdv A outer s H E hr=>⟨_,(zL (zv 4 zD5.nd rfl (Or.inl rfl) (zy yf yo rfl B.len_ yh (zB (zA 1) zC)))
  (zP (zX (jf aL aa hr rfl (zB (yI (own:=["row"]) (caps:=[(2,"back")]) (yB (S:=zK gl) (N:=["mode","there","back","wide","many"]) rfl (by decide +kernel) rfl ⟨_,rfl⟩ rfl (by decide +kernel) (by decide +kernel)) rfl rfl yD (yP (yA K (zA 0) rfl)) (λ_ _ _ _=>(zq 0 (show (["row","back"]:List Str).Nodup by decide +kernel) rfl (Or.inl rfl))) (λ_ _ _ _=>(zQ bO hr rfl (zB (zA 1) (zB (zA 0) zC))))) (zB (zQ aG hr rfl (zB (zQ aG hr rfl (zB (zA 1) (zB (yA K (zA 0) rfl) (zB (zA 4) zC)))) (zB (zA 2) (zB (zA 4) zC)))) (zB (yI (own:=["numbers"]) (caps:=[(0,"mode")]) (yB (S:=zK gl) (N:=["mode","there","back","wide","many"]) rfl (by decide +kernel) rfl ⟨_,rfl⟩ rfl (by decide +kernel) (by decide +kernel)) rfl rfl yD (yP (zA 1)) (λ_ _ _ _=>(zq 0 (show (["numbers","mode"]:List Str).Nodup by decide +kernel) rfl (Or.inl rfl))) (λ_ _ _ _=>(zQ aJ hr rfl (zB (zA 0) (zB (yA K (zA 1) rfl) zC))))) (zB (zQ aG hr rfl (zB (zA 1) (zB (yA K (zA 0) rfl) (zB (zA 3) zC)))) (zB (yI (own:=["numbers"]) (caps:=[(0,"mode")]) (yB (S:=zK gl) (N:=["mode","there","back","wide","many"]) rfl (by decide +kernel) rfl ⟨_,rfl⟩ rfl (by decide +kernel) (by decide +kernel)) rfl rfl yD (yP (zA 1)) (λ_ _ _ _=>(zq 0 (show (["numbers","mode"]:List Str).Nodup by decide +kernel) rfl (Or.inl rfl))) (λ_ _ _ _=>(zQ aJ hr rfl (zB (zA 0) (zB (yA K (zA 1) rfl) zC))))) (zB (yA K (zA 0) rfl) zC)))))))))),λds R h=>?_⟩
 obtain ⟨m,T,B,n,w,rfl,tb,hT,hB,o,k,q⟩:=h
 have n3:=o.n3
 have p6:=o.p6
 have tl:=tb.tl
 have kf:=k.few
 have o2:=QA tb o
 have bT:∀ r∈T,r.length<=900/\∀ x∈r,Bd 9000 x:=λr hr=>⟨by rw [tb.tr r hr]; omega,λx hx=>(hT r hr x hx).mono⟩
 have bB:∀ r∈B,n<=r.length/\∀ x∈r,Bd 9000 x:=λr hr=>⟨by rw [tb.br r hr]; omega,λx hx=>(hB r hr x hx).mono⟩
 have lT:(List.map L T).length=T.length:=List.length_map ..
 refine ⟨⟨aa.cl,ab.n_rows⟩,_,rfl,?_⟩
 refine xc U zg jG (λr=>U (zb n B r)) (by omega) (λr hr=>⟨B,r,n,rfl,o.rows r hr,by omega,λx hx=>(k.rows r hr x hx).mono,bB,rfl⟩) ?_
 rw [Jq (zb n B)]
 refine ⟨⟨aa.cl,ab.n_nexts⟩,_,rfl,T,m.nexts,n,by rw [lT,tl],by omega,by omega,bT,λr hr=>⟨by rw [o.nexts.2 r hr]; omega,λx hx=>(k.nexts r hr x hx).mono⟩,?_⟩
 refine ⟨yJ T m.nexts n,B,n,by rw [lT,tl],by omega,by rw [qi]; omega,λr hr=>⟨by rw [jk r hr]; omega,λx hx=>(WW (l:=3) (λq hq=>by rw [tb.tr q hq]; omega) hT k.nexts r hr x hx).mono⟩,bB,?_⟩
 refine xc L zg uQ (λr=>.int (zN r m.steer)) (by omega) (λr hr=>⟨⟨aa.cl,ab.n_steer⟩,_,rfl,_,_,r,m.steer,rfl,.inl rfl,.inl rfl,(bT r hr).1,(bT r hr).2,λx hx=>(k.steer x hx).mono,rfl⟩) ?_
 refine ⟨⟨aa.cl,ab.n_push⟩,_,rfl,T,m.push,w,rfl,by omega,by omega,bT,λr hr=>⟨by rw [o.push.2 r hr]; omega,λx hx=>(k.push r hr x hx).mono⟩,?_⟩
 refine xc L zg uQ (λr=>.int (zN r m.add)) (by omega) (λr hr=>⟨⟨aa.cl,ab.n_add⟩,_,rfl,_,_,r,m.add,rfl,.inl rfl,.inl rfl,(bT r hr).1,(bT r hr).2,λx hx=>(k.add x hx).mono,rfl⟩) ?_
 have e1:∀ z:List Int,D.lst (T.map λr=>.int (zN r z))=L (T.map λr=>zN r z):=λz=>by unfold L; rw [List.map_map]; rfl
 rw [e1,e1]
 refine ⟨⟨aa.cl,ab.n_divisor⟩,_,rfl,_,_,_,_,_,_,rfl,qY o2.few (λr hr=>by rw [o2.rows r hr]; omega),jh (by rw [qi,qi]; omega) (λr hr=>by rw [jk r hr]; omega),vb (by rw [List.length_map]; omega),jh (by rw [qi]; omega) (λr hr=>by rw [jk r hr]; omega),vb (by rw [List.length_map]; omega),q⟩
theorem zKu {k:Nat} {f:Addr} {fd:FuncData} (F:zj K "is_turn" "is_turn" WY f fd) (B:Bl mg) (aD:Fn P w K mg base "is_table" ["value","tall","wide"] k (zJ (qW))) (aG:Fn P w K mg base "product" ["table","other","wide"] k (zJ (QB))) (aK:vh P w K mg base "unit" ["place","wide","number"] k (zJ (JX)) (.int 1)):zG P w K mg base zY (k + 1) f fd ["there","back","many"] (zJ (zMl)):=by
 refine zx F zKf (λds R h=>by obtain ⟨T,B,n,rfl,_⟩:=h; rfl) λcdv A outer s H E hr=>⟨_,(zL (yR (PW.pt (wI (xF (yc (zQ aD hr rfl (zB (zA 0) (zB (zA 2) (zB (zA 2) zC)))))) (we (xF (yc (zQ aD hr rfl (zB (zA 1) (zB (zA 2) (zB (zA 2) zC))))))))) (zP (zX xk)) yQ)
  (zP (zX (uM hr.units (zQ aG hr rfl (zB (zA 0) (zB (zA 1) (zB (zA 2) zC)))) (yI (own:=["place"]) (caps:=[(2,"many")]) (yB (S:=zK WY) (N:=["there","back","many"]) rfl (by decide +kernel) rfl ⟨_,rfl⟩ rfl (by decide +kernel) (by decide +kernel)) rfl rfl yD (xK rfl B.range_ (zB (zA 2) zC)) (λ_ _ _ _=>(zq 0 (show (["place","many"]:List Str).Nodup by decide +kernel) rfl (Or.inl rfl))) (λ_ _ _ _=>(uP (.int 1) (λ_=>.int 1) aK hr rfl (zB (zA 0) (zB (zA 1) zC))))))))),λds R h=>?_⟩
 obtain ⟨T,B,n,rfl,tb,hT,hB,n3,q⟩:=h
 have tl:=tb.tl
 have bl:=tb.bl
 refine ⟨_,_,_,3,rfl,jh (by omega) (λr hr=>by rw [tb.tr r hr]; omega),wF (by rw [WE (by rw [tl]) (λr hr=>by rw [tb.tr r hr])]; rfl) ?_⟩
 refine ⟨_,_,_,3,rfl,jh (by omega) (λr hr=>by rw [tb.br r hr]; omega),wF (by rw [WE (by rw [bl]) (λr hr=>by rw [tb.br r hr])]; rfl) ?_⟩
 refine ⟨T,B,n,rfl,by omega,by omega,λr hr=>⟨by rw [tb.tr r hr]; omega,λx hx=>(hT r hr x hx).mono⟩,λr hr=>⟨by rw [tb.br r hr]; omega,λx hx=>(hB r hr x hx).mono⟩,?_⟩
 refine ⟨by omega,by omega,?_⟩
 rw [show ((n:Nat):Int).toNat=n by omega]
 refine zl.rng0 (λi=>L (yd (i:Int) n 1)) (by omega) (λi hi=>⟨(i:Int),n,1,rfl,by omega,by omega,by rw [show ((n:Nat):Int).toNat=n by omega]⟩) ?_
 have e:D.lst ((List.range n).map λi:Nat=>L (yd (i:Int) n 1))=Tb (yJ T B n):=by
  rw [tb.tb]
  unfold vW Tb
  rw [List.map_map]
  rfl
 rw [e]
 exact ⟨QC _,QC _,bR q (PySem.SeqAt.eqv_refl _ (ub 50 _ (QC _)).lay).symm⟩
theorem zL7 {k:Nat} {f:Addr} {fd:FuncData} (F:zj K "turned" "turned" WZ f fd) (B:Bl mg) (bP:Fn P w K mg base "is_turn" ["there","back","many"] (k + 1) (zJ (zMl))) (aF:vi P w K mg base ah "modes" ["self"] (k + 1) (zJ (WG ah ag))) (bQ:Fn P w K mg base "turned_mode" ["mode","there","back","wide"] (k + 1) (zJ (zOx ag))) (ap:vi P w K mg base ah "pushes" ["self"] (k + 1) (zJ (YT ah ag))) (aM:uI P w K mg base ah ["self","many","pushes","modes"] k (wf ah (Je ah ag))):zG P w K mg base zY (k + 1 + 1) f fd ["thing","there","back"] (zJ (zMc ah ag)):=by
 refine zx F zID (λds R h=>by obtain ⟨n,bs,ms,T,B,rfl,_⟩:=h; rfl) λcdv A outer s H E hr=>⟨_,(zL (yR (xF (yc (zQ bP hr rfl (zB (zA 1) (zB (zA 2) (zB (yA K (zA 0) rfl) zC)))))) (zP Xy) yQ)
  (zL (uO 3 false zID.nd rfl rfl (own:=["mode"]) (caps:=[(0,"thing"),(1,"there"),(2,"back")]) (yB (S:=zK WZ) (N:=["thing","there","back","modes"]) rfl (by decide +kernel) rfl ⟨_,rfl⟩ rfl (by decide +kernel) (by decide +kernel)) rfl rfl yD (yP (jD aF ac hr (zA 0))) (λ_ _ _ _=>(zq 0 (show (["mode","thing","there","back"]:List Str).Nodup by decide +kernel) rfl (Or.inl rfl))) (λ_ _ _ _=>(zQ bQ hr rfl (zB (zA 0) (zB (zA 2) (zB (zA 3) (zB (zy yf yo rfl B.len_ yh (zB (jD ap ac hr (zA 1)) zC)) zC)))))) rfl)
  (zP (zX (jf aM ac hr rfl (zB (yA K (zA 0) rfl) (zB (jD ap ac hr (zA 0)) (zB (zA 3) zC)))))))),λds R h=>?_⟩
 obtain ⟨n,bs,ms,T,B,rfl,o,tb,hT,hB,k,q⟩:=h
 have n3:=o.n3
 have m40:=o.m40
 have lp:(List.map yN bs).length=bs.length:=List.length_map ..
 refine ⟨⟨ac.cl,ae.n_many⟩,_,rfl,T,B,n,rfl,tb,hT,hB,n3,wF rfl ?_⟩
 refine ⟨rfl,by decide +kernel,n,bs,ms,rfl,?_⟩
 refine xc (wM ag) xM (WH _) (λm=>wM ag (vd n bs.length T B m)) (by omega) (λm hm=>⟨rfl,by decide +kernel,n,bs,ms,rfl,m,T,B,n,bs.length,by rw [lp],tb,hT,hB,o.mok m hm,k m hm,rfl⟩) ?_
 refine ⟨⟨ac.cl,ae.n_many⟩,_,rfl,rfl,by decide +kernel,n,bs,ms,rfl,n,bs,ms.map (vd n bs.length T B),by rw [List.map_map]; rfl,⟨o.n1,o.n3,o.bok,o.b6,by rw [List.length_map]; exact o.m1,by rw [List.length_map]; exact o.m40,λm' hm=>?_⟩,q⟩
 obtain ⟨m,hm1,rfl⟩:=List.mem_map.mp hm
 exact QA tb (o.mok m hm1)
end
theorem md (a:Int) {b:Int} (h:0 < b):0<=a.fmod b/\a.fmod b < b:=⟨Int.fmod_nonneg_of_pos a h,Int.fmod_lt_of_pos a h⟩
theorem vp {n:Nat} {a b:Int} (h:Bd n b) (p:0 < b):Bd n (a.fmod b):=by
 have:=md a p
 exact h.of_le (by omega)
theorem Yg {n:Nat} (h:n<=3):Bd 2 (n:Int):=by
 show (n:Int).natAbs < 2 ^ 2
 omega
theorem QE {α:Type} {xs:List α} {i:Int} (h0:0<=i) (h1:i < (xs.length:Int)):∃ x∈xs,yL xs i=some x:=by
 obtain ⟨k,rfl⟩:=Int.eq_ofNat_of_zero_le h0
 have hk:k < xs.length:=by omega
 refine ⟨xs[k],List.getElem_mem hk,?_⟩
 unfold yL wG
 rw [if_pos (by omega),if_pos (by omega)]
 show xs[((k:Nat):Int).toNat]? = _
 rw [show ((k:Nat):Int).toNat=k by omega,List.getElem?_eq_getElem hk]
theorem zRm {xs:List Int} {i:Int} (h0:0<=i) (h1:i < (xs.length:Int)):∃ x∈xs,yL (xs.map D.int) i=some (.int x):=by
 obtain ⟨x,hx,e⟩:=QE h0 h1
 exact ⟨x,hx,by rw [uk,e]; rfl⟩
theorem xf {xs:List Int} {i:Int} {R:D->Prop} (h0:0<=i) (h1:i < (xs.length:Int)) (q:∀ x∈xs,R (.int x)):∃ d,yL (xs.map D.int) i=some d/\R d:=by
 obtain ⟨x,hx,e⟩:=zRm h0 h1
 exact ⟨_,e,q x hx⟩
theorem ve {xs:List D} {i:Int} {R:D->Prop} (h0:0<=i) (h1:i < (xs.length:Int)) (q:∀ x∈xs,R x):∃ d,yL xs i=some d/\R d:=by
 obtain ⟨x,hx,e⟩:=QE h0 h1
 exact ⟨_,e,q x hx⟩
theorem zRl {y f:Int} {n:Nat} (h:Bd n f) (h1 : -f<=y) (h2:y<=f):Bd n y:=h.of_le (by omega)
theorem vE {α:Type} {P:α->Prop} {xs:List α} {y:α} (h:∀ x∈xs,P x) (k:P y):∀ x∈xs++[y],P x:=λx hx=>by
 rcases List.mem_append.mp hx with hx | hx
 ·exact h x hx
 ·rw [List.mem_singleton.mp hx]; exact k
theorem zOR {xs:List D} {k:Nat}:zf xs (some (k:Int)) none=xs.drop k:=by
 unfold zf
 rw [HT.sIx_none,HT.sIx_nat,List.take_of_length_le (by rw [List.length_drop]; omega)]
 by_cases h:k<=xs.length
 ·rw [Nat.min_eq_left h]
 ·rw [Nat.min_eq_right (by omega),List.drop_length,List.drop_of_length_le (by omega)]
abbrev Wa:Int:=10 ^ (45:Int).toNat
def QF:FL:=λds R=>∃ ns k,ds=[.scr ns,.int k]/\0<=k/\∀ c,R (.int c)
def Wb (xs:List Int):Prop:=∀ x∈xs,0<=x/\Bd 150 x
def qj:FL:=λds R=>∃ (c:Int) (n:Nat),ds=[.int c,.int (n:Int)]/\n<=100/\∀ xs,xs.length=n->Wb xs->R (L xs)
def Yh:FL:=λds R=>∃ x far:Int,ds=[.int x,.int far]/\0<=far/\Bd 9000 far/\∀ y,-far<=y->y<=far->R (.int y)
def Yi:FL:=λds R=>∃ (c:Int) (n:Nat) (u:Int),ds=[.int c,.int (n:Int),.int u]/\n<=3/\0<=u/\Bd 100 u/\∀ bs:List (Int × Int),bs.length=n->(∀ b∈bs,b.1<=b.2/\Bd 105 b.1/\Bd 105 b.2)->R (.lst (bs.map yN))
def wA (n i:Nat) (b:Int × Int):List (List Int):=[yd (i:Int) n 1++[b.2],(yd (i:Int) n 1).map (λx=>0 - x)++[0 - b.1]]
def vJ (bs:List (Int × Int)):List (List Int):=(bs.mapIdx (wA bs.length)).flatten
def Yj:FL:=λds R=>∃ bs:List (Int × Int),ds=[.lst (bs.map yN)]/\bs.length<=100/\R (Rm (vJ bs))
def Wc:FL:=λds R=>∃ (d:D) (ns:List Int),ds=[d]/\IS d ns/\ns.length<=100/\(∀ x∈ns,Bd 200 x)/\∀ ys,ys.length=2 * ns.length->(∀ y∈ys,0<=y/\Bd 200 y)->R (L ys)
abbrev xX (m:MD):D:=.tup [Rm m.rows,Tb m.nexts,L m.steer,Tb m.push,L m.add,.int m.div]
abbrev wB (n:Nat) (bs:List (Int × Int)) (ms:List MD) (u:Int):D:=.tup [.int (n:Int),.lst (bs.map yN),.lst (ms.map xX),.int u]
def zRY (C CM:Addr):FL:=λds R=>∃ n bs ms u,ds=[wB n bs ms u]/\wp n bs ms/\R (x9 C CM n bs ms)
theorem zRN (i j:Nat):(if decide ((j:Int)=(i:Int))=true then (1:Int) else 0)=if (j:Int)=(i:Int) then 1 else 0:=by
 by_cases c:(j:Int)=(i:Int)
 ·rw [if_pos c,if_pos (decide_eq_true c)]
 ·rw [if_neg c,if_neg (by rw [decide_eq_false c]; exact Bool.false_ne_true)]
theorem zJ8 {bs:List (Int × Int)} {k:Nat} (h:k < bs.length) {i:Int} (e:i=(k:Int)):yL (bs.map yN) i=some (yN bs[k]):=by
 rw [uk,e]
 unfold yL wG
 rw [if_pos (by omega),if_pos (by omega)]
 show Option.map yN bs[((k:Nat):Int).toNat]? = _
 rw [show ((k:Nat):Int).toNat=k by omega,List.getElem?_eq_getElem h]
 rfl
theorem zNV {α:Type} {l:List (List α)} {k:Nat} {x:List α} (h:l[k]? = some x):(l.take (k + 1)).flatten=(l.take k).flatten++x:=by
 rw [uz h,List.flatten_append,List.flatten_singleton]
section
variable {P:Program} {w:World} {K:PySem.W.Frag} {mg:Str->Option Value} {base:Heap}
abbrev QG:Stmt:=zp 75
theorem zIE:zh ["_law_script","_law_k"] ["_law_script","_law_k"] (zK QG):=.a
abbrev QH:Stmt:=zp 76
theorem jm:zh ["_law_cell","_law_many","_law_found","_law_rest","_law_k","_law_number_here"] ["_law_cell","_law_many"] (zK QH):=.a
abbrev QI:Stmt:=zp 77
theorem zIt:zh ["_law_x","_law_far"] ["_law_x","_law_far"] (zK QI):=.a
abbrev QJ:Stmt:=zp 81
theorem Yk:zh ["_law_cell","_law_many","_law_unit","_law_xs","_law_box_here","_law_i","_law_low"] ["_law_cell","_law_many","_law_unit"] (zK QJ):=.a
abbrev Yl:Stmt:=zp 82
theorem We:zh ["_law_box_here","_law_rows_here","_law_i","_law_ones"] ["_law_box_here"] (zK Yl):=.a
variable {ag ah aClaim aSettles aComes aPaper aRooms aFalls:Addr} (aa:zE K mg "Mode" ag) (ab:wz K ag) (ac:zE K mg "Thing" ah) (ae:w4 K ah) (TClaim:zE K mg "Claim" aClaim) (AClaim:w6 K aClaim) (TSettles:zE K mg "Settles" aSettles) (ASettles:w8 K aSettles) (TComes:zE K mg "Comes" aComes) (AComes:vA K aComes) (TPaper:zE K mg "Paper" aPaper) (APaper:vB K aPaper) (TRooms:zE K mg "Rooms" aRooms) (ARooms:vC K aRooms) (TFalls:zE K mg "Falls" aFalls) (AFalls:vD K aFalls)
include aa ab ac ae TClaim AClaim TSettles ASettles TComes AComes TPaper APaper TRooms ARooms TFalls AFalls
theorem zIP {k:Nat} {f:Addr} {fd:FuncData} (F:zj K "_law_cell_at" "_law_cell_at" QG f fd) (B:Bl mg):zG P w K mg base zY (k + 1) f fd ["_law_script","_law_k"] (zJ (QF)):=by
 refine zx F zIE (λds R h=>by obtain ⟨ns,k,rfl,_⟩:=h; rfl) λcdv A outer s H E hr=>⟨_,(zL (yR (Uz (zA 1) (zy yf yo rfl B.len_ yh (zB (zA 0) zC))) (zP (zX (zV (zA 0) (zA 1) (λ_ _=>rfl)))) yQ)
  (zP (zX zF))),λds R h=>?_⟩
 obtain ⟨ns,k,rfl,h0,q⟩:=h
 refine w2 (λc=>?_) λc=>q 0
 obtain ⟨x,_,e⟩:=QE h0 (of_decide_eq_true c)
 exact ⟨x,e,q x⟩
theorem zI5 {k:Nat} {f:Addr} {fd:FuncData} (F:zj K "_law_stream" "_law_stream" QH f fd) (B:Bl mg):zG P w K mg base zY (k + 1) f fd ["_law_cell","_law_many"] (zJ (qj)):=by
 refine zx F jm (λds R h=>by obtain ⟨c,n,rfl,_⟩:=h; rfl) λcdv A outer s H E hr=>⟨_,(zL (va 2 jm.nd rfl (Or.inl rfl) zC)
  (zL (yR (Xn (zA 0) (u8 zF zF)) (zL (zv 3 jm.nd rfl (Or.inl rfl) (xr (zA 0) (u8 zF zF)))
   (zL (wL PassesOwn.never rfl (xK rfl B.range_ (zB (zA 1) zC)) (zq 4 jm.nd rfl (Or.inl rfl)) (zL (yM (wE (wQ PySem.F.plainAttrs_list PySem.F.slot_list_append PySem.F.type_list_append yb (yi 2) (zi (xB (zA 3) (u8 zF zF)) yE))) wY)
    (zP (zv 3 jm.nd rfl (Or.inl rfl) (wu (zA 3) (u8 zF zF))))))
   (zP (ww 2 (zX (zA 2)))))) yQ)
  (zL (zv 5 jm.nd rfl (Or.inl rfl) (zr (xB (zA 0) (zr (u8 zF zF) zF)) zF))
  (zL (wL PassesOwn.never rfl (xK rfl B.range_ (zB (zr (zA 1) zF) zC)) (zq 4 jm.nd rfl (Or.inl rfl)) (zL (zv 5 jm.nd rfl (Or.inl rfl) (xB (zr (zr (xE (zA 5) (zA 5)) (xE zF (zA 5))) (zA 4)) (zr (u8 zF zF) zF)))
   (zP (yM (wE (wQ PySem.F.plainAttrs_list PySem.F.slot_list_append PySem.F.type_list_append yb (yi 2) (zi (zA 5) yE))) wY))))
  (zP (ww 2 (zX (xP (zA 2) (xO zF) xN)))))))),λds R h=>?_⟩
 obtain ⟨c,n,rfl,n1,q⟩:=h
 have b45:Bd 150 Wa:=Bd.lit
 have p45:(0:Int) < Wa:=by decide
 have b18:Bd 60 ((10:Int) ^ (18:Int).toNat + 9):=Bd.lit
 have p18:(0:Int) < (10:Int) ^ (18:Int).toNat + 9:=by decide
 refine ⟨k0,⟨by decide,by decide,by decide⟩,w2 (λc1=>?_) λc1=>?_⟩
 ·refine ⟨⟨by decide,by decide,by decide⟩,by omega,by omega,?_⟩
  rw [show ((n:Nat):Int).toNat=n by omega]
  refine ⟨λk Γ=>∃ (xs:List Int) (r:Int) (s4:Sl),Γ=[.sh (.int c),.sh (.int (n:Int)),.ow (xs.map D.int),.sh (.int r),s4,.no]/\xs.length=k/\Wb xs,⟨[],_,.no,rfl,rfl,λ_ h=>nomatch h⟩,?_,?_⟩
  ·rintro k d Γ' hk ⟨xs,r,s4,rfl,lx,hx⟩
   obtain ⟨kn,rfl⟩:=v7 hk
   refine ⟨⟨by decide,by decide,by decide⟩,by decide,by rw [List.length_map]; omega,?_⟩
   refine ⟨⟨by decide,by decide,by decide⟩,by decide,b45.mono,?_⟩
   refine ⟨xs++[r.fmod Wa],r.fdiv Wa,.sh (.int (k:Int)),?_,by rw [List.length_append,lx]; rfl,vE hx ⟨(md r p45).1,vp b45 p45⟩⟩
   rw [List.map_append]
   rfl
  ·rintro Γ' ⟨xs,r,s4,rfl,lx,hx⟩
   rw [v8] at lx
   exact q xs lx hx
 ·refine ⟨⟨by decide,by decide,by decide⟩,by decide,?_⟩
  have m0:=md c p18
  have bm:Bd 60 (c.fmod ((10:Int) ^ (18:Int).toNat + 9)):=vp b18 p18
  refine ⟨by omega,by omega,?_⟩
  rw [show ((n:Int) + 2).toNat=n + 2 by omega]
  refine ⟨λk Γ=>∃ (xs:List Int) (r:Int) (s4:Sl),Γ=[.sh (.int c),.sh (.int (n:Int)),.ow (xs.map D.int),.no,s4,.sh (.int r)]/\xs.length=k/\Wb xs/\Bd 70 r,⟨[],_,.no,rfl,rfl,(λ_ h=>nomatch h),((bm.mono (show 60<=65 by decide)).add ((Bd.lit (i:=48271) (n:=16)).mono (show 16<=65 by decide))).mono⟩,?_,?_⟩
  ·rintro k d Γ' hk ⟨xs,r,s4,rfl,lx,hx,br⟩
   obtain ⟨kn,rfl⟩:=v7 hk
   refine ⟨br.mono,br.mono,(Bd.lit (i:=48271) (n:=16)).mono,br.mono,⟨by decide,by decide,by decide⟩,by decide,by rw [List.length_map]; omega,?_⟩
   refine ⟨xs++[(r * r + 48271 * r + (k:Int)).fmod ((10:Int) ^ (18:Int).toNat + 9)],(r * r + 48271 * r + (k:Int)).fmod ((10:Int) ^ (18:Int).toNat + 9),.sh (.int (k:Int)),?_,?_,vE hx ⟨(md (r * r + 48271 * r + (k:Int)) p18).1,(vp b18 p18).mono⟩,(vp b18 p18).mono⟩
   ·rw [List.map_append]
    rfl
   ·rw [List.length_append,lx]; rfl
  ·rintro Γ' ⟨xs,r,s4,rfl,lx,hx,br⟩
   rw [v8] at lx
   have e:zf (xs.map D.int) (some 2) none=(xs.drop 2).map D.int:=by rw [show (2:Int)=((2:Nat):Int) from rfl,zOR,List.map_drop]
   have qq:=q (xs.drop 2) (by rw [List.length_drop]; omega) (λx hx'=>hx x (List.mem_of_mem_drop hx'))
   unfold L at qq
   rw [<- e] at qq
   exact qq
theorem zI7 {k:Nat} {f:Addr} {fd:FuncData} (F:zj K "_law_number" "_law_number" QI f fd) (B:Bl mg):zG P w K mg base zY (k + 1) f fd ["_law_x","_law_far"] (zJ (Yh)):=by
 refine zx F zIt (λds R h=>by obtain ⟨x,far,rfl,_⟩:=h; rfl) λcdv A outer s H E hr=>⟨_,(zP (zX (xr (xB (zA 0) (zr (xE zF (zA 1)) zF)) (zA 1)))),λds R h=>?_⟩
 obtain ⟨x,far,rfl,f0,bf,q⟩:=h
 have:=md x (show (0:Int) < 2 * far + 1 by omega)
 exact ⟨(Bd.lit (i:=2) (n:=2)).mono,bf.mono,by omega,q _ (by omega) (by omega)⟩
theorem zN4 {k:Nat} {f:Addr} {fd:FuncData} (F:zj K "_law_box" "_law_box" QJ f fd) (B:Bl mg) (am:Fn P w K mg base "_law_stream" ["_law_cell","_law_many"] k (zJ (qj))) (ao:Fn P w K mg base "_law_number" ["_law_x","_law_far"] k (zJ (Yh))):zG P w K mg base zY (k + 1) f fd ["_law_cell","_law_many","_law_unit"] (zJ (Yi)):=by
 refine zx F Yk (λds R h=>by obtain ⟨c,n,u,rfl,_⟩:=h; rfl) λcdv A outer s H E hr=>⟨_,(zL (zv 3 Yk.nd rfl (Or.inl rfl) (zQ am hr rfl (zB (zA 0) (zB (xE zF (zA 1)) zC))))
  (zL (va 4 Yk.nd rfl (Or.inl rfl) zC)
  (zL (wL PassesOwn.never rfl (xK rfl B.range_ (zB (zA 1) zC)) (zq 5 Yk.nd rfl (Or.inl rfl)) (zL (zv 6 Yk.nd rfl (Or.inl rfl) (xE (zQ ao hr rfl (zB (zV (zA 3) (xE zF (zA 5)) (λ_ _=>rfl)) (zB zF zC))) (zA 2)))
   (zP (yM (wE (wQ PySem.F.plainAttrs_list PySem.F.slot_list_append PySem.F.type_list_append yb (yi 4) (zi (x8 (zB (zA 6) (zB (zr (zr (zA 6) (xE (xB (zV (zA 3) (zr (xE zF (zA 5)) zF) (λ_ _=>rfl)) zF) (zA 2))) (xB (wu (zV (zA 3) (zr (xE zF (zA 5)) zF) (λ_ _=>rfl)) zF) zF)) zC))) yE))) wY))))
  (zP (ww 4 (zX (zA 4))))))),λds R h=>?_⟩
 obtain ⟨c,n,u,rfl,n3,u0,bu,q⟩:=h
 have b2:Bd 2 (2:Int):=Bd.lit
 refine ⟨b2.mono,(Yg n3).mono,c,2 * n,by rw [show ((2 * n:Nat):Int)=2 * (n:Int) by omega],by omega,λxs lx hx=>?_⟩
 refine ⟨k0,by omega,by omega,?_⟩
 rw [show ((n:Nat):Int).toNat=n by omega]
 refine ⟨λk Γ=>∃ (bs:List (Int × Int)) (s5 s6:Sl),Γ=[.sh (.int c),.sh (.int (n:Int)),.sh (.int u),.sh (L xs),.ow (bs.map yN),s5,s6]/\bs.length=k/\∀ b∈bs,b.1<=b.2/\Bd 105 b.1/\Bd 105 b.2,⟨[],.no,.no,rfl,rfl,λ_ h=>nomatch h⟩,?_,?_⟩
 ·rintro k d Γ' hk ⟨bs,s5,s6,rfl,lb,hb⟩
  obtain ⟨kn,rfl⟩:=v7 hk
  have bk:Bd 2 (k:Int):=Yg (by omega)
  refine ⟨b2.mono,bk.mono,xf (by omega) (by omega) λx hx1=>⟨x,3,rfl,by decide,(Bd.lit (i:=3) (n:=2)).mono,λy y1 y2=>?_⟩⟩
  have by2:Bd 2 y:=zRl (f:=3) Bd.lit y1 y2
  refine ⟨by2.mono,bu.mono,?_⟩
  refine ⟨b2.mono,bk.mono,xf (by omega) (by omega) λx2 hx2=>⟨by decide,(Bd.mono (n:=3) (vp Bd.lit (by decide)) (by decide)),bu.mono,b2.mono,bk.mono,xf (by omega) (by omega) λx3 hx3=>⟨by decide,(Bd.lit (i:=4) (n:=3)).mono,by decide,k0,by rw [List.length_map]; omega,?_⟩⟩⟩
  have m1:=md x2 (show (0:Int) < 4 by decide)
  have m2:=md (x3.fdiv 4) (show (0:Int) < 2 by decide)
  have g0:0<=x2.fmod 4 * u:=Int.mul_nonneg m1.1 u0
  have c1:Bd 102 (y * u):=by2.mul bu
  have c2:Bd 103 (x2.fmod 4 * u):=(vp (n:=3) Bd.lit (by decide)).mul bu
  have c3:Bd 2 ((x3.fdiv 4).fmod 2):=vp Bd.lit (by decide)
  refine ⟨bs++[(y * u,y * u + x2.fmod 4 * u + (x3.fdiv 4).fmod 2)],.sh (.int (k:Int)),.sh (.int (y * u)),?_,by rw [List.length_append,lb]; rfl,vE hb ⟨by show y * u<=y * u + x2.fmod 4 * u + (x3.fdiv 4).fmod 2; omega,c1.mono,((c1.mono (show 102<=103 by decide)).add c2 |>.add c3.mono).mono⟩⟩
  rw [List.map_append]
  rfl
 ·rintro Γ' ⟨bs,s5,s6,rfl,lb,hb⟩
  rw [v8] at lb
  exact q bs lb hb
theorem zMC {k:Nat} {f:Addr} {fd:FuncData} (F:zj K "_law_rows" "_law_rows" Yl f fd) (B:Bl mg):zG P w K mg base zY (k + 1) f fd ["_law_box_here"] (zJ (Yj)):=by
 refine zx F We (λds R h=>by obtain ⟨bs,rfl,_⟩:=h; rfl) λcdv A outer s H E hr=>⟨_,(zL (va 1 We.nd rfl (Or.inl rfl) zC)
  (zL (wL PassesOwn.never rfl (xK rfl B.range_ (zB (zy yf yo rfl B.len_ yh (zB (zA 0) zC)) zC)) (zq 2 We.nd rfl (Or.inr rfl)) (zL (uO 3 false We.nd rfl rfl (own:=["_law_j"]) (caps:=[(2,"_law_i")]) (yB (S:=zK Yl) (N:=["_law_box_here","_law_rows_here","_law_i","_law_ones"]) rfl (by decide +kernel) rfl ⟨_,rfl⟩ rfl (by decide +kernel) (by decide +kernel)) rfl rfl yD (xK rfl B.range_ (zB (zy yf yo rfl B.len_ yh (zB (zA 0) zC)) zC)) (λ_ _ _ _=>(zq 0 (show (["_law_j","_law_i"]:List Str).Nodup by decide +kernel) rfl (Or.inl rfl))) (λ_ _ _ _=>(xV XG zM2 rfl B.int_ kz (zB (uM hr.units (zA 0) (zA 1)) zC))) rfl)
   (zL (yM (wE (wQ PySem.F.plainAttrs_list PySem.F.slot_list_append PySem.F.type_list_append yb (yi 1) (zi (xV uX ud rfl B.tuple_ vI (zB (zr (zA 3) (y8 (zB (zV (zV (zA 0) (zA 2) (λ_ _=>rfl)) zF (λ_ _=>rfl)) zC))) zC)) yE))) wY)
   (zP (yM (wE (wQ PySem.F.plainAttrs_list PySem.F.slot_list_append PySem.F.type_list_append yb (yi 1) (zi (xV uX ud rfl B.tuple_ vI (zB (zr (yI (own:=["_law_one"]) (caps:=[]) (yB (S:=zK Yl) (N:=["_law_box_here","_law_rows_here","_law_i","_law_ones"]) rfl (by decide +kernel) rfl ⟨_,rfl⟩ rfl (by decide +kernel) (by decide +kernel)) rfl rfl yD (yP (zA 3)) (λ_ _ _ _=>(zq 0 (show (["_law_one"]:List Str).Nodup by decide +kernel) rfl (Or.inl rfl))) (λ_ _ _ _=>(xr zF (zA 0)))) (y8 (zB (xr zF (zV (zV (zA 0) (zA 2) (λ_ _=>rfl)) zF (λ_ _=>rfl))) zC))) zC)) yE))) wY)))))
  (zP (ww 1 (zX (zA 1)))))),λds R h=>?_⟩
 obtain ⟨bs,rfl,l1,q⟩:=h
 have lp:(List.map yN bs).length=bs.length:=List.length_map ..
 refine ⟨k0,by omega,by omega,?_⟩
 rw [show ((List.length (List.map yN bs):Nat):Int).toNat=bs.length by omega]
 refine ⟨λk Γ=>∃ (s2 s3:Sl),Γ=[.sh (.lst (bs.map yN)),.ow ((((bs.mapIdx (wA bs.length)).take k).flatten).map U),s2,s3],⟨.no,.no,rfl⟩,?_,?_⟩
 ·rintro k d Γ' hk ⟨s2,s3,rfl⟩
  obtain ⟨kn,rfl⟩:=v7 hk
  have hx:(bs.mapIdx (wA bs.length))[k]? = some (wA bs.length k bs[k]):=by rw [List.getElem?_mapIdx,List.getElem?_eq_getElem kn]; rfl
  have ll:((bs.mapIdx (wA bs.length)).take k).flatten.length=2 * k:=by
   rw [List.length_flatten]
   have e:((bs.mapIdx (wA bs.length)).take k).map List.length=List.replicate k 2:=by
    refine List.ext_getElem (by simp; omega) λi h1 h2=>?_
    simp [wA]
   rw [e]
   simp
   omega
  refine ⟨by omega,by omega,?_⟩
  rw [show ((List.length (List.map yN bs):Nat):Int).toNat=bs.length by omega]
  refine zl.rng0 (λj=>.int (if (j:Int)=(k:Int) then 1 else 0)) (by omega) (λj hj=>by show D.int _=_; rw [zRN]) ?_
  have eu:(List.range bs.length).map (λj:Nat=>D.int (if (j:Int)=(k:Int) then 1 else 0))=(yd (k:Int) bs.length 1).map D.int:=by unfold yd; rw [List.map_map]; rfl
  rw [eu]
  refine ⟨_,zJ8 kn rfl,_,rfl,k0,by rw [List.length_map,u6]; show _ + 1<=1000; omega,by rw [List.length_map]; omega,?_⟩
  refine zl.int (λx=>0 - x) (by rw [u6]; omega) (λx hx=>rfl) ?_
  refine ⟨_,zJ8 kn rfl,_,rfl,k0,by rw [List.length_map,List.length_map,u6]; show _ + 1<=1000; omega,by rw [List.length_append,List.length_map]; show _ + 1 < 1000; omega,?_⟩
  refine ⟨.sh (.int (k:Int)),.sh (L (yd (k:Int) bs.length 1)),?_⟩
  rw [zNV hx,List.map_append]
  unfold wA
  rw [List.map_cons,List.map_cons,List.map_nil,U,U,List.map_append,List.map_append,<- List.append_cons]
  rfl
 ·rintro Γ' ⟨s2,s3,rfl⟩
  rw [v8,List.take_of_length_le (by rw [List.length_mapIdx]; omega)]
  exact q
end
theorem IS.zipL {d:D} {ns:List Int} {es:List D} (h:IS d ns) {R:List D->Prop} (q:R (List.zipWith xb (ns.map D.int) es)):ue [d,.lst es] R:=by
 rcases h with rfl | rfl <;> exact q
theorem zOX {α β:Type} {u:α->D} {v:β->D}:∀ {xs:List α} {ys:List β} {d:D},d∈List.zipWith xb (xs.map u) (ys.map v)->∃ x∈xs,∃ y∈ys,d=xb (u x) (v y)
 | [],_,_,h=>by cases h
 | _ :: _,[],_,h=>by cases h
 | x :: xs,y :: ys,d,h=>by
  rw [List.map_cons,List.map_cons,List.zipWith_cons_cons] at h
  rcases List.mem_cons.mp h with rfl | h
  ·exact ⟨x,List.mem_cons_self,y,List.mem_cons_self,rfl⟩
  ·obtain ⟨a,ha,b,hb,e⟩:=zOX h
   exact ⟨a,List.mem_cons_of_mem _ ha,b,List.mem_cons_of_mem _ hb,e⟩
theorem Wf {e:Nat} {a b:Int} (h:Bd e a) (k:Bd e b):Bd e (max a b):=by
 rw [Int.max_def]
 split
 ·exact k
 ·exact h
theorem QK {a:Nat}:∀ {ns:List Int},(∀ x∈ns,Bd a x)->Bd (a + ns.length) ns.sum
 | [],_=>by rw [List.sum_nil]; exact wg
 | n :: ns,h=>by
  rw [List.sum_cons,List.length_cons]
  exact (((h n List.mem_cons_self).mono (show a<=a + ns.length by omega)).add (QK λx hx=>h x (List.mem_cons_of_mem _ hx))).mono (by omega)
theorem zRr (a b:List Int):L (a++b)=.lst (a.map D.int++b.map D.int):=by unfold L; rw [List.map_append]
theorem uB {y:Int} {f n:Nat} (h:f < 2 ^ n) (h1 : -(f:Int)<=y) (h2:y<=(f:Int)):Bd n y:=by
 show y.natAbs < 2 ^ n
 omega
section
variable {P:Program} {w:World} {K:PySem.W.Frag} {mg:Str->Option Value} {base:Heap}
abbrev QL:Stmt:=zp 88
theorem Wg:zh ["_law_numbers","_law_found","_law_number_here"] ["_law_numbers"] (zK QL):=.a
abbrev Ym:Stmt:=zp 80
theorem uC:zh ["_law_spec","_law_many","_law_pushes","_law_modes","_law_unit","_law_some","_law_rows_here","_law_nexts","_law_steer","_law_push","_law_add","_law_divisor","_law_lists"] ["_law_spec"] (zK Ym):=.a
variable {ag ah aClaim aSettles aComes aPaper aRooms aFalls:Addr} (aa:zE K mg "Mode" ag) (ab:wz K ag) (ac:zE K mg "Thing" ah) (ae:w4 K ah) (TClaim:zE K mg "Claim" aClaim) (AClaim:w6 K aClaim) (TSettles:zE K mg "Settles" aSettles) (ASettles:w8 K aSettles) (TComes:zE K mg "Comes" aComes) (AComes:vA K aComes) (TPaper:zE K mg "Paper" aPaper) (APaper:vB K aPaper) (TRooms:zE K mg "Rooms" aRooms) (ARooms:vC K aRooms) (TFalls:zE K mg "Falls" aFalls) (AFalls:vD K aFalls)
include aa ab ac ae TClaim AClaim TSettles ASettles TComes AComes TPaper APaper TRooms ARooms TFalls AFalls
theorem zMH {k:Nat} {f:Addr} {fd:FuncData} (F:zj K "_law_both" "_law_both" QL f fd) (B:Bl mg):zG P w K mg base zY (k + 1) f fd ["_law_numbers"] (zJ (Wc)):=by
 refine zx F Wg (λds R h=>by obtain ⟨d,ns,rfl,_⟩:=h; rfl) λcdv A outer s H E hr=>⟨_,(zL (zv 1 Wg.nd rfl (Or.inl rfl) (y8 zC))
  (zL (wL PassesOwn.never rfl (yP (zA 0)) (zq 2 Wg.nd rfl (Or.inl rfl)) (zP (zv 1 Wg.nd rfl (Or.inl rfl) (zr (zA 1) (y8 (zB (zy (XF rfl) Xp rfl B.max_ k8 (zB (zA 2) (zB zF zC))) (zB (zy (XF rfl) Xp rfl B.max_ k8 (zB (xr zF (zA 2)) (zB zF zC))) zC)))))))
  (zP (zX (zA 1))))),λds R h=>?_⟩
 obtain ⟨d,ns,rfl,h,l3,bn,q⟩:=h
 refine ⟨k0,h.seq ?_⟩
 refine ⟨λk Γ=>∃ (ys:List Int) (s2:Sl),Γ=[.sh d,.sh (L ys),s2]/\ys.length=2 * k/\∀ y∈ys,0<=y/\Bd 200 y,⟨[],.no,rfl,rfl,λ_ h=>nomatch h⟩,?_,?_⟩
 ·rintro k d' Γ' hk ⟨ys,s2,rfl,ly,hy⟩
  have kl:=(List.getElem?_eq_some_iff.mp hk).1
  rw [List.length_map] at kl
  obtain ⟨x,hx,rfl⟩:=List.mem_map.mp (List.mem_of_getElem? hk)
  have bx:=bn x hx
  refine ⟨k0,by rw [List.length_map]; show _ + 2<=1000; omega,?_⟩
  refine ⟨ys++[max x 0,max (0 - x) 0],.sh (.int x),?_,by rw [List.length_append]; show _ + 2=_; omega,λy hy'=>?_⟩
  ·rw [zRr]
   rfl
  ·rcases List.mem_append.mp hy' with hy' | hy'
   ·exact hy y hy'
   ·rcases List.mem_cons.mp hy' with rfl | hy'
    ·exact ⟨by omega,Wf bx wg⟩
    ·rw [List.mem_singleton.mp hy',Int.zero_sub]
     exact ⟨by omega,Wf bx.neg wg⟩
 ·rintro Γ' ⟨ys,s2,rfl,ly,hy⟩
  rw [List.length_map] at ly
  exact q ys ly hy
theorem zME {k:Nat} {f:Addr} {fd:FuncData} (F:zj K "_law_made" "_law_made" Ym f fd) (B:Bl mg) (aL:uI P w K mg base ag ["self","rows","nexts","steer","push","add","divisor"] k (wf ag (Jd ag))) (aM:uI P w K mg base ah ["self","many","pushes","modes"] k (wf ah (Je ah ag))):zG P w K mg base zY (k + 1 + 1) f fd ["_law_spec"] (zJ (zRY ah ag)):=by
 refine zx F uC (λds R h=>by obtain ⟨n,bs,ms,u,rfl,_⟩:=h; rfl) λcdv A outer s H E hr=>⟨_,(zL (jB (zA 0) (wK rfl (zw 1 uC.nd rfl (Or.inl rfl) (zw 2 uC.nd rfl (Or.inl rfl) (zw 3 uC.nd rfl (Or.inl rfl) (zw 4 uC.nd rfl (Or.inl rfl) wJ))))))
  (zL (va 5 uC.nd rfl (Or.inl rfl) zC)
  (zL (wL PassesOwn.never rfl (yP (zA 3)) (wK rfl (zw 6 uC.nd rfl (Or.inl rfl) (zw 7 uC.nd rfl (Or.inl rfl) (zw 8 uC.nd rfl (Or.inl rfl) (zw 9 uC.nd rfl (Or.inl rfl) (zw 10 uC.nd rfl (Or.inl rfl) (zw 11 uC.nd rfl (Or.inl rfl) wJ))))))) (zL (uO 12 false uC.nd rfl rfl (own:=["_law_one"]) (caps:=[]) (yB (S:=zK Ym) (N:=["_law_spec","_law_many","_law_pushes","_law_modes","_law_unit","_law_some","_law_rows_here","_law_nexts","_law_steer","_law_push","_law_add","_law_divisor","_law_lists"]) rfl (by decide +kernel) rfl ⟨0,rfl⟩ rfl (by decide +kernel) (by decide +kernel)) rfl rfl yD (yP (zA 7)) (λ_ _ _ _=>(zq 0 (show (["_law_one"]:List Str).Nodup by decide +kernel) rfl (Or.inl rfl))) (λ_ _ _ _=>(xV v4 v6 rfl B.list_ xq (zB (zA 0) zC))) rfl)
   (zP (yM (wE (wQ PySem.F.plainAttrs_list PySem.F.slot_list_append PySem.F.type_list_append yb (yi 5) (zi (jf aL aa hr rfl (zB (xV v4 v6 rfl B.list_ xq (zB (zA 6) zC)) (zB (zA 12) (zB (xV v4 v6 rfl B.list_ xq (zB (zA 8) zC)) (zB (yI (own:=["_law_one"]) (caps:=[]) (yB (S:=zK Ym) (N:=["_law_spec","_law_many","_law_pushes","_law_modes","_law_unit","_law_some","_law_rows_here","_law_nexts","_law_steer","_law_push","_law_add","_law_divisor","_law_lists"]) rfl (by decide +kernel) rfl ⟨0,rfl⟩ rfl (by decide +kernel) (by decide +kernel)) rfl rfl yD (yP (zA 9)) (λ_ _ _ _=>(zq 0 (show (["_law_one"]:List Str).Nodup by decide +kernel) rfl (Or.inl rfl))) (λ_ _ _ _=>(xV v4 v6 rfl B.list_ xq (zB (zA 0) zC)))) (zB (xV v4 v6 rfl B.list_ xq (zB (zA 10) zC)) (zB (zA 11) zC))))))) yE))) wY))))
  (zP (ww 5 (zX (jf aM ac hr rfl (zB (zA 1) (zB (xV v4 v6 rfl B.list_ xq (zB (zA 2) zC)) (zB (zA 5) zC)))))))))),λds R h=>?_⟩
 obtain ⟨n,bs,ms,u,rfl,TO,q⟩:=h
 have m40:=TO.m40
 have n3:=TO.n3
 have b6:=TO.b6
 refine ⟨k0,?_⟩
 refine ⟨λk Γ=>∃ s6 s7 s8 s9 s10 s11 s12:Sl,Γ=[.sh (wB n bs ms u),.sh (.int (n:Int)),.sh (.lst (bs.map yN)),.sh (.lst (ms.map xX)),.sh (.int u),.ow ((ms.take k).map (wM ag)),s6,s7,s8,s9,s10,s11,s12],⟨_,_,_,_,_,_,_,rfl⟩,?_,?_⟩
 ·rintro k d Γ' hk ⟨s6,s7,s8,s9,s10,s11,s12,rfl⟩
  have kl:=(List.getElem?_eq_some_iff.mp hk).1
  rw [List.length_map] at kl
  rw [List.getElem?_map,List.getElem?_eq_getElem kl] at hk
  cases hk
  generalize hm:ms[k]=m
  have o:=TO.mok m (hm ▸ List.getElem_mem kl)
  have hk2:ms[k]? = some m:=by rw [List.getElem?_eq_getElem kl,hm]
  refine xc L zg uQ L (by rw [o.nexts.1]; omega) (λr hr=>rfl) ?_
  refine xc L zg uQ L (by rw [o.push.1]; omega) (λr hr=>rfl) ?_
  refine ⟨_,_,_,_,_,_,rfl,qY o.few (λr hr=>by rw [o.rows r hr]; omega),jh (by rw [o.nexts.1]; omega) (λr hr=>by rw [o.nexts.2 r hr]; omega),vb (by rw [o.steer]; omega),jh (by rw [o.push.1]; omega) (λr hr=>by rw [o.push.2 r hr]; omega),vb (by rw [o.add]; omega),by rw [List.length_map,List.length_take]; omega,?_⟩
  refine ⟨.sh (Rm m.rows),.sh (Tb m.nexts),.sh (L m.steer),.sh (Tb m.push),.sh (L m.add),.sh (.int m.div),.sh (Tb m.nexts),?_⟩
  rw [uz hk2,List.map_append]
  rfl
 ·rintro Γ' ⟨s6,s7,s8,s9,s10,s11,s12,rfl⟩
  rw [List.length_map,List.take_length]
  exact ⟨n,bs,ms,rfl,TO,q⟩
end
theorem qk {α β:Type} {f:α->β} {l:List α} {k:Nat} {y:β} (h:(l.map f)[k]? = some y):∃ x,l[k]? = some x/\f x=y:=by
 rw [List.getElem?_map] at h
 cases c:l[k]? with
 | none=>rw [c] at h; cases h
 | some x=>rw [c] at h; cases h; exact ⟨x,rfl,rfl⟩
def yG:List Int->List (Int × Int)->Int
 | x :: xs,b :: bs=>max (x * b.1) (x * b.2) + yG xs bs
 | _,_=>0
theorem zJa:∀ {xs:List Int} {bs:List (Int × Int)} {x:Int} {b:Int × Int},xs.length=bs.length->yG (xs++[x]) (bs++[b])=yG xs bs + max (x * b.1) (x * b.2)
 | [],[],x,b,_=>by show max (x * b.1) (x * b.2) + 0=0 + max (x * b.1) (x * b.2); omega
 | [],_ :: _,_,_,h=>nomatch h
 | _ :: _,[],_,_,h=>nomatch h
 | y :: xs,c :: bs,x,b,h=>by
  show max (y * c.1) (y * c.2) + yG (xs++[x]) (bs++[b])=max (y * c.1) (y * c.2) + yG xs bs + max (x * b.1) (x * b.2)
  rw [zJa (Nat.succ.inj h)]
  omega
theorem gm {e f:Nat}:∀ {xs:List Int} {bs:List (Int × Int)},(∀ x∈xs,Bd f x)->(∀ b∈bs,Bd e b.1/\Bd e b.2)->Bd (f + e + xs.length) (yG xs bs)
 | [],_,_,_=>wg
 | _ :: _,[],_,_=>wg
 | x :: xs,b :: bs,h,k=>by
  have h1:=Wf ((h x List.mem_cons_self).mul (k b List.mem_cons_self).1) ((h x List.mem_cons_self).mul (k b List.mem_cons_self).2)
  have h2:=gm (xs:=xs) (bs:=bs) (λy hy=>h y (List.mem_cons_of_mem _ hy)) λc hc=>k c (List.mem_cons_of_mem _ hc)
  exact (h1.mono (Nat.le_add_right _ _)).add h2
theorem zJZ:∀ (xs:List Int) (bs:List (Int × Int)),yG (xs.take (min xs.length bs.length)) (bs.take (min xs.length bs.length))=yG xs bs
 | [],bs=>by rw [List.length_nil,Nat.zero_min]; rfl
 | x :: xs,[]=>by rw [List.length_nil,Nat.min_zero]; rfl
 | x :: xs,b :: bs=>by
  rw [List.length_cons,List.length_cons,Nat.succ_min_succ,List.take_succ_cons,List.take_succ_cons]
  show _ + yG _ _=_ + yG _ _
  rw [zJZ xs bs]
def Wi:FL:=λds R=>∃ (d:D) (ns:List Int) (bs:List (Int × Int)) (e:Nat),ds=[d,.lst (bs.map yN)]/\IS d ns/\ns.length<=3/\(∀ x∈ns,Bd 10 x)/\e<=500/\(∀ b∈bs,Bd e b.1/\Bd e b.2)/\R (.int (yG ns bs))
structure jn (n w:Nat) (m:MD):Prop where
 ok:xH m n w
 nx:∀ r∈m.nexts,∀ x∈r,Bd 4 x
 ps:∀ r∈m.push,∀ x∈r,Bd 4 x
 ad:∀ x∈m.add,Bd 110 x
 st:∀ x∈m.steer,x=0
 dv:Bd 3 m.div
 r1:m.rows.length<=1
 rb:∀ r∈m.rows,(∀ x∈r.take n,Bd 4 x)/\∀ x∈r,Bd 110 x
theorem jn.mse {n w:Nat} {m:MD} (h:jn n w m):uq 200 m:=⟨λr hr x hx=>(h.nx r hr x hx).mono,λx hx=>by rw [h.st x hx]; exact wg,λr hr x hx=>(h.ps r hr x hx).mono,λx hx=>(h.ad x hx).mono,h.dv.mono,λr hr x hx=>((h.rb r hr).2 x hx).mono,by have:=h.r1; omega⟩
def fMd:FL:=λds R=>∃ (c:Int) (n w:Nat) (u:Int) (sp:Bool),ds=[.int c,.int (n:Int),.int (w:Int),.int u,.bool sp]/\1<=n/\n<=3/\w<=2/\1<=u/\Bd 100 u/\∀ m,jn n w m->R (xX m)
structure vq (n:Nat) (bs:List (Int × Int)) (ms:List MD) (u:Int):Prop where
 n1:1<=n
 n3:n<=3
 b2:bs.length<=2
 bb:∀ b∈bs,b.1<=b.2/\Bd 105 b.1/\Bd 105 b.2
 m1:1<=ms.length
 m3:ms.length<=3
 md:∀ m∈ms,jn n bs.length m
 u1:1<=u
 bu:Bd 100 u
theorem vq.ok {n:Nat} {bs:List (Int × Int)} {ms:List MD} {u:Int} (h:vq n bs ms u):wp n bs ms:=⟨h.n1,h.n3,λb hb=>(h.bb b hb).1,by have:=h.b2; omega,h.m1,by have:=h.m3; omega,λm hm=>(h.md m hm).ok⟩
theorem vq.cl {n:Nat} {bs:List (Int × Int)} {ms:List MD} {u:Int} (h:vq n bs ms u):gY ms=true:=List.all_eq_true.mpr λm hm=>List.all_eq_true.mpr λx hx=>decide_eq_true ((h.md m hm).st x hx)
theorem vq.ths {n:Nat} {bs:List (Int × Int)} {ms:List MD} {u:Int} (h:vq n bs ms u):gb n bs ms:=⟨h.ok,λm hm=>(h.md m hm).mse.ms (by decide),λb hb=>⟨(h.bb b hb).2.1.mono,(h.bb b hb).2.2.mono⟩⟩
def fTh:FL:=λds R=>∃ ns,ds=[.scr ns]/\∀ n bs ms u,vq n bs ms u->R (wB n bs ms u)
section
variable {P:Program} {w:World} {K:PySem.W.Frag} {mg:Str->Option Value} {base:Heap}
abbrev QM:Stmt:=zp 83
theorem Yn:zh ["_law_numbers","_law_box_here","_law_found","_law_number_here","_law_bounds"] ["_law_numbers","_law_box_here"] (zK QM):=.a
abbrev ql:Stmt:=zp 78
theorem jJ:zh ["_law_cell","_law_many","_law_wide","_law_unit","_law_split","_law_xs","_law_divisor","_law_nexts","_law_push","_law_i","_law_add","_law_rows_here","_law_row"] ["_law_cell","_law_many","_law_wide","_law_unit","_law_split"] (zK ql):=.a
abbrev QN:Stmt:=zp 79
theorem ug:zh ["_law_script","_law_first","_law_second","_law_unit","_law_many","_law_pushes","_law_k","_law_x","_law_modes","_law_cell"] ["_law_script"] (zK QN):=.a
variable {ag ah aClaim aSettles aComes aPaper aRooms aFalls:Addr} (aa:zE K mg "Mode" ag) (ab:wz K ag) (ac:zE K mg "Thing" ah) (ae:w4 K ah) (TClaim:zE K mg "Claim" aClaim) (AClaim:w6 K aClaim) (TSettles:zE K mg "Settles" aSettles) (ASettles:w8 K aSettles) (TComes:zE K mg "Comes" aComes) (AComes:vA K aComes) (TPaper:zE K mg "Paper" aPaper) (APaper:vB K aPaper) (TRooms:zE K mg "Rooms" aRooms) (ARooms:vC K aRooms) (TFalls:zE K mg "Falls" aFalls) (AFalls:vD K aFalls)
include aa ab ac ae TClaim AClaim TSettles ASettles TComes AComes TPaper APaper TRooms ARooms TFalls AFalls
theorem zN3 {k:Nat} {f:Addr} {fd:FuncData} (F:zj K "_law_top" "_law_top" QM f fd) (B:Bl mg):zG P w K mg base zY (k + 1) f fd ["_law_numbers","_law_box_here"] (zJ (Wi)):=by
 refine zx F Yn (λds R h=>by obtain ⟨d,ns,bs,ee,rfl,_⟩:=h; rfl) λcdv A outer s H E hr=>⟨_,(zL (zv 2 Yn.nd rfl (Or.inl rfl) zF)
  (zL (wL PassesOwn.never rfl (qN rfl B.zip_ (zB (zA 0) (zB (zA 1) zC))) (wK rfl (zw 3 Yn.nd rfl (Or.inl rfl) (zw 4 Yn.nd rfl (Or.inl rfl) wJ))) (zP (zv 2 Yn.nd rfl (Or.inl rfl) (zr (zA 2) (zy (XF rfl) Xp rfl B.max_ k8 (zB (xE (zA 3) (zV (zA 4) zF (λ_ _=>rfl))) (zB (xE (zA 3) (zV (zA 4) zF (λ_ _=>rfl))) zC)))))))
  (zP (zX (zA 2))))),λds R h=>?_⟩
 obtain ⟨d,ns,bs,ee,rfl,h,l3,bn,e5,bb,q⟩:=h
 refine h.zipL ?_
 refine ⟨λk Γ=>∃ (s3 s4:Sl),Γ=[.sh d,.sh (.lst (bs.map yN)),.sh (.int (yG (ns.take k) (bs.take k))),s3,s4],⟨.no,.no,rfl⟩,?_,?_⟩
 ·rintro k d' Γ' hk ⟨s3,s4,rfl⟩
  obtain ⟨x1,b1,h1,h2,rfl⟩:=JA _ hk
  obtain ⟨x,hx,rfl⟩:=qk h1
  obtain ⟨b,hb,rfl⟩:=qk h2
  have hx':=bn x (List.mem_of_getElem? hx)
  have hb':=bb b (List.mem_of_getElem? hb)
  have kx:=(List.getElem?_eq_some_iff.mp hx).1
  have kb:=(List.getElem?_eq_some_iff.mp hb).1
  refine ⟨_,rfl,hx'.mono,hb'.1.mono (by omega),_,rfl,hx'.mono,hb'.2.mono (by omega),.sh (.int x),.sh (yN b),?_⟩
  rw [uz hx,uz hb,zJa (by rw [List.length_take,List.length_take]; omega)]
  rfl
 ·rintro Γ' ⟨s3,s4,rfl⟩
  rw [List.length_zipWith,List.length_map,List.length_map,zJZ]
  exact q
theorem zMD {k:Nat} {f:Addr} {fd:FuncData} (F:zj K "_law_mode" "_law_mode" ql f fd) (B:Bl mg) (am:Fn P w K mg base "_law_stream" ["_law_cell","_law_many"] k (zJ (qj))) (ao:Fn P w K mg base "_law_number" ["_law_x","_law_far"] k (zJ (Yh))):zG P w K mg base zY (k + 1) f fd ["_law_cell","_law_many","_law_wide","_law_unit","_law_split"] (zJ (fMd)):=by
 refine zx F jJ (λds R h=>by obtain ⟨c,n,w,u,sp,rfl,_⟩:=h; rfl) λcdv A outer s H E hr=>⟨_,(zL (zv 5 jJ.nd rfl (Or.inr rfl) (zQ am hr rfl (zB (zA 0) (zB zF zC))))
  (zL (zv 6 jJ.nd rfl (Or.inr rfl) (zr zF (xB (zV (zA 5) zF (λ_ _=>rfl)) zF)))
  (zL (va 7 jJ.nd rfl (Or.inl rfl) zC)
  (zL (va 8 jJ.nd rfl (Or.inl rfl) zC)
  (zL (wL PassesOwn.never rfl (xK rfl B.range_ (zB (zA 1) zC)) (zq 9 jJ.nd rfl (Or.inr rfl)) (zL (yM (wE (wQ PySem.F.plainAttrs_list PySem.F.slot_list_append PySem.F.type_list_append yb (yi 7) (zi (yI (own:=["_law_j"]) (caps:=[(5,"_law_xs"),(6,"_law_divisor"),(9,"_law_i")]) (yB (S:=zK ql) (N:=["_law_cell","_law_many","_law_wide","_law_unit","_law_split","_law_xs","_law_divisor","_law_nexts","_law_push","_law_i","_law_add","_law_rows_here","_law_row"]) rfl (by decide +kernel) rfl ⟨_,rfl⟩ rfl (by decide +kernel) (by decide +kernel)) rfl rfl yD (xK rfl B.range_ (zB (zA 1) zC)) (λ_ _ _ _=>(zq 0 (show (["_law_j","_law_xs","_law_divisor","_law_i"]:List Str).Nodup by decide +kernel) rfl (Or.inl rfl))) (λ_ _ _ _=>(zQ ao hr rfl (zB (zV (zA 1) (zr (zr zF (xE zF (zA 3))) (zA 0)) (λ_ _=>rfl)) (zB (zV (y8 (zB zF (zB (xr (zA 2) zF) zC))) (xV XG zM2 rfl B.int_ kz (zB (uM hr.units (zA 3) (zA 0)) zC)) (λ_ _=>rfl)) zC))))) yE))) wY)
   (zP (yM (wE (wQ PySem.F.plainAttrs_list PySem.F.slot_list_append PySem.F.type_list_append yb (yi 8) (zi (yI (own:=["_law_j"]) (caps:=[(5,"_law_xs"),(9,"_law_i")]) (yB (S:=zK ql) (N:=["_law_cell","_law_many","_law_wide","_law_unit","_law_split","_law_xs","_law_divisor","_law_nexts","_law_push","_law_i","_law_add","_law_rows_here","_law_row"]) rfl (by decide +kernel) rfl ⟨_,rfl⟩ rfl (by decide +kernel) (by decide +kernel)) rfl rfl yD (xK rfl B.range_ (zB (zA 2) zC)) (λ_ _ _ _=>(zq 0 (show (["_law_j","_law_xs","_law_i"]:List Str).Nodup by decide +kernel) rfl (Or.inl rfl))) (λ_ _ _ _=>(zQ ao hr rfl (zB (zV (zA 1) (zr (zr zF (xE zF (zA 2))) (zA 0)) (λ_ _=>rfl)) (zB zF zC))))) yE))) wY))))
  (zL (uO 10 false jJ.nd rfl rfl (own:=["_law_i"]) (caps:=[(3,"_law_unit"),(5,"_law_xs")]) (yB (S:=zK ql) (N:=["_law_cell","_law_many","_law_wide","_law_unit","_law_split","_law_xs","_law_divisor","_law_nexts","_law_push","_law_i","_law_add","_law_rows_here","_law_row"]) rfl (by decide +kernel) rfl ⟨_,rfl⟩ rfl (by decide +kernel) (by decide +kernel)) rfl rfl yD (xK rfl B.range_ (zB (zA 1) zC)) (λ_ _ _ _=>(zq 0 (show (["_law_i","_law_unit","_law_xs"]:List Str).Nodup by decide +kernel) rfl (Or.inl rfl))) (λ_ _ _ _=>(xE (zQ ao hr rfl (zB (zV (zA 2) (zr zF (zA 0)) (λ_ _=>rfl)) (zB zF zC))) (xB (zV (zA 2) zF (λ_ _=>rfl)) (zA 1)))) rfl)
  (zL (va 11 jJ.nd rfl (Or.inl rfl) zC)
  (jA (yR (yc (zA 4)) (zL (uO 12 false jJ.nd rfl rfl (own:=["_law_i"]) (caps:=[(5,"_law_xs")]) (yB (S:=zK ql) (N:=["_law_cell","_law_many","_law_wide","_law_unit","_law_split","_law_xs","_law_divisor","_law_nexts","_law_push","_law_i","_law_add","_law_rows_here","_law_row"]) rfl (by decide +kernel) rfl ⟨_,rfl⟩ rfl (by decide +kernel) (by decide +kernel)) rfl rfl yD (xK rfl B.range_ (zB (zA 1) zC)) (λ_ _ _ _=>(zq 0 (show (["_law_i","_law_xs"]:List Str).Nodup by decide +kernel) rfl (Or.inl rfl))) (λ_ _ _ _=>(zQ ao hr rfl (zB (zV (zA 1) (zr zF (zA 0)) (λ_ _=>rfl)) (zB zF zC)))) rfl)
   (zP (yM (wE (wQ PySem.F.plainAttrs_list PySem.F.slot_list_append PySem.F.type_list_append yb (yi 11) (zi (xV uX ud rfl B.tuple_ vI (zB (zr (zA 12) (y8 (zB (xE (zQ ao hr rfl (zB (zV (zA 5) zF (λ_ _=>rfl)) (zB zF zC))) (zA 3)) zC))) zC)) yE))) wY))) yQ)
  (zP (ww 7 (ww 8 (ww 11 (zX (x8 (zB (zA 11) (zB (zA 7) (zB (xE (y8 (zB zF zC)) (zA 1)) (zB (zA 8) (zB (zA 10) (zB (zA 6) zC)))))))))))))))))))),λds R h=>?_⟩
 obtain ⟨c,n,w,u,sp,rfl,n1,n3,wb,u1,bu,q⟩:=h
 refine ⟨c,24,rfl,by decide,λxs lx hx=>?_⟩
 refine xf (by decide) (by omega) λx0 _=>⟨by decide,?_⟩
 have d0:=md x0 (show (0:Int) < 4 by decide)
 obtain ⟨dv,hdv⟩:∃ dv,dv=2 + x0.fmod 4:=⟨_,rfl⟩
 have dv1:2<=dv:=by omega
 have dv5:dv<=5:=by omega
 have bdv:Bd 3 dv:=uB (f:=7) (by decide) (by omega) (by omega)
 refine ⟨k0,k0,by omega,by omega,?_⟩
 rw [show ((n:Nat):Int).toNat=n by omega]
 refine ⟨λk Γ=>∃ (N P:List (List Int)) (s9:Sl),Γ=[.sh (.int c),.sh (.int (n:Int)),.sh (.int (w:Int)),.sh (.int u),.sh (.bool sp),.sh (L xs),.sh (.int dv),.ow (N.map L),.ow (P.map L),s9,.no,.no,.no]/\N.length=k/\P.length=k/\(∀ r∈N,r.length=n/\∀ x∈r,Bd 4 x)/\∀ r∈P,r.length=w/\∀ x∈r,Bd 4 x,⟨[],[],.no,by rw [hdv]; rfl,rfl,rfl,λ_ h=>(nomatch h),λ_ h=>(nomatch h)⟩,?_,?_⟩
 ·rintro k d Γ' hk ⟨N,P,s9,rfl,lN,lP,hN,hP⟩
  obtain ⟨kn,rfl⟩:=v7 hk
  have bk:Bd 2 (k:Int):=Yg (by omega)
  refine ⟨by omega,by omega,?_⟩
  rw [show ((n:Nat):Int).toNat=n by omega]
  refine zl.nums (λx=>Bd 4 x) (by omega) (λj hj=>?_) λns ln hn=>?_
  ·refine ⟨(Bd.lit (i:=3) (n:=2)).mono,bk.mono,xf (by omega) (by omega) λx1 _=>⟨k0,ve (by split <;> decide) (by show _ < (2:Int); split <;> decide) λz hz=>?_⟩⟩
   obtain ⟨f,rfl,f1,f4⟩:∃ f,z=.int f/\1<=f/\f<=4:=by
    simp only [List.mem_cons,List.not_mem_nil,or_false] at hz
    rcases hz with rfl | rfl
    ·exact ⟨_,rfl,by decide,by decide⟩
    ·exact ⟨_,rfl,by omega,by omega⟩
   exact ⟨_,f,rfl,by omega,Bd.mono (n:=3) (uB (f:=7) (by decide) (by omega) (by omega)) (by decide),λy y1 y2=>⟨y,rfl,uB (f:=15) (by decide) (by omega) (by omega)⟩⟩
  refine ⟨by rw [List.length_map]; omega,by omega,by omega,?_⟩
  rw [show ((w:Nat):Int).toNat=w by omega]
  refine zl.nums (λx=>Bd 4 x) (by omega) (λj hj=>?_) λps lps hps=>?_
  ·exact ⟨(Bd.lit (i:=2) (n:=2)).mono,bk.mono,xf (by omega) (by omega) λx1 _=>⟨_,2,rfl,by decide,(Bd.lit (i:=2) (n:=2)).mono,λy y1 y2=>⟨y,rfl,uB (f:=15) (by decide) (by omega) (by omega)⟩⟩⟩
  refine ⟨by rw [List.length_map]; omega,N++[ns],P++[ps],.sh (.int (k:Int)),by rw [List.map_append,List.map_append]; rfl,by rw [List.length_append,lN]; rfl,by rw [List.length_append,lP]; rfl,vE hN ⟨ln,hn⟩,vE hP ⟨lps,hps⟩⟩
 rintro Γ' ⟨N,P,s9,rfl,lN,lP,hN,hP⟩
 rw [v8] at lN lP
 refine ⟨by omega,by omega,?_⟩
 rw [show ((n:Nat):Int).toNat=n by omega]
 refine zl.nums (λx=>Bd 110 x) (by omega) (λi hi=>?_) λad lad had=>?_
 ·refine xf (by omega) (by omega) λx1 _=>⟨_,2,rfl,by decide,(Bd.lit (i:=2) (n:=2)).mono,λy y1 y2=>xf (by decide) (by omega) λx2 _=>⟨by omega,?_⟩⟩
  have by2:Bd 2 y:=uB (f:=3) (by decide) (by omega) (by omega)
  have bm:Bd 100 (x2.fmod u):=vp bu (by omega)
  exact ⟨by2.mono,bm.mono,_,rfl,(by2.mul bm).mono⟩
 refine ⟨k0,λΓ=>∃ (rows:List (List Int)) (s12:Sl),Γ=[.sh (.int c),.sh (.int (n:Int)),.sh (.int (w:Int)),.sh (.int u),.sh (.bool sp),.sh (L xs),.sh (.int dv),.ow (N.map L),.ow (P.map L),s9,.sh (L ad),.ow (rows.map U),s12]/\rows.length<=1/\∀ r∈rows,r.length=n + 1/\(∀ x∈r.take n,Bd 4 x)/\∀ x∈r,Bd 110 x,w2 (λc1=>?_) λc1=>⟨[],_,rfl,by decide,λ_ h=>nomatch h⟩,?_⟩
 ·refine ⟨by omega,by omega,?_⟩
  rw [show ((n:Nat):Int).toNat=n by omega]
  refine zl.nums (λx=>Bd 2 x) (by omega) (λi hi=>?_) λrw_ lrw hrw=>?_
  ·exact xf (by omega) (by omega) λx3 _=>⟨_,1,rfl,by decide,(Bd.lit (i:=1) (n:=1)).mono,λy y1 y2=>⟨y,rfl,uB (f:=3) (by decide) (by omega) (by omega)⟩⟩
  refine xf (by decide) (by omega) λx4 _=>⟨_,3,rfl,by decide,(Bd.lit (i:=3) (n:=2)).mono,λy y1 y2=>?_⟩
  have by3:Bd 3 y:=uB (f:=7) (by decide) (by omega) (by omega)
  refine ⟨by3.mono,bu.mono,k0,by rw [List.length_map]; show _ + 1<=1000; omega,by decide,[rw_++[y * u]],.sh (L rw_),?_,by show 1<=1; decide,λr hr=>?_⟩
  ·rw [List.map_cons,List.map_nil,U,List.map_append]
   rfl
  ·rw [List.mem_singleton.mp hr]
   exact ⟨by rw [List.length_append,lrw]; rfl,λx hx=>by
    rw [List.take_append_of_le_length (by omega),List.take_of_length_le (by omega)] at hx
    exact (hrw x hx).mono,vE (λx hx=>(hrw x hx).mono) ((by3.mul bu).mono)⟩
 rintro Γ' ⟨rows,s12,rfl,lr,hr⟩
 have rep:D.lst (List.replicate n (D.int 0))=L (List.replicate n 0):=by unfold L; rw [List.map_replicate]
 refine ⟨k0,by omega,by omega,?_⟩
 rw [show ((n:Nat):Int).toNat=n by omega,rep]
 exact ⟨k0,q ⟨rows,N,List.replicate n 0,P,ad,dv⟩ ⟨⟨λr h=>(hr r h).1,by show rows.length<=900; omega,⟨lN,λr h=>(hN r h).1⟩,List.length_replicate ..,⟨lP,λr h=>(hP r h).1⟩,lad,by show 1<=dv; omega,n3,by omega⟩,λr h=>(hN r h).2,λr h=>(hP r h).2,had,λx hx=>List.eq_of_mem_replicate hx,bdv,lr,λr h=>(hr r h).2⟩⟩
theorem zKp {k:Nat} {f:Addr} {fd:FuncData} (F:zj K "_law_thing" "_law_thing" QN f fd) (B:Bl mg) (aw:Fn P w K mg base "_law_cell_at" ["_law_script","_law_k"] k (zJ (QF))) (bS:Fn P w K mg base "_law_mode" ["_law_cell","_law_many","_law_wide","_law_unit","_law_split"] k (zJ (fMd))):zG P w K mg base zY (k + 1) f fd ["_law_script"] (zJ (fTh)):=by
 refine zx F ug (λds R h=>by obtain ⟨ns,rfl,_⟩:=h; rfl) λcdv A outer s H E hr=>⟨_,(zL (zv 1 ug.nd rfl (Or.inl rfl) (zQ aw hr rfl (zB (zA 0) (zB zF zC))))
  (zL (zv 2 ug.nd rfl (Or.inl rfl) (zQ aw hr rfl (zB (zA 0) (zB zF zC))))
  (zL (zv 3 ug.nd rfl (Or.inl rfl) (zr zF (xB (wu (zA 1) zF) (zV (y8 (zB zF (zB zF (zB (u8 zF zF) (zB (u8 zF zF) zC))))) (xB (zA 1) zF) (λ_ _=>rfl)))))
  (zL (zv 4 ug.nd rfl (Or.inl rfl) (zV (y8 (zB zF (zB zF (zB zF (zB zF (zB zF (zB zF zC))))))) (xB (zA 2) zF) (λ_ _=>rfl)))
  (zL (va 5 ug.nd rfl (Or.inl rfl) zC)
  (zL (wL PassesOwn.never rfl (xK rfl B.range_ (zB (xB (wu (zA 2) zF) zF) zC)) (zq 6 ug.nd rfl (Or.inl rfl)) (zL (zv 7 ug.nd rfl (Or.inl rfl) (wu (zA 2) (zr zF (xE zF (zA 6)))))
   (zP (yM (wE (wQ PySem.F.plainAttrs_list PySem.F.slot_list_append PySem.F.type_list_append yb (yi 5) (zi (x8 (zB (xr zF (xE (xB (zA 7) zF) (zA 3))) (zB (xE (xB (wu (zA 7) zF) zF) (zA 3)) zC))) yE))) wY))))
  (zL (va 8 ug.nd rfl (Or.inl rfl) zC)
  (zL (ww 5 (wL PassesOwn.never rfl (xK rfl B.range_ (zB (zr zF (xB (wu (zA 2) zF) zF)) zC)) (zq 6 ug.nd rfl (Or.inl rfl)) (zL (zv 9 ug.nd rfl (Or.inl rfl) (zr (zQ aw hr rfl (zB (zA 0) (zB (zr zF (zA 6)) zC))) (zA 6)))
   (zP (yM (wE (wQ PySem.F.plainAttrs_list PySem.F.slot_list_append PySem.F.type_list_append yb (yi 8) (zi (zQ bS hr rfl (zB (zA 9) (zB (zA 4) (zB (zy yf yo rfl B.len_ yh (zB (zA 5) zC)) (zB (zA 3) (zB (uM hr.units (xB (wu (zA 2) zF) zF) zF) zC)))))) yE))) wY)))))
  (zP (ww 8 (zX (x8 (zB (zA 4) (zB (zA 5) (zB (zA 8) (zB (zA 3) zC)))))))))))))))),λds R h=>?_⟩
 obtain ⟨ns,rfl,q⟩:=h
 refine ⟨ns,0,rfl,by decide,λfirst=>⟨ns,1,rfl,by decide,λsecond=>?_⟩⟩
 have key:∀ x∈[D.int 3,D.int 9,D.int (10 ^ (15:Int).toNat),D.int (10 ^ (30:Int).toNat)],vY (λv=>1<=v/\Bd 100 v) x:=λx hx=>by
  simp only [List.mem_cons,List.not_mem_nil,or_false] at hx
  rcases hx with rfl | rfl | rfl | rfl <;> exact ⟨_,rfl,by decide,Bd.lit⟩
 have f4:=md first (show (0:Int) < 4 by decide)
 refine ⟨by decide,(Bd.lit (i:=4) (n:=3)).mono,⟨by decide,by decide,by decide⟩,⟨by decide,by decide,by decide⟩,k0,by decide,ve f4.1 (by show first.fmod 4 < 4; omega) λx hxk=>?_⟩
 obtain ⟨v,rfl,v1,bv⟩:=key x hxk
 have fv:=md (first.fdiv 4) (show (0:Int) < v by omega)
 obtain ⟨u,hu⟩:∃ u,u=1 + (first.fdiv 4).fmod v:=⟨_,rfl⟩
 have u1:1<=u:=by omega
 have bu:Bd 100 u:=bv.of_le (by omega)
 refine ⟨by omega,?_⟩
 have s6:=md second (show (0:Int) < 6 by decide)
 refine ⟨k0,by decide,ve s6.1 (by show second.fmod 6 < 6; omega) λz hz=>?_⟩
 obtain ⟨n,rfl,n1,n3⟩:∃ n:Nat,z=.int (n:Int)/\1<=n/\n<=3:=by
  simp only [List.mem_cons,List.not_mem_nil,or_false] at hz
  rcases hz with rfl | rfl | rfl | rfl | rfl | rfl
  ·exact ⟨1,rfl,by decide,by decide⟩
  ·exact ⟨2,rfl,by decide,by decide⟩
  ·exact ⟨2,rfl,by decide,by decide⟩
  ·exact ⟨1,rfl,by decide,by decide⟩
  ·exact ⟨3,rfl,by decide,by decide⟩
  ·exact ⟨2,rfl,by decide,by decide⟩
 have p3:=md (second.fdiv 6) (show (0:Int) < 3 by decide)
 refine ⟨k0,by decide,(Bd.lit (i:=6) (n:=3)).mono,by decide,by omega,by omega,?_⟩
 refine ⟨λk Γ=>∃ (bs:List (Int × Int)) (s6 s7:Sl),Γ=[.sh (.scr ns),.sh (.int first),.sh (.int second),.sh (.int u),.sh (.int (n:Int)),.ow (bs.map yN),s6,s7,.no,.no]/\bs.length=k/\∀ b∈bs,b.1<=b.2/\Bd 105 b.1/\Bd 105 b.2,⟨[],.no,.no,by rw [hu]; rfl,rfl,λ_ h=>nomatch h⟩,?_,?_⟩
 ·rintro k d Γ' hk ⟨bs,s6,s7,rfl,lb,hb⟩
  obtain ⟨kn,rfl⟩:=v7 hk
  have bk:Bd 2 (k:Int):=Yg (by omega)
  refine ⟨(Bd.lit (i:=11) (n:=4)).mono,bk.mono,by omega,Bd.mono (n:=10) (uB (f:=1000) (by decide) (by omega) (by omega)) (by decide),?_⟩
  obtain ⟨x,hx⟩:∃ x,x=second.fdiv (18 + 11 * (k:Int)):=⟨_,rfl⟩
  have a1:=md x (show (0:Int) < 3 by decide)
  have a2:=md (x.fdiv 3) (show (0:Int) < 3 by decide)
  rw [<- hx]
  have g1:0<=x.fmod 3 * u:=Int.mul_nonneg a1.1 (by omega)
  have g2:0<=(x.fdiv 3).fmod 3 * u:=Int.mul_nonneg a2.1 (by omega)
  have c1:Bd 102 (x.fmod 3 * u):=(vp (n:=2) Bd.lit (by decide)).mul bu
  have c2:Bd 102 ((x.fdiv 3).fmod 3 * u):=(vp (n:=2) Bd.lit (by decide)).mul bu
  refine ⟨by decide,Bd.mono (n:=2) (vp Bd.lit (by decide)) (by decide),bu.mono,by decide,(Bd.lit (i:=3) (n:=2)).mono,by decide,Bd.mono (n:=2) (vp Bd.lit (by decide)) (by decide),bu.mono,k0,by rw [List.length_map]; omega,?_⟩
  exact ⟨bs++[(0 - x.fmod 3 * u,(x.fdiv 3).fmod 3 * u)],.sh (.int (k:Int)),.sh (.int x),by rw [List.map_append]; rfl,by rw [List.length_append,lb]; rfl,vE hb ⟨by show 0 - x.fmod 3 * u<=(x.fdiv 3).fmod 3 * u; omega,by rw [Int.zero_sub]; exact c1.neg.mono,c2.mono⟩⟩
 rintro Γ' ⟨bs,s6,s7,rfl,lb,hb⟩
 rw [v8] at lb
 have lm:(List.map yN bs).length=bs.length:=List.length_map ..
 have p4:=md (second.fdiv 54) (show (0:Int) < 3 by decide)
 refine ⟨k0,by decide,(Bd.lit (i:=54) (n:=6)).mono,by decide,by omega,by omega,?_⟩
 refine ⟨λk Γ=>∃ (ms:List MD) (s6 s9:Sl),Γ=[.sh (.scr ns),.sh (.int first),.sh (.int second),.sh (.int u),.sh (.int (n:Int)),.sh (.lst (bs.map yN)),s6,s7,.ow (ms.map xX),s9]/\ms.length=k/\∀ m∈ms,jn n bs.length m,⟨[],_,.no,rfl,rfl,λ_ h=>nomatch h⟩,?_,?_⟩
 ·rintro k d Γ' hk ⟨ms,s6,s9,rfl,lms,hms⟩
  obtain ⟨kn,rfl⟩:=v7 hk
  refine ⟨ns,2 + (k:Int),rfl,by omega,λcc=>?_⟩
  refine ⟨by decide,(Bd.lit (i:=162) (n:=8)).mono,by decide,cc + (k:Int),n,bs.length,u,_,by rw [<- lm],n1,n3,by omega,u1,bu,λm hm=>⟨by rw [List.length_map]; omega,ms++[m],.sh (.int (k:Int)),.sh (.int (cc + (k:Int))),by rw [List.map_append]; rfl,by rw [List.length_append,lms]; rfl,vE hms hm⟩⟩
 rintro Γ' ⟨ms,s6,s9,rfl,lms,hms⟩
 rw [v8] at lms
 exact ⟨k0,q n bs ms u ⟨n1,n3,by omega,hb,by omega,by omega,hms,u1,bu⟩⟩
end
def xS (xs:List Int):List Int:=xs.map λx=>0 - x
theorem gn {e:Nat} {xs:List Int} (h:∀ x∈xs,Bd e x):∀ x∈xS xs,Bd e x:=λx hx=>by
 obtain ⟨y,hy,rfl⟩:=List.mem_map.mp hx
 rw [Int.zero_sub]
 exact (h y hy).neg
theorem qm (xs:List Int):(xS xs).length=xs.length:=List.length_map ..
structure Bx (n e:Nat) (box:List (Int × Int)):Prop where
 len:box.length=n
 bd:∀ b∈box,Bd e b.1/\Bd e b.2
theorem Bx.mono {n e f:Nat} {box:List (Int × Int)} (h:Bx n e box) (l:e<=f:=by decide):Bx n f box:=⟨h.len,λb hb=>⟨(h.bd b hb).1.mono l,(h.bd b hb).2.mono l⟩⟩
abbrev zZ (box:List (Int × Int)):D:=.lst (box.map yN)
def vf (n:Nat) (box:List (Int × Int)) (m:MD):Bool:=m.rows.any λr=>decide (r.getD n 0 < 0 - yG (xS (r.take n)) box)
def qp:FL:=λds R=>∃ m n w box e,ds=[xX m,zZ box]/\jn n w m/\e<=400/\Bx n e box/\R (.bool (vf n box m))
def qr:FL:=λds R=>∃ n bs ms u box e,ds=[wB n bs ms u,zZ box]/\vq n bs ms u/\105<=e/\e<=380/\Bx n e box/\∀ box',Bx n (e + 20) box'->R (zZ box')
def zRa:FL:=λds R=>∃ a b n e,ds=[zZ a,zZ b]/\n<=3/\Bx n e a/\Bx n e b/\∀ box',Bx n e box'->R (zZ box')
def zRZ:FL:=λds R=>∃ n bs ms u box,ds=[wB n bs ms u,zZ box]/\vq n bs ms u/\Bx n 105 box/\∀ box',Bx n 210 box'->R (zZ box')
def Yo:D->MD
 | .tup [.lst r,.lst n,.lst s,.lst p,.lst a,.int d]=>⟨r.map zg,n.map zg,s.map zz,p.map zg,a.map zz,d⟩
 | _=>⟨[],[],[],[],[],0⟩
theorem zNO (m:MD):Yo (xX m)=m:=by
 show (⟨(m.rows.map U).map zg,(m.nexts.map L).map zg,(m.steer.map D.int).map zz,(m.push.map L).map zg,(m.add.map D.int).map zz,m.div⟩:MD)=m
 have e1:∀ t:List (List Int),(t.map U).map zg=t:=λt=>by rw [List.map_map]; exact (List.map_congr_left λr _=>jG r).trans (List.map_id _)
 have e2:∀ t:List (List Int),(t.map L).map zg=t:=λt=>by rw [List.map_map]; exact (List.map_congr_left λr _=>uQ r).trans (List.map_id _)
 have e3:∀ t:List Int,(t.map D.int).map zz=t:=λt=>by rw [List.map_map]; exact List.map_id _
 rw [e1,e2,e2,e3,e3]
theorem zPw (f:D->Bool) (ms:List MD):(ms.map xX).filter f=(ms.filter λm=>f (xX m)).map xX:=by rw [List.filter_map]; rfl
theorem zQp (n:Nat) (t:List (List Int)):(Tb t).pl (n + 4)=true:=List.all_eq_true.mpr λd h=>by
 obtain ⟨r,_,rfl⟩:=List.mem_map.mp h
 exact qK (n + 1) r
theorem zQq (n:Nat) (t:List (List Int)):(Rm t).pl (n + 4)=true:=List.all_eq_true.mpr λd h=>by
 obtain ⟨r,_,rfl⟩:=List.mem_map.mp h
 exact qK (n + 1) r
theorem zQn (n:Nat) (m:MD):(xX m).pl (n + 5)=true:=by
 show ([Rm m.rows,Tb m.nexts,L m.steer,Tb m.push,L m.add,D.int m.div].all (D.pl (n + 4)))=true
 simp only [List.all_cons,List.all_nil,Bool.and_true,zQp,zQq]
 rw [show (L m.steer).pl (n + 4)=true from qK (n + 2) _,show (L m.add).pl (n + 4)=true from qK (n + 2) _]
 rfl
theorem zQm (ms:List MD):(D.lst (ms.map xX)).pl 50=true:=List.all_eq_true.mpr λd h=>by
 obtain ⟨m,_,rfl⟩:=List.mem_map.mp h
 exact zQn 44 m
theorem qt {u:List Int->D} {rows:List (List Int)} {k:Nat} (h:k < rows.length):yL (rows.map u) (k:Int)=some (u (rows.getD k [])):=by
 rw [uk]
 unfold yL wG
 rw [if_pos (by omega),if_pos (by omega)]
 show Option.map u rows[((k:Nat):Int).toNat]? = _
 rw [show ((k:Nat):Int).toNat=k by omega,List.getElem?_eq_getElem h,List.getD_eq_getElem?_getD,List.getElem?_eq_getElem h]
 rfl
theorem jo {rows:List (List Int)} {k:Nat} (h:k < rows.length):rows.getD k []∈rows:=by
 rw [List.getD_eq_getElem?_getD,List.getElem?_eq_getElem h]
 exact List.getElem_mem _
def NoI (e:Nat) (d:D):Prop:=d=.non\/∃ a,d=.int a/\Bd e a
section
variable {P:Program} {w:World} {K:PySem.W.Frag} {mg:Str->Option Value} {base:Heap}
abbrev Wj:Stmt:=zp 84
theorem zFt:zh ["_law_mode_here","_law_box_here","_law_row"] ["_law_mode_here","_law_box_here"] (zK Wj):=.a
abbrev Wl:Stmt:=zp 86
theorem zLh:zh ["_law_one","_law_other_here"] ["_law_one","_law_other_here"] (zK Wl):=.a
abbrev gp:Stmt:=zp 85
theorem xm:zh ["_law_spec","_law_box_here","_law_many","_law_pushes","_law_modes","_law_unit","_law_found","_law_j","_law_low","_law_high","_law_rows_here","_law_nexts","_law_steer","_law_push","_law_add","_law_divisor","_law_up","_law_down"] ["_law_spec","_law_box_here"] (zK gp):=.a
abbrev QO:Stmt:=zp 87
theorem QP:zh ["_law_spec","_law_box_here","_law_turn"] ["_law_spec","_law_box_here"] (zK QO):=.a
variable {ag ah aClaim aSettles aComes aPaper aRooms aFalls:Addr} (aa:zE K mg "Mode" ag) (ab:wz K ag) (ac:zE K mg "Thing" ah) (ae:w4 K ah) (TClaim:zE K mg "Claim" aClaim) (AClaim:w6 K aClaim) (TSettles:zE K mg "Settles" aSettles) (ASettles:w8 K aSettles) (TComes:zE K mg "Comes" aComes) (AComes:vA K aComes) (TPaper:zE K mg "Paper" aPaper) (APaper:vB K aPaper) (TRooms:zE K mg "Rooms" aRooms) (ARooms:vC K aRooms) (TFalls:zE K mg "Falls" aFalls) (AFalls:vD K aFalls)
include aa ab ac ae TClaim AClaim TSettles ASettles TComes AComes TPaper APaper TRooms ARooms TFalls AFalls
theorem zI8 {k:Nat} {f:Addr} {fd:FuncData} (F:zj K "_law_beyond" "_law_beyond" Wj f fd) (B:Bl mg) (ar:Fn P w K mg base "_law_top" ["_law_numbers","_law_box_here"] k (zJ (Wi))):zG P w K mg base zY (k + 1) f fd ["_law_mode_here","_law_box_here"] (zJ (qp)):=by
 refine zx F zFt (λds R h=>by obtain ⟨m,n,w,box,ee,rfl,_⟩:=h; rfl) λcdv A outer s H E hr=>⟨_,(zL (wL PassesOwn.never rfl (yP (zV (zA 0) zF (λ_ _=>rfl))) (zq 2 zFt.nd rfl (Or.inl rfl)) (zP (yR (Ze (xr zF (zQ ar hr rfl (zB (yI (own:=["_law_c"]) (caps:=[]) (yB (S:=zK Wj) (N:=["_law_mode_here","_law_box_here","_law_row"]) rfl (by decide +kernel) rfl ⟨0,rfl⟩ rfl (by decide +kernel) (by decide +kernel)) rfl rfl yD (yP (xP (zA 2) xN (xO (xl zF)))) (λ_ _ _ _=>(zq 0 (show (["_law_c"]:List Str).Nodup by decide +kernel) rfl (Or.inl rfl))) (λ_ _ _ _=>(xr zF (zA 0)))) (zB (zA 1) zC)))) (zV (zA 2) (xl zF) (λ_ _=>rfl))) (zP (zX xk)) yQ)))
  (zP (zX xk))),λds R h=>?_⟩
 obtain ⟨m,n,w,box,ee,rfl,M1,e4,BX,q⟩:=h
 have r1:=M1.r1
 have n3:=M1.ok.n3
 refine ⟨_,rfl,?_⟩
 refine ⟨λk Γ=>∃ s2,Γ=[.sh (xX m),.sh (zZ box),s2]/\(m.rows.take k).any (λr=>decide (r.getD n 0 < 0 - yG (xS (r.take n)) box))=false,⟨.no,rfl,rfl⟩,?_,?_⟩
 ·rintro k d Γ' hk ⟨s2,rfl,ha⟩
  obtain ⟨r,hr,rfl⟩:=qk hk
  have hm:=List.mem_of_getElem? hr
  have lr:=M1.ok.rows r hm
  refine zl.cast (vo lr) (zl.int (λx=>0 - x) (by rw [List.length_take]; omega) (λx hx=>rfl) ⟨_,xS (r.take n),box,ee,rfl,.inl rfl,by rw [qm,List.length_take]; omega,gn λx hx=>((M1.rb r hm).1 x hx).mono,by omega,BX.bd,_,qe lr,w2 (λc=>bR q ?_) λc=>⟨_,rfl,?_⟩⟩)
  ·exact List.any_eq_true.mpr ⟨r,hm,c⟩
  ·rw [uz hr,List.any_append,ha,List.any_cons,List.any_nil]
   rw [show decide (r.getD n 0 < 0 - yG (xS (r.take n)) box)=false from c]
   rfl
 ·rintro Γ' ⟨s2,rfl,ha⟩
  rw [List.length_map,List.take_of_length_le (Nat.le_refl _)] at ha
  exact bR q ha
theorem zMG {k:Nat} {f:Addr} {fd:FuncData} (F:zj K "_law_hull" "_law_hull" Wl f fd) (B:Bl mg):zG P w K mg base zY (k + 1) f fd ["_law_one","_law_other_here"] (zJ (zRa)):=by
 refine zx F zLh (λds R h=>by obtain ⟨a,b,n,ee,rfl,_⟩:=h; rfl) λcdv A outer s H E hr=>⟨_,(zP (zX (yI (own:=["_law_a","_law_b"]) (caps:=[]) (yB (S:=zK Wl) (N:=["_law_one","_law_other_here"]) rfl (by decide +kernel) rfl ⟨0,rfl⟩ rfl (by decide +kernel) (by decide +kernel)) rfl rfl (qL (vZ (vZ qO))) (qN rfl B.zip_ (zB (zA 0) (zB (zA 1) zC))) (λ_ _ _ _=>(wK rfl (zw 0 (show (["_law_a","_law_b"]:List Str).Nodup by decide +kernel) rfl (Or.inl rfl) (zw 1 (show (["_law_a","_law_b"]:List Str).Nodup by decide +kernel) rfl (Or.inl rfl) wJ)))) (λ_ _ _ _=>(x8 (zB (zy (KF rfl) zM1 rfl B.min_ zIg (zB (zV (zA 0) zF (λ_ _=>rfl)) (zB (zV (zA 1) zF (λ_ _=>rfl)) zC))) (zB (zy (XF rfl) Xp rfl B.max_ k8 (zB (zV (zA 0) zF (λ_ _=>rfl)) (zB (zV (zA 1) zF (λ_ _=>rfl)) zC))) zC))))))),λds R h=>?_⟩
 obtain ⟨a,b,n,ee,rfl,n3,A1,B1,q⟩:=h
 have la:=A1.len
 have lb:=B1.len
 refine zl.all (λd=>∃ p:Int × Int,d=yN p/\Bd ee p.1/\Bd ee p.2) (by rw [List.length_zipWith,List.length_map]; omega) (λd hd=>?_) λes le he=>?_
 ·obtain ⟨x,hx,y,hy,rfl⟩:=zOX hd
  refine ⟨_,rfl,_,rfl,_,rfl,_,rfl,k0,(min x.1 y.1,max x.2 y.2),rfl,?_,Wf (A1.bd x hx).2 (B1.bd y hy).2⟩
  rw [Int.min_def]
  split
  ·exact (A1.bd x hx).1
  ·exact (B1.bd y hy).1
 ·obtain ⟨ps,rfl,hp⟩:∃ ps:List (Int × Int),es=ps.map yN/\∀ p∈ps,Bd ee p.1/\Bd ee p.2:=by
   clear le q
   induction es with
   | nil=>exact ⟨[],rfl,λ_ h=>nomatch h⟩
   | cons x es ih=>
    obtain ⟨p,rfl,h1⟩:=he x List.mem_cons_self
    obtain ⟨ps,rfl,h2⟩:=ih λy hy=>he y (List.mem_cons_of_mem _ hy)
    exact ⟨p :: ps,rfl,λy hy=>(List.mem_cons.mp hy).elim (λz=>z ▸ h1) (h2 y)⟩
  refine q ps ⟨?_,hp⟩
  rw [List.length_map,List.length_zipWith,List.length_map,List.length_map] at le
  omega
theorem zKs {k:Nat} {f:Addr} {fd:FuncData} (F:zj K "_law_image" "_law_image" gp f fd) (B:Bl mg) (aN:Fn P w K mg base "_law_beyond" ["_law_mode_here","_law_box_here"] k (zJ (qp))) (ar:Fn P w K mg base "_law_top" ["_law_numbers","_law_box_here"] k (zJ (Wi))):zG P w K mg base zY (k + 1) f fd ["_law_spec","_law_box_here"] (zJ (qr)):=by
 refine zx F xm (λds R h=>by obtain ⟨n,bs,ms,u,box,ee,rfl,_⟩:=h; rfl) λcdv A outer s H E hr=>⟨_,(zL (jB (zA 0) (wK rfl (zw 2 xm.nd rfl (Or.inl rfl) (zw 3 xm.nd rfl (Or.inl rfl) (zw 4 xm.nd rfl (Or.inl rfl) (zw 5 xm.nd rfl (Or.inl rfl) wJ))))))
  (zL (zII 4 false xm.nd rfl rfl (own:=["_law_mode_here"]) (caps:=[(1,"_law_box_here")]) (yB (S:=zK gp) (N:=["_law_spec","_law_box_here","_law_many","_law_pushes","_law_modes","_law_unit","_law_found","_law_j","_law_low","_law_high","_law_rows_here","_law_nexts","_law_steer","_law_push","_law_add","_law_divisor","_law_up","_law_down"]) rfl (by decide +kernel) rfl ⟨_,rfl⟩ rfl (by decide +kernel) (by decide +kernel)) rfl rfl yD (yP (zA 4)) (λ_ _ _ _=>(zq 0 (show (["_law_mode_here","_law_box_here"]:List Str).Nodup by decide +kernel) rfl (Or.inl rfl))) (λ_ _ _ _=>(xF (yc (zQ aN hr rfl (zB (zA 0) (zB (zA 1) zC)))))) (λ_ _ _ _=>(zA 0)) rfl)
  (zL (va 6 xm.nd rfl (Or.inl rfl) zC)
  (zL (wL PassesOwn.never rfl (xK rfl B.range_ (zB (zA 2) zC)) (zq 7 xm.nd rfl (Or.inl rfl)) (zL (zv 8 xm.nd rfl (Or.inl rfl) ZW)
   (zL (zv 9 xm.nd rfl (Or.inl rfl) ZW)
   (zL (wL PassesOwn.never rfl (yP (zA 4)) (wK rfl (zw 10 xm.nd rfl (Or.inl rfl) (zw 11 xm.nd rfl (Or.inl rfl) (zw 12 xm.nd rfl (Or.inl rfl) (zw 13 xm.nd rfl (Or.inl rfl) (zw 14 xm.nd rfl (Or.inl rfl) (zw 15 xm.nd rfl (Or.inl rfl) wJ))))))) (zL (zv 16 xm.nd rfl (Or.inl rfl) (zr (zr (zQ ar hr rfl (zB (zV (zA 11) (zA 7) (λ_ _=>rfl)) (zB (zA 1) zC))) (zQ ar hr rfl (zB (zV (zA 13) (zA 7) (λ_ _=>rfl)) (zB (zA 3) zC)))) (zV (zA 14) (zA 7) (λ_ _=>rfl))))
    (zL (zv 16 xm.nd rfl (Or.inl rfl) (xr zF (wu (xr zF (zA 16)) (zA 15))))
    (zL (zv 17 xm.nd rfl (Or.inl rfl) (zQ ar hr rfl (zB (yI (own:=["_law_c"]) (caps:=[]) (yB (S:=zK gp) (N:=["_law_spec","_law_box_here","_law_many","_law_pushes","_law_modes","_law_unit","_law_found","_law_j","_law_low","_law_high","_law_rows_here","_law_nexts","_law_steer","_law_push","_law_add","_law_divisor","_law_up","_law_down"]) rfl (by decide +kernel) rfl ⟨_,rfl⟩ rfl (by decide +kernel) (by decide +kernel)) rfl rfl yD (yP (zV (zA 11) (zA 7) (λ_ _=>rfl))) (λ_ _ _ _=>(zq 0 (show (["_law_c"]:List Str).Nodup by decide +kernel) rfl (Or.inl rfl))) (λ_ _ _ _=>(xr zF (zA 0)))) (zB (zA 1) zC))))
    (zL (zv 17 xm.nd rfl (Or.inl rfl) (zr (zA 17) (zQ ar hr rfl (zB (yI (own:=["_law_c"]) (caps:=[]) (yB (S:=zK gp) (N:=["_law_spec","_law_box_here","_law_many","_law_pushes","_law_modes","_law_unit","_law_found","_law_j","_law_low","_law_high","_law_rows_here","_law_nexts","_law_steer","_law_push","_law_add","_law_divisor","_law_up","_law_down"]) rfl (by decide +kernel) rfl ⟨_,rfl⟩ rfl (by decide +kernel) (by decide +kernel)) rfl rfl yD (yP (zV (zA 13) (zA 7) (λ_ _=>rfl))) (λ_ _ _ _=>(zq 0 (show (["_law_c"]:List Str).Nodup by decide +kernel) rfl (Or.inl rfl))) (λ_ _ _ _=>(xr zF (zA 0)))) (zB (zA 3) zC)))))
    (zL (zv 17 xm.nd rfl (Or.inl rfl) (wu (xr (zV (zA 14) (zA 7) (λ_ _=>rfl)) (zA 17)) (zA 15)))
    (jA (yR (PW.pt (wI (zLq (zA 9) ZW) (we (Ze (zA 16) (zA 9))))) (zP (zv 9 xm.nd rfl (Or.inl rfl) (zA 16))) yQ)
    (zP (yR (PW.pt (wI (zLq (zA 8) ZW) (we (Uz (zA 17) (zA 8))))) (zP (zv 8 xm.nd rfl (Or.inl rfl) (zA 17))) yQ)))))))))
   (zP (yM (wE (wQ PySem.F.plainAttrs_list PySem.F.slot_list_append PySem.F.type_list_append yb (yi 6) (zi (x8 (zB (zA 8) (zB (zA 9) zC))) yE))) wY))))))
  (zL (yR (vj hr.units (zA 4) (y8 zC)) (zP (zX (zA 1))) yQ)
  (zP (ww 6 (zX (zA 6))))))))),λds R h=>?_⟩
 obtain ⟨n,bs,ms,u,box,ee,rfl,T,e1,e2,BX,q⟩:=h
 have n3:=T.n3
 have b2:=T.b2
 have m3:=T.m3
 have lbx:=BX.len
 have lm:(List.map xX ms).length=ms.length:=List.length_map ..
 refine gW.keep (λd=>!(vf n box (Yo d))) (by omega) (λd hd=>?_) (λd hd=>?_) ?_
 ·obtain ⟨m,hm,rfl⟩:=List.mem_map.mp hd
  rw [zNO]
  exact ⟨m,n,bs.length,box,ee,rfl,T.md m hm,by omega,BX,rfl⟩
 ·obtain ⟨m,hm,rfl⟩:=List.mem_map.mp hd
  exact rfl
 rw [zPw]
 have sub:∀ m∈ms.filter (λm=>!(vf n box (Yo (xX m)))),jn n bs.length m:=λm hm=>T.md m (List.mem_filter.mp hm).1
 have l3:(ms.filter (λm=>!(vf n box (Yo (xX m))))).length<=3:=Nat.le_trans (List.length_filter_le ..) m3
 generalize ms.filter (λm=>!(vf n box (Yo (xX m))))=ms2 at sub l3 |-
 refine ⟨k0,by omega,by omega,?_⟩
 rw [show ((n:Nat):Int).toNat=n by omega]
 refine ⟨λk Γ=>∃ (fs:List D) (s7 s8 s9 s10 s11 s12 s13 s14 s15 s16 s17:Sl),Γ=[.sh (wB n bs ms u),.sh (zZ box),.sh (.int (n:Int)),.sh (.lst (bs.map yN)),.sh (.lst (ms2.map xX)),.sh (.int u),.ow fs,s7,s8,s9,s10,s11,s12,s13,s14,s15,s16,s17]/\fs.length=k/\∀ f∈fs,∃ lo hi,f=.tup [lo,hi]/\(ms2≠[]->∃ p:Int × Int,f=yN p/\Bd (ee + 20) p.1/\Bd (ee + 20) p.2),⟨[],.no,.no,.no,.no,.no,.no,.no,.no,.no,.no,.no,rfl,rfl,λ_ h=>nomatch h⟩,?_,?_⟩
 ·rintro k d Γ' hk ⟨fs,s7,s8,s9,s10,s11,s12,s13,s14,s15,s16,s17,rfl,lf,hf⟩
  obtain ⟨kn,rfl⟩:=v7 hk
  refine ⟨λi Γ=>∃ (lo hi:D) (s10 s11 s12 s13 s14 s15 s16 s17:Sl),Γ=[.sh (wB n bs ms u),.sh (zZ box),.sh (.int (n:Int)),.sh (.lst (bs.map yN)),.sh (.lst (ms2.map xX)),.sh (.int u),.ow fs,.sh (.int (k:Int)),.sh lo,.sh hi,s10,s11,s12,s13,s14,s15,s16,s17]/\NoI (ee + 20) lo/\NoI (ee + 20) hi/\(1<=i->lo≠.non/\hi≠.non),⟨.non,.non,_,_,_,_,_,_,_,_,rfl,.inl rfl,.inl rfl,λh=>absurd h (by decide)⟩,?_,?_⟩
  ·rintro i d Γ' hi2 ⟨lo,hi,s10,s11,s12,s13,s14,s15,s16,s17,rfl,nl,nh,_⟩
   obtain ⟨m,hm,rfl⟩:=qk hi2
   have M:=sub m (List.mem_of_getElem? hm)
   have k1:k < m.nexts.length:=by rw [M.ok.nexts.1]; exact kn
   have k2:k < m.push.length:=by rw [M.ok.push.1]; exact kn
   have ln:=M.ok.nexts.2 _ (jo k1)
   have lp:=M.ok.push.2 _ (jo k2)
   have BN:∀ x∈m.nexts.getD k [],Bd 4 x:=M.nx _ (jo k1)
   have BP:∀ x∈m.push.getD k [],Bd 4 x:=M.ps _ (jo k2)
   have dz:m.div≠0:=by have:=M.ok.div; omega
   have bb:∀ b∈bs,Bd 105 b.1/\Bd 105 b.2:=λb hb=>(T.bb b hb).2
   obtain ⟨up,hup⟩:∃ up,up=0 - (0 - (yG (m.nexts.getD k []) box + yG (m.push.getD k []) bs + m.add.getD k 0)).fdiv m.div:=⟨_,rfl⟩
   obtain ⟨dn,hdn⟩:∃ dn,dn=(m.add.getD k 0 - (yG (xS (m.nexts.getD k [])) box + yG (xS (m.push.getD k [])) bs)).fdiv m.div:=⟨_,rfl⟩
   have ba:Bd (ee + 8) (m.add.getD k 0):=(jH M.ad k).mono (by omega)
   have t1:Bd (ee + 7) (yG (m.nexts.getD k []) box):=(gm BN BX.bd).mono (by omega)
   have t2:Bd (ee + 7) (yG (m.push.getD k []) bs):=(gm BP bb).mono (by omega)
   have t3:Bd (ee + 7) (yG (xS (m.nexts.getD k [])) box):=(gm (gn BN) BX.bd).mono (by rw [qm]; omega)
   have t4:Bd (ee + 7) (yG (xS (m.push.getD k [])) bs):=(gm (gn BP) bb).mono (by rw [qm]; omega)
   have bup:Bd (ee + 20) up:=by
    rw [hup,Int.zero_sub,Int.zero_sub]
    exact (Bd.fdiv ((t1.add t2).add ba).neg _).neg.mono (by omega)
   have bdn:Bd (ee + 20) dn:=by
    rw [hdn]
    exact (Bd.fdiv (ba.sub (t3.add t4)) _).mono (by omega)
   refine ⟨_,qt k1,_,_,box,ee,rfl,.inl rfl,by omega,λx hx=>(BN x hx).mono,by omega,BX.bd,?_⟩
   refine ⟨_,qt k2,_,_,bs,105,rfl,.inl rfl,by omega,λx hx=>(BP x hx).mono,by decide,bb,?_⟩
   refine ⟨_,wZ (j:=k) (by rw [M.ok.add]; exact kn) rfl,dz,M.dv.mono,?_⟩
   refine ⟨_,qt k1,zl.int (λx=>0 - x) (by omega) (λx hx=>rfl) ⟨_,xS _,box,ee,rfl,.inl rfl,by rw [qm]; omega,λx hx=>(gn BN x hx).mono,by omega,BX.bd,?_⟩⟩
   refine ⟨_,qt k2,zl.int (λx=>0 - x) (by omega) (λx hx=>rfl) ⟨_,xS _,bs,105,rfl,.inl rfl,by rw [qm]; omega,λx hx=>(gn BP x hx).mono,by decide,bb,?_⟩⟩
   refine ⟨_,wZ (j:=k) (by rw [M.ok.add]; exact kn) rfl,dz,M.dv.mono,?_⟩
   refine ⟨λΓ=>∃ b:Int,Γ=[.sh (wB n bs ms u),.sh (zZ box),.sh (.int (n:Int)),.sh (.lst (bs.map yN)),.sh (.lst (ms2.map xX)),.sh (.int u),.ow fs,.sh (.int (k:Int)),.sh lo,.sh (.int b),.sh (Rm m.rows),.sh (Tb m.nexts),.sh (L m.steer),.sh (Tb m.push),.sh (L m.add),.sh (.int m.div),.sh (.int up),.sh (.int dn)]/\Bd (ee + 20) b,?_,?_⟩
   ·rcases nh with rfl | ⟨b,rfl,bb'⟩
    ·exact wT rfl (wT rfl ⟨up,by rw [hup,hdn]; rfl,bup⟩)
    ·exact wF rfl (w2 (λc=>⟨up,by rw [hup,hdn]; rfl,bup⟩) λc=>⟨b,by rw [hup,hdn]; rfl,bb'⟩)
   rintro Γ' ⟨b,rfl,bb'⟩
   rcases nl with rfl | ⟨a,rfl,ba'⟩
   ·exact wT rfl (wT rfl ⟨.int dn,.int b,_,_,_,_,_,_,_,_,rfl,.inr ⟨dn,rfl,bdn⟩,.inr ⟨b,rfl,bb'⟩,λ_=>⟨λz=>(nomatch z),λz=>(nomatch z)⟩⟩)
   ·exact wF rfl (w2 (λc=>⟨.int dn,.int b,_,_,_,_,_,_,_,_,rfl,.inr ⟨dn,rfl,bdn⟩,.inr ⟨b,rfl,bb'⟩,λ_=>⟨λz=>(nomatch z),λz=>(nomatch z)⟩⟩) λc=>⟨.int a,.int b,_,_,_,_,_,_,_,_,rfl,.inr ⟨a,rfl,ba'⟩,.inr ⟨b,rfl,bb'⟩,λ_=>⟨λz=>(nomatch z),λz=>(nomatch z)⟩⟩)
  ·rintro Γ' ⟨lo,hi,s10,s11,s12,s13,s14,s15,s16,s17,rfl,nl,nh,nn⟩
   refine ⟨k0,by omega,fs++[.tup [lo,hi]],_,_,_,_,_,_,_,_,_,_,_,rfl,by rw [List.length_append,lf]; rfl,vE hf ⟨lo,hi,rfl,λne=>?_⟩⟩
   have l1:1<=(ms2.map xX).length:=by
    cases ms2 with
    | nil=>exact absurd rfl ne
    | cons=>exact Nat.succ_le_succ (Nat.zero_le _)
   obtain ⟨n1,n2⟩:=nn l1
   rcases nl with rfl | ⟨a,rfl,ba⟩
   ·exact absurd rfl n1
   rcases nh with rfl | ⟨b,rfl,bb⟩
   ·exact absurd rfl n2
   exact ⟨(a,b),rfl,ba,bb⟩
 rintro Γ' ⟨fs,s7,s8,s9,s10,s11,s12,s13,s14,s15,s16,s17,rfl,lf,hf⟩
 rw [v8] at lf
 refine ⟨k0,zQm _,rfl,w2 (λc=>q box (BX.mono (by omega))) λc=>?_⟩
 rw [Zd] at c
 have ne:ms2≠[]:=λz=>by rw [z] at c; cases c
 obtain ⟨ps,rfl,hp⟩:∃ ps:List (Int × Int),fs=ps.map yN/\∀ p∈ps,Bd (ee + 20) p.1/\Bd (ee + 20) p.2:=by
  clear lf c q
  induction fs with
  | nil=>exact ⟨[],rfl,λ_ h=>nomatch h⟩
  | cons x fs ih=>
   obtain ⟨_,_,_,h0⟩:=hf x List.mem_cons_self
   obtain ⟨p,rfl,h1⟩:=h0 ne
   obtain ⟨ps,rfl,h2⟩:=ih λy hy=>hf y (List.mem_cons_of_mem _ hy)
   exact ⟨p :: ps,rfl,λy hy=>(List.mem_cons.mp hy).elim (λz=>z ▸ h1) (h2 y)⟩
 exact q ps ⟨by rw [List.length_map] at lf; exact lf,hp⟩
theorem zMF {k:Nat} {f:Addr} {fd:FuncData} (F:zj K "_law_kept" "_law_kept" QO f fd) (B:Bl mg) (bU:Fn P w K mg base "_law_hull" ["_law_one","_law_other_here"] k (zJ (zRa))) (aO:Fn P w K mg base "_law_image" ["_law_spec","_law_box_here"] k (zJ (qr))):zG P w K mg base zY (k + 1) f fd ["_law_spec","_law_box_here"] (zJ (zRZ)):=by
 refine zx F QP (λds R h=>by obtain ⟨n,bs,ms,u,box,rfl,_⟩:=h; rfl) λcdv A outer s H E hr=>⟨_,(zL (wL PassesOwn.never rfl (xK rfl B.range_ (zB zF zC)) (zq 2 QP.nd rfl (Or.inl rfl)) (zP (zv 1 QP.nd rfl (Or.inl rfl) (zQ bU hr rfl (zB (zA 1) (zB (zQ aO hr rfl (zB (zA 0) (zB (zA 1) zC))) zC))))))
  (zP (zX (zA 1)))),λds R h=>?_⟩
 obtain ⟨n,bs,ms,u,box,rfl,T,BX,q⟩:=h
 refine ⟨by decide,by decide,?_⟩
 refine ⟨λk Γ=>∃ (bx:List (Int × Int)) (s2:Sl),Γ=[.sh (wB n bs ms u),.sh (zZ bx),s2]/\Bx n (105 + 20 * k) bx,⟨box,.no,rfl,BX⟩,?_,?_⟩
 ·rintro k d Γ' hk ⟨bx,s2,rfl,B⟩
  obtain ⟨kn,rfl⟩:=v7 hk
  exact ⟨n,bs,ms,u,bx,105 + 20 * k,rfl,T,by omega,by omega,B,λb1 B1=>⟨bx,b1,n,105 + 20 * (k + 1),rfl,T.n3,B.mono (by omega),B1.mono (by omega),λb2 B2=>⟨b2,_,rfl,B2⟩⟩⟩
 ·rintro Γ' ⟨bx,s2,rfl,B⟩
  rw [v8] at B
  exact q bx B.mono
end
abbrev zu (s:Int × List Int):D:=.tup [.int s.1,L s.2]
abbrev yq (ss:List (Int × List Int)):D:=.lst (ss.map zu)
abbrev zm (t:List (List (Int × List Int))):D:=.lst (t.map yq)
structure jK (s:Int × List Int):Prop where
 o:Bd 210 s.1
 l:s.2.length<=100
 b:∀ x∈s.2,Bd 210 x
def ur (ss:List (Int × List Int)):Prop:=ss.length<=40/\∀ s∈ss,jK s
def wa (t:List (List (Int × List Int))):Prop:=t.length<=40/\∀ ss∈t,ur ss
structure In1 (n:Nat) (box:List (Int × Int)):Prop where
 len:box.length=n
 ok:∀ b∈box,b.1<=b.2/\Bd 105 b.1/\Bd 105 b.2
structure Bxs (n:Nat) (bxs:List (List (Int × Int))):Prop where
 l1:1<=bxs.length
 l4:bxs.length<=4
 bx:∀ b∈bxs,Bx n 280 b
structure Cl1 (n:Nat) (g:List (List Int)):Prop where
 l3:g.length<=3
 row:∀ r∈g,r.length=n + 1/\(∀ x∈r.take n,Bd 4 x)/\∀ x∈r,Bd 299 x
theorem zOV {α:Type} {l:List α} {f:α->D} {k:Nat} (z:α) (h:l.length=k + 1):yL (l.map f) (-1)=some (f (l.getD k z)):=by
 rw [uk]
 unfold yL wG
 rw [if_neg (by decide),if_pos (by omega)]
 show Option.map f l[((-1:Int) + (l.length:Int)).toNat]? = _
 rw [show ((-1:Int) + (l.length:Int)).toNat=k by omega,List.getElem?_eq_getElem (by omega),List.getD_eq_getElem?_getD,List.getElem?_eq_getElem (by omega)]
 rfl
theorem gq {α:Type} {l:List α} {k:Nat} {z:α} (h:k < l.length):l.getD k z∈l:=by
 rw [List.getD_eq_getElem?_getD,List.getElem?_eq_getElem h]
 exact List.getElem_mem _
def zQE:D->Int × Int
 | .tup [.int a,.int b]=>(a,b)
 | _=>(0,0)
def QQ:D->List (Int × Int)
 | .lst ds=>ds.map zQE
 | _=>[]
theorem zH3 (b:List (Int × Int)):QQ (zZ b)=b:=by
 show (b.map yN).map zQE=b
 rw [List.map_map]
 exact List.map_id _
def zRb:FL:=λds R=>∃ n bs ms u c,ds=[wB n bs ms u,.int c]/\vq n bs ms u/\∀ inner bxs,In1 n inner->Bxs n bxs->R (.tup [zZ inner,.lst (bxs.map zZ)])
def Yp:FL:=λds R=>∃ n bs ms u bxs c,ds=[wB n bs ms u,.lst (bxs.map zZ),.int c]/\vq n bs ms u/\Bxs n bxs/\∀ g,Cl1 n g->R (Rm g)
def Yq:FL:=λds R=>∃ n bs ms u m r box e,ds=[wB n bs ms u,xX m,U r,zZ box]/\vq n bs ms u/\jn n bs.length m/\r.length=n + 1/\(∀ x∈r.take n,Bd 4 x)/\e<=400/\Bx n e box/\∀ s,jK s->R (zu s)
theorem zRn {n:Nat} {box:List (Int × Int)} {m:MD} (h:vf n box m=true):∃ r t,m.rows=r :: t:=by
 cases e:m.rows with
 | nil=>unfold vf at h; rw [e] at h; cases h
 | cons r t=>exact ⟨r,t,rfl⟩
section
variable {P:Program} {w:World} {K:PySem.W.Frag} {mg:Str->Option Value} {base:Heap}
abbrev QR:Stmt:=zp 92
theorem Yr:zh ["_law_spec","_law_cell","_law_xs","_law_inner","_law_boxes_here","_law_k"] ["_law_spec","_law_cell"] (zK QR):=.a
abbrev Ys:Stmt:=zp 93
theorem qu:zh ["_law_spec","_law_boxes_here","_law_cell","_law_xs","_law_rows_here","_law_k","_law_numbers","_law_bound"] ["_law_spec","_law_boxes_here","_law_cell"] (zK Ys):=.a
abbrev gr:Stmt:=zp 89
theorem jL:zh ["_law_spec","_law_mode_here","_law_row","_law_box_here","_law_rows_here","_law_nexts","_law_steer","_law_push","_law_add","_law_divisor","_law_steps","_law_pushed"] ["_law_spec","_law_mode_here","_law_row","_law_box_here"] (zK gr):=.a
variable {ag ah aClaim aSettles aComes aPaper aRooms aFalls:Addr} (aa:zE K mg "Mode" ag) (ab:wz K ag) (ac:zE K mg "Thing" ah) (ae:w4 K ah) (TClaim:zE K mg "Claim" aClaim) (AClaim:w6 K aClaim) (TSettles:zE K mg "Settles" aSettles) (ASettles:w8 K aSettles) (TComes:zE K mg "Comes" aComes) (AComes:vA K aComes) (TPaper:zE K mg "Paper" aPaper) (APaper:vB K aPaper) (TRooms:zE K mg "Rooms" aRooms) (ARooms:vC K aRooms) (TFalls:zE K mg "Falls" aFalls) (AFalls:vD K aFalls)
include aa ab ac ae TClaim AClaim TSettles ASettles TComes AComes TPaper APaper TRooms ARooms TFalls AFalls
theorem zKt {k:Nat} {f:Addr} {fd:FuncData} (F:zj K "_law_boxes" "_law_boxes" QR f fd) (B:Bl mg) (am:Fn P w K mg base "_law_stream" ["_law_cell","_law_many"] k (zJ (qj))) (bV:Fn P w K mg base "_law_box" ["_law_cell","_law_many","_law_unit"] k (zJ (Yi))) (bW:Fn P w K mg base "_law_kept" ["_law_spec","_law_box_here"] k (zJ (zRZ))) (aO:Fn P w K mg base "_law_image" ["_law_spec","_law_box_here"] k (zJ (qr))):zG P w K mg base zY (k + 1) f fd ["_law_spec","_law_cell"] (zJ (zRb)):=by
 refine zx F Yr (λds R h=>by obtain ⟨n,bs,ms,u,c,rfl,_⟩:=h; rfl) λcdv A outer s H E hr=>⟨_,(zL (zv 2 Yr.nd rfl (Or.inl rfl) (zQ am hr rfl (zB (zA 1) (zB zF zC))))
  (zL (zv 3 Yr.nd rfl (Or.inl rfl) (zQ bV hr rfl (zB (zV (zA 2) zF (λ_ _=>rfl)) (zB (zV (zA 0) zF (λ_ _=>rfl)) (zB (zV (zA 0) zF (λ_ _=>rfl)) zC)))))
  (zL (va 4 Yr.nd rfl (Or.inl rfl) (zB (zQ bW hr rfl (zB (zA 0) (zB (zA 3) zC))) zC))
  (zL (wL PassesOwn.never rfl (xK rfl B.range_ (zB (xB (zV (zA 2) zF (λ_ _=>rfl)) zF) zC)) (zq 5 Yr.nd rfl (Or.inl rfl)) (zP (yM (wE (wQ PySem.F.plainAttrs_list PySem.F.slot_list_append PySem.F.type_list_append yb (yi 4) (zi (zQ aO hr rfl (zB (zA 0) (zB (zQf 4 (xl zF) (λ_ _=>rfl)) zC))) yE))) wY)))
  (zP (ww 4 (zX (x8 (zB (zA 3) (zB (zA 4) zC)))))))))),λds R h=>?_⟩
 obtain ⟨n,bs,ms,u,c,rfl,T,q⟩:=h
 have n3:=T.n3
 have u1:=T.u1
 refine ⟨c,8,rfl,by decide,λxs lx hx=>?_⟩
 refine xf (by decide) (by omega) λx0 _=>⟨_,rfl,_,rfl,x0,n,u,rfl,n3,by omega,T.bu,λinner li hi=>?_⟩
 refine ⟨n,bs,ms,u,inner,rfl,T,⟨li,λb hb=>(hi b hb).2⟩,λb1 B1=>⟨k0,?_⟩⟩
 refine xf (by decide) (by omega) λx1 _=>⟨by decide,?_⟩
 have m4:=md x1 (show (0:Int) < 4 by decide)
 refine ⟨by omega,by omega,?_⟩
 refine ⟨λk Γ=>∃ (bxs:List (List (Int × Int))) (s5:Sl),Γ=[.sh (wB n bs ms u),.sh (.int c),.sh (L xs),.sh (zZ inner),.ow (bxs.map zZ),s5]/\bxs.length=k + 1/\∀ b∈bxs,Bx n (210 + 20 * k) b,⟨[b1],.no,rfl,rfl,λb hb=>by rw [List.mem_singleton.mp hb]; exact B1⟩,?_,?_⟩
 ·rintro k d Γ' hk ⟨bxs,s5,rfl,lb,hb⟩
  obtain ⟨kn,rfl⟩:=v7 hk
  refine ⟨_,zOV [] lb,n,bs,ms,u,bxs.getD k [],210 + 20 * k,rfl,T,by omega,by omega,hb _ (gq (by omega)),λb2 B2=>⟨by rw [List.length_map]; omega,bxs++[b2],.sh (.int (k:Int)),by rw [List.map_append]; rfl,by rw [List.length_append,lb]; rfl,vE (λb h=>(hb b h).mono (by omega)) (B2.mono (by omega))⟩⟩
 ·rintro Γ' ⟨bxs,s5,rfl,lb,hb⟩
  rw [v8] at lb hb
  exact ⟨k0,q inner bxs ⟨li,hi⟩ ⟨by omega,by omega,λb h=>(hb b h).mono (by omega)⟩⟩
theorem zF9 {k:Nat} {f:Addr} {fd:FuncData} (F:zj K "_law_claim_rows" "_law_claim_rows" Ys f fd) (B:Bl mg) (am:Fn P w K mg base "_law_stream" ["_law_cell","_law_many"] k (zJ (qj))) (ao:Fn P w K mg base "_law_number" ["_law_x","_law_far"] k (zJ (Yh))) (ar:Fn P w K mg base "_law_top" ["_law_numbers","_law_box_here"] k (zJ (Wi))):zG P w K mg base zY (k + 1) f fd ["_law_spec","_law_boxes_here","_law_cell"] (zJ (Yp)):=by
 refine zx F qu (λds R h=>by obtain ⟨n,bs,ms,u,bxs,c,rfl,_⟩:=h; rfl) λcdv A outer s H E hr=>⟨_,(zL (zv 3 qu.nd rfl (Or.inr rfl) (zQ am hr rfl (zB (zA 2) (zB zF zC))))
  (zL (va 4 qu.nd rfl (Or.inl rfl) zC)
  (zL (wL PassesOwn.never rfl (xK rfl B.range_ (zB (zV (y8 (zB zF (zB zF (zB zF (zB zF zC))))) (xB (zV (zA 3) zF (λ_ _=>rfl)) zF) (λ_ _=>rfl)) zC)) (zq 5 qu.nd rfl (Or.inr rfl)) (zL (zv 6 qu.nd rfl (Or.inr rfl) (yI (own:=["_law_j"]) (caps:=[(3,"_law_xs"),(5,"_law_k")]) (yB (S:=zK Ys) (N:=["_law_spec","_law_boxes_here","_law_cell","_law_xs","_law_rows_here","_law_k","_law_numbers","_law_bound"]) rfl (by decide +kernel) rfl ⟨_,rfl⟩ rfl (by decide +kernel) (by decide +kernel)) rfl rfl yD (xK rfl B.range_ (zB (zV (zA 0) zF (λ_ _=>rfl)) zC)) (λ_ _ _ _=>(zq 0 (show (["_law_j","_law_xs","_law_k"]:List Str).Nodup by decide +kernel) rfl (Or.inl rfl))) (λ_ _ _ _=>(zQ ao hr rfl (zB (zV (zA 1) (zr (zr zF (xE zF (zA 2))) (zA 0)) (λ_ _=>rfl)) (zB zF zC))))))
   (zL (zv 7 qu.nd rfl (Or.inl rfl) (zy (zM0 rfl) zOT rfl B.max_ k8 (zB (yI (own:=["_law_box_here"]) (caps:=[(6,"_law_numbers")]) (yB (S:=zK Ys) (N:=["_law_spec","_law_boxes_here","_law_cell","_law_xs","_law_rows_here","_law_k","_law_numbers","_law_bound"]) rfl (by decide +kernel) rfl ⟨_,rfl⟩ rfl (by decide +kernel) (by decide +kernel)) rfl rfl yD (yP (zA 1)) (λ_ _ _ _=>(zq 0 (show (["_law_box_here","_law_numbers"]:List Str).Nodup by decide +kernel) rfl (Or.inl rfl))) (λ_ _ _ _=>(zQ ar hr rfl (zB (zA 1) (zB (zA 0) zC))))) zC)))
   (zL (zv 7 qu.nd rfl (Or.inl rfl) (zr (zA 7) (zV (y8 (zB zF (zB zF (zB (zV (zA 0) zF (λ_ _=>rfl)) (zB (xl zF) zC))))) (xB (wu (zV (zA 3) zF (λ_ _=>rfl)) zF) zF) (λ_ _=>rfl))))
   (zP (yM (wE (wQ PySem.F.plainAttrs_list PySem.F.slot_list_append PySem.F.type_list_append yb (yi 4) (zi (xV uX ud rfl B.tuple_ vI (zB (zr (zA 6) (y8 (zB (zA 7) zC))) zC)) yE))) wY))))))
  (zP (ww 4 (zX (zA 4))))))),λds R h=>?_⟩
 obtain ⟨n,bs,ms,u,bxs,c,rfl,T,BB,q⟩:=h
 have n3:=T.n3
 have l1:=BB.l1
 have l4:=BB.l4
 refine ⟨c,12,rfl,by decide,λxs lx hx=>⟨k0,?_⟩⟩
 refine ⟨k0,xf (by decide) (by omega) λx0 _=>⟨by decide,ve (md x0 (by decide)).1 (by have:=md x0 (show (0:Int) < 4 by decide); show x0.fmod 4 < 4; omega) λz hz=>?_⟩⟩
 obtain ⟨h,rfl,h3⟩:∃ h:Nat,z=.int (h:Int)/\h<=3:=by
  simp only [List.mem_cons,List.not_mem_nil,or_false] at hz
  rcases hz with rfl | rfl | rfl | rfl
  ·exact ⟨1,rfl,by decide⟩
  ·exact ⟨2,rfl,by decide⟩
  ·exact ⟨3,rfl,by decide⟩
  ·exact ⟨0,rfl,by decide⟩
 refine ⟨by omega,by omega,?_⟩
 rw [show ((h:Nat):Int).toNat=h by omega]
 refine ⟨λk Γ=>∃ (g:List (List Int)) (s5 s6 s7:Sl),Γ=[.sh (wB n bs ms u),.sh (.lst (bxs.map zZ)),.sh (.int c),.sh (L xs),.ow (g.map U),s5,s6,s7]/\g.length=k/\∀ r∈g,r.length=n + 1/\(∀ x∈r.take n,Bd 4 x)/\∀ x∈r,Bd 299 x,⟨[],.no,.no,.no,rfl,rfl,λ_ h=>nomatch h⟩,?_,?_⟩
 ·rintro k d Γ' hk ⟨g,s5,s6,s7,rfl,lg,hg⟩
  obtain ⟨kn,rfl⟩:=v7 hk
  have bk:Bd 2 (k:Int):=Yg (by omega)
  refine ⟨_,rfl,by omega,by omega,?_⟩
  rw [show ((n:Nat):Int).toNat=n by omega]
  refine zl.nums (λx=>Bd 2 x) (by omega) (λj hj=>⟨(Bd.lit (i:=3) (n:=2)).mono,bk.mono,xf (by omega) (by omega) λx1 _=>⟨_,2,rfl,by decide,(Bd.lit (i:=2) (n:=2)).mono,λy y1 y2=>⟨y,rfl,uB (f:=3) (by decide) (by omega) (by omega)⟩⟩⟩) λnu lnu hnu=>?_
  refine xc zZ QQ zH3 (λb=>.int (yG nu b)) (by omega) (λb hb=>⟨_,nu,b,280,rfl,.inl rfl,by omega,λx hx=>(hnu x hx).mono,by decide,(BB.bx b hb).bd,rfl⟩) ⟨bxs.map (yG nu),by rw [List.map_map]; rfl,by rw [List.length_map]; omega,λM hM _=>?_⟩
  have bM:Bd 290 M:=by
   obtain ⟨b,hb,rfl⟩:=List.mem_map.mp hM
   exact (gm hnu (BB.bx b hb).bd).mono (by omega)
  refine ⟨_,rfl,k0,xf (by decide) (by omega) λx2 _=>⟨by decide,(Bd.lit (i:=4) (n:=3)).mono,by decide,ve (md _ (by decide)).1 (by have:=md (x2.fdiv 4) (show (0:Int) < 4 by decide); show (x2.fdiv 4).fmod 4 < 4; omega) λz hz=>?_⟩⟩
  obtain ⟨v,rfl,bv⟩:vY (Bd 290) z:=by
   simp only [List.mem_cons,List.not_mem_nil,or_false] at hz
   rcases hz with rfl | rfl | rfl | rfl
   ·exact ⟨_,rfl,wg⟩
   ·exact ⟨_,rfl,wg⟩
   ·exact ⟨_,rfl,T.bu.mono⟩
   ·exact ⟨_,rfl,(Bd.lit (i:=-1) (n:=1)).mono⟩
  refine ⟨k0,by rw [List.length_map]; show _ + 1<=1000; omega,by rw [List.length_map]; omega,g++[nu++[M + v]],.sh (.int (k:Int)),.sh (L nu),.sh (.int (M + v)),?_,by rw [List.length_append,lg]; rfl,vE hg ⟨by rw [List.length_append,lnu]; rfl,λx hx=>by
   rw [List.take_append_of_le_length (by omega),List.take_of_length_le (by omega)] at hx
   exact (hnu x hx).mono,vE (λx hx=>(hnu x hx).mono) ((bM.add bv).mono)⟩⟩
  rw [List.map_append,List.map_cons,List.map_nil,U,List.map_append]
  rfl
 ·rintro Γ' ⟨g,s5,s6,s7,rfl,lg,hg⟩
  rw [v8] at lg
  exact q g ⟨by omega,hg⟩
theorem zFZ {k:Nat} {f:Addr} {fd:FuncData} (F:zj K "_law_step_shares" "_law_step_shares" gr f fd) (B:Bl mg) (aN:Fn P w K mg base "_law_beyond" ["_law_mode_here","_law_box_here"] k (zJ (qp))) (ay:Fn P w K mg base "_law_both" ["_law_numbers"] k (zJ (Wc))):zG P w K mg base zY (k + 1) f fd ["_law_spec","_law_mode_here","_law_row","_law_box_here"] (zJ (Yq)):=by
 refine zx F jL (λds R h=>by obtain ⟨n,bs,ms,u,m,r,box,ee,rfl,_⟩:=h; rfl) λcdv A outer s H E hr=>⟨_,(zL (jB (zA 1) (wK rfl (zw 4 jL.nd rfl (Or.inl rfl) (zw 5 jL.nd rfl (Or.inr rfl) (zw 6 jL.nd rfl (Or.inl rfl) (zw 7 jL.nd rfl (Or.inr rfl) (zw 8 jL.nd rfl (Or.inl rfl) (zw 9 jL.nd rfl (Or.inl rfl) wJ))))))))
  (zL (yR (yc (zQ aN hr rfl (zB (zA 1) (zB (zA 3) zC)))) (zP (zX (x8 (zB zF (zB (zr (zr (zQ ay hr rfl (zB (yI (own:=["_law_c"]) (caps:=[]) (yB (S:=zK gr) (N:=["_law_spec","_law_mode_here","_law_row","_law_box_here","_law_rows_here","_law_nexts","_law_steer","_law_push","_law_add","_law_divisor","_law_steps","_law_pushed"]) rfl (by decide +kernel) rfl ⟨_,rfl⟩ rfl (by decide +kernel) (by decide +kernel)) rfl rfl yD (yP (xP (zV (zA 4) zF (λ_ _=>rfl)) xN (xO (xl zF)))) (λ_ _ _ _=>(zq 0 (show (["_law_c"]:List Str).Nodup by decide +kernel) rfl (Or.inl rfl))) (λ_ _ _ _=>(xr zF (zA 0)))) zC)) (y8 (zB zF zC))) (xE (y8 (zB zF zC)) (xE zF (zy yf yo rfl B.len_ yh (zB (zV (zA 0) zF (λ_ _=>rfl)) zC))))) zC))))) yQ)
  (zL (uO 10 false jL.nd rfl rfl (own:=["_law_j"]) (caps:=[(0,"_law_spec"),(2,"_law_row"),(5,"_law_nexts")]) (yB (S:=zK gr) (N:=["_law_spec","_law_mode_here","_law_row","_law_box_here","_law_rows_here","_law_nexts","_law_steer","_law_push","_law_add","_law_divisor","_law_steps","_law_pushed"]) rfl (by decide +kernel) rfl ⟨_,rfl⟩ rfl (by decide +kernel) (by decide +kernel)) rfl rfl yD (xK rfl B.range_ (zB (zV (zA 0) zF (λ_ _=>rfl)) zC)) (λ_ _ _ _=>(zq 0 (show (["_law_j","_law_spec","_law_row","_law_nexts"]:List Str).Nodup by decide +kernel) rfl (Or.inr rfl))) (λ_ _ _ _=>(zy (ZA rfl) Zn rfl B.sum_ k9 (zB (yI (own:=["_law_i"]) (caps:=[(0,"_law_j"),(2,"_law_row"),(3,"_law_nexts")]) (j6 rfl (by decide +kernel) (by decide +kernel) (by decide +kernel) (by decide +kernel)) rfl rfl yD (xK rfl B.range_ (zB (zV (zA 1) zF (λ_ _=>rfl)) zC)) (λ_ _ _ _=>(zq 0 (show (["_law_i","_law_j","_law_row","_law_nexts"]:List Str).Nodup by decide +kernel) rfl (Or.inl rfl))) (λ_ _ _ _=>(xE (zV (zA 2) (zA 0) (λ_ _=>rfl)) (zV (zV (zA 3) (zA 0) (λ_ _=>rfl)) (zA 1) (λ_ _=>rfl))))) zC))) rfl)
  (zL (uO 11 false jL.nd rfl rfl (own:=["_law_j"]) (caps:=[(0,"_law_spec"),(2,"_law_row"),(7,"_law_push")]) (yB (S:=zK gr) (N:=["_law_spec","_law_mode_here","_law_row","_law_box_here","_law_rows_here","_law_nexts","_law_steer","_law_push","_law_add","_law_divisor","_law_steps","_law_pushed"]) rfl (by decide +kernel) rfl ⟨_,rfl⟩ rfl (by decide +kernel) (by decide +kernel)) rfl rfl yD (xK rfl B.range_ (zB (zy yf yo rfl B.len_ yh (zB (zV (zA 0) zF (λ_ _=>rfl)) zC)) zC)) (λ_ _ _ _=>(zq 0 (show (["_law_j","_law_spec","_law_row","_law_push"]:List Str).Nodup by decide +kernel) rfl (Or.inr rfl))) (λ_ _ _ _=>(zy (ZA rfl) Zn rfl B.sum_ k9 (zB (yI (own:=["_law_i"]) (caps:=[(0,"_law_j"),(2,"_law_row"),(3,"_law_push")]) (j6 rfl (by decide +kernel) (by decide +kernel) (by decide +kernel) (by decide +kernel)) rfl rfl yD (xK rfl B.range_ (zB (zV (zA 1) zF (λ_ _=>rfl)) zC)) (λ_ _ _ _=>(zq 0 (show (["_law_i","_law_j","_law_row","_law_push"]:List Str).Nodup by decide +kernel) rfl (Or.inl rfl))) (λ_ _ _ _=>(xE (zV (zA 2) (zA 0) (λ_ _=>rfl)) (zV (zV (zA 3) (zA 0) (λ_ _=>rfl)) (zA 1) (λ_ _=>rfl))))) zC))) rfl)
  (zP (zX (x8 (zB zF (zB (zr (zr (zQ ay hr rfl (zB (zA 10) zC)) (xE (y8 (zB zF zC)) (zy yf yo rfl B.len_ yh (zB (zA 4) zC)))) (zQ ay hr rfl (zB (zA 11) zC))) zC))))))))),λds R h=>?_⟩
 obtain ⟨n,bs,ms,u,m,r,box,ee,rfl,T,M,lr,br,e4,BX,q⟩:=h
 have n3:=T.n3
 have b2:=T.b2
 have lb:(List.map yN bs).length=bs.length:=List.length_map ..
 refine ⟨m,n,bs.length,box,ee,rfl,M,e4,BX,w2 (λc=>?_) λc=>?_⟩
 ·obtain ⟨r0,t,er⟩:=zRn c
  have hm:r0∈m.rows:=by rw [er]; exact List.mem_cons_self
  have l0:=M.ok.rows r0 hm
  refine ⟨U r0,by have h:=qt (u:=U) (rows:=m.rows) (k:=0) (by rw [er]; exact Nat.succ_pos _); rw [show m.rows.getD 0 []=r0 by rw [er]; rfl] at h; exact h,?_⟩
  refine zl.cast (vo l0) (zl.int (λx=>0 - x) (by rw [List.length_take]; omega) (λx hx=>rfl) ⟨_,xS (r0.take n),rfl,.inl rfl,by rw [qm,List.length_take]; omega,λx hx=>(gn (M.rb r0 hm).1 x hx).mono,λys ly hy=>?_⟩)
  rw [qm,List.length_take] at ly
  have rep:List.replicate (2 * (bs.length:Int)).toNat (D.int 0)=(List.replicate (2 * bs.length) (0:Int)).map D.int:=by rw [List.map_replicate,show (2 * (bs.length:Int)).toNat=2 * bs.length by omega]
  refine ⟨k0,by rw [List.length_map]; show _ + 1<=1000; omega,k0,_,rfl,(Bd.lit (i:=2) (n:=2)).mono,Bd.mono (n:=4) (uB (f:=15) (by decide) (by omega) (by omega)) (by decide),by omega,by omega,?_⟩
  rw [lb,rep]
  refine ⟨by rw [List.length_append,List.length_map,List.length_map,List.length_replicate]; show _ + 1 + _<=1000; omega,k0,?_⟩
  have:=q (0,ys++[1]++List.replicate (2 * bs.length) 0) ⟨wg,by rw [List.length_append,List.length_append,List.length_replicate]; show _ + 1 + _<=100; omega,λx hx=>?_⟩
  ·unfold zu L at this
   rw [List.map_append,List.map_append] at this
   exact this
  ·rcases List.mem_append.mp hx with hx | hx
   ·exact vE (λy h=>(hy y h).2.mono) ((Bd.lit (i:=1) (n:=1)).mono) x hx
   ·rw [List.eq_of_mem_replicate hx]; exact wg
 refine ⟨_,rfl,by omega,by omega,?_⟩
 rw [show ((n:Nat):Int).toNat=n by omega]
 refine zl.nums (λx=>Bd 20 x) (by omega) (λj hj=>?_) λss lss hss=>?_
 ·refine ⟨_,rfl,by omega,by omega,?_⟩
  rw [show ((n:Nat):Int).toNat=n by omega]
  refine zl.nums (λx=>Bd 10 x) (by omega) (λi hi=>?_) λzs lz hz=>⟨zs,rfl,_,rfl,(QK hz).mono (by omega)⟩
  have k1:i < m.nexts.length:=by rw [M.ok.nexts.1]; exact hi
  have bn:=M.nx _ (jo k1)
  have br:Bd 4 (r.getD i 0):=by
   refine br _ ?_
   rw [List.getD_eq_getElem?_getD,List.getElem?_eq_getElem (by omega)]
   exact List.mem_take_iff_getElem.mpr ⟨i,by omega,rfl⟩
  exact ⟨_,wZ (j:=i) (by omega) rfl,_,qt k1,_,wZ (j:=j) (by rw [M.ok.nexts.2 _ (jo k1)]; exact hj) rfl,br.mono,(jH bn j).mono,_,rfl,(br.mul (jH bn j)).mono⟩
 refine ⟨_,rfl,by omega,by omega,?_⟩
 rw [show ((List.length (List.map yN bs):Nat):Int).toNat=bs.length by omega]
 refine zl.nums (λx=>Bd 20 x) (by omega) (λj hj=>?_) λps lps hps=>?_
 ·refine ⟨_,rfl,by omega,by omega,?_⟩
  rw [show ((n:Nat):Int).toNat=n by omega]
  refine zl.nums (λx=>Bd 10 x) (by omega) (λi hi=>?_) λzs lz hz=>⟨zs,rfl,_,rfl,(QK hz).mono (by omega)⟩
  have k1:i < m.push.length:=by rw [M.ok.push.1]; exact hi
  have bn:=M.ps _ (jo k1)
  have br:Bd 4 (r.getD i 0):=by
   refine br _ ?_
   rw [List.getD_eq_getElem?_getD,List.getElem?_eq_getElem (by omega)]
   exact List.mem_take_iff_getElem.mpr ⟨i,by omega,rfl⟩
  exact ⟨_,wZ (j:=i) (by omega) rfl,_,qt k1,_,wZ (j:=j) (by rw [M.ok.push.2 _ (jo k1)]; exact hj) rfl,br.mono,(jH bn j).mono,_,rfl,(br.mul (jH bn j)).mono⟩
 have r1:=M.r1
 have lR:(List.map U m.rows).length=m.rows.length:=List.length_map ..
 refine ⟨_,ss,rfl,.inl rfl,by omega,λx hx=>(hss x hx).mono,λys ly hy=>?_⟩
 have rep:List.replicate ((m.rows.length:Nat):Int).toNat (D.int 0)=(List.replicate m.rows.length (0:Int)).map D.int:=by rw [List.map_replicate,Int.toNat_natCast]
 refine ⟨k0,by omega,by omega,?_⟩
 rw [lR,rep]
 refine ⟨by rw [List.length_map,List.length_map,List.length_replicate]; omega,_,ps,rfl,.inl rfl,by omega,λx hx=>(hps x hx).mono,λzs lz hz=>?_⟩
 refine ⟨by rw [List.length_append,List.length_map,List.length_map,List.length_map,List.length_replicate]; omega,k0,?_⟩
 have:=q (1,ys++List.replicate m.rows.length 0++zs) ⟨(Bd.lit (i:=1) (n:=1)).mono,by rw [List.length_append,List.length_append,List.length_replicate]; show _ + _ + _<=100; omega,λx hx=>?_⟩
 ·unfold zu L at this
  rw [List.map_append,List.map_append] at this
  exact this
 ·rcases List.mem_append.mp hx with hx | hx
  ·rcases List.mem_append.mp hx with hx | hx
   ·exact (hy x hx).2.mono
   ·rw [List.eq_of_mem_replicate hx]; exact wg
  ·exact (hz x hx).2.mono
end
theorem QS:∀ {es:List D},(∀ e∈es,∃ s,e=zu s/\jK s)->∃ ss:List (Int × List Int),es=ss.map zu/\∀ s∈ss,jK s
 | [],_=>⟨[],rfl,λ_ h=>nomatch h⟩
 | x :: es,h=>by
  obtain ⟨s,rfl,h1⟩:=h x List.mem_cons_self
  obtain ⟨ss,rfl,h2⟩:=QS λy hy=>h y (List.mem_cons_of_mem _ hy)
  exact ⟨s :: ss,rfl,λy hy=>(List.mem_cons.mp hy).elim (λz=>z ▸ h1) (h2 y)⟩
theorem zQQ:∀ {es:List D},(∀ e∈es,∃ s,e=yq s/\ur s)->∃ ss:List (List (Int × List Int)),es=ss.map yq/\∀ s∈ss,ur s
 | [],_=>⟨[],rfl,λ_ h=>nomatch h⟩
 | x :: es,h=>by
  obtain ⟨s,rfl,h1⟩:=h x List.mem_cons_self
  obtain ⟨ss,rfl,h2⟩:=zQQ λy hy=>h y (List.mem_cons_of_mem _ hy)
  exact ⟨s :: ss,rfl,λy hy=>(List.mem_cons.mp hy).elim (λz=>z ▸ h1) (h2 y)⟩
theorem zOh:∀ {es:List D},(∀ e∈es,∃ s,e=zm s/\wa s)->∃ ss:List (List (List (Int × List Int))),es=ss.map zm/\∀ s∈ss,wa s
 | [],_=>⟨[],rfl,λ_ h=>nomatch h⟩
 | x :: es,h=>by
  obtain ⟨s,rfl,h1⟩:=h x List.mem_cons_self
  obtain ⟨ss,rfl,h2⟩:=zOh λy hy=>h y (List.mem_cons_of_mem _ hy)
  exact ⟨s :: ss,rfl,λy hy=>(List.mem_cons.mp hy).elim (λz=>z ▸ h1) (h2 y)⟩
theorem gu {n e:Nat} {bx:List (Int × Int)} (B:Bx n e bx) (h1:2<=e):∀ r∈vJ bx,r.length=n + 1/\(∀ x∈r.take n,Bd 2 x)/\∀ x∈r,Bd e x:=λr hr=>by
 obtain ⟨q,hq,hr⟩:=List.mem_flatten.mp hr
 obtain ⟨i,hi,rfl⟩:=List.mem_mapIdx.mp hq
 have l:=B.len
 have hb:=B.bd _ (List.getElem_mem hi)
 have u1:=zM5 (n:=bx.length) (pl:=(i:Int)) (e:=2) (nu:=1) Bd.lit
 have lu:(yd (i:Int) bx.length 1).length=n:=by rw [u6]; exact l
 rcases List.mem_cons.mp hr with rfl | hr
 ·exact ⟨by rw [List.length_append,lu]; rfl,λx hx=>by rw [List.take_append_of_le_length (by omega),List.take_of_length_le (by omega)] at hx; exact u1 x hx,vE (λx hx=>(u1 x hx).mono h1) hb.2⟩
 ·rw [List.mem_singleton.mp hr]
  have u2:∀ x∈(yd (i:Int) bx.length 1).map (λx=>0 - x),Bd 2 x:=λx hx=>by
   obtain ⟨y,hy,rfl⟩:=List.mem_map.mp hx
   rw [Int.zero_sub]
   exact (u1 y hy).neg
  have l2:((yd (i:Int) bx.length 1).map (λx=>0 - x)).length=n:=by rw [List.length_map]; exact lu
  exact ⟨by rw [List.length_append,l2]; rfl,λx hx=>by rw [List.take_append_of_le_length (by omega),List.take_of_length_le (by omega)] at hx; exact u2 x hx,vE (λx hx=>(u2 x hx).mono h1) (by rw [Int.zero_sub]; exact hb.1.neg)⟩
theorem Yt (bx:List (Int × Int)):(vJ bx).length=2 * bx.length:=by
 unfold vJ
 rw [List.length_flatten]
 have e:(bx.mapIdx (wA bx.length)).map List.length=List.replicate bx.length 2:=by
  refine List.ext_getElem (by simp) λi h1 h2=>?_
  simp [wA]
 rw [e]
 simp
 omega
theorem zM3 {n:Nat} {bx:List (Int × Int)} (B:Bx n 280 bx) (n3:n<=3):wN (vJ bx) n:=⟨λr hr=>⟨(gu B (by decide) r hr).1,λx hx=>((gu B (by decide) r hr).2.2 x hx).mono⟩,by rw [Yt,B.len]; omega⟩
def Yu:FL:=λds R=>∃ bx n,ds=[zZ bx]/\n<=3/\Bx n 280 bx/\∀ ss,ur ss->R (yq ss)
def Yv:FL:=λds R=>∃ n bs ms u bx af,ds=[wB n bs ms u,zZ bx,zZ af]/\vq n bs ms u/\Bx n 280 bx/\Bx n 280 af/\∀ t,wa t->R (zm t)
def Wm (v:List (List (List (Int × List Int)))):Prop:=v.length<=40/\∀ t∈v,wa t
abbrev uS (v:List (List (List (Int × List Int)))):D:=.lst (v.map zm)
theorem uh {α:Type} {f:α->D} {l:List α} {k:Nat} (z:α) (h:k < l.length):yL (l.map f) (k:Int)=some (f (l.getD k z)):=by
 rw [uk]
 unfold yL wG
 rw [if_pos (by omega),if_pos (by omega)]
 show Option.map f l[((k:Nat):Int).toNat]? = _
 rw [show ((k:Nat):Int).toNat=k by omega,List.getElem?_eq_getElem h,List.getD_eq_getElem?_getD,List.getElem?_eq_getElem h]
 rfl
abbrev wc (rooms:List (List (List Int))) (BK A1 A2 A3:D):D:=.lst [vc rooms,BK,A1,A2,A3]
def Yx:FL:=λds R=>∃ n bs ms u c,ds=[wB n bs ms u,.int c]/\vq n bs ms u/\∀ inner g t rooms back S1 S4 S3,In1 n inner->Cl1 n g->0<=t->Bd 100 t->gj n rooms->(∀ rm∈rooms,∀ r∈rm,∀ x∈r.take n,Bd 4 x)->0<=back->back < (rooms.length:Int)->ur S1->Wm S4->wa S3->R (.tup [zZ inner,Rm g,.int t,wc rooms (.int back) (yq S1) (uS S4) (zm S3)])
section
variable {P:Program} {w:World} {K:PySem.W.Frag} {mg:Str->Option Value} {base:Heap}
abbrev QT:Stmt:=zp 91
theorem QU:zh ["_law_box_here","_law_some","_law_row"] ["_law_box_here"] (zK QT):=.a
abbrev Wn:Stmt:=zp 90
theorem QV:zh ["_law_spec","_law_box_here","_law_after","_law_found","_law_mode_here"] ["_law_spec","_law_box_here","_law_after"] (zK Wn):=.a
abbrev qv:Stmt:=zp 94
theorem uT:zh ["_law_spec","_law_cell","_law_xs","_law_inner","_law_boxes_here","_law_back","_law_turn","_law_asked","_law_rows_here","_law_after","_law_steps","_law_stays","_law_rooms"] ["_law_spec","_law_cell"] (zK qv):=.a
variable {ag ah aClaim aSettles aComes aPaper aRooms aFalls:Addr} (aa:zE K mg "Mode" ag) (ab:wz K ag) (ac:zE K mg "Thing" ah) (ae:w4 K ah) (TClaim:zE K mg "Claim" aClaim) (AClaim:w6 K aClaim) (TSettles:zE K mg "Settles" aSettles) (ASettles:w8 K aSettles) (TComes:zE K mg "Comes" aComes) (AComes:vA K aComes) (TPaper:zE K mg "Paper" aPaper) (APaper:vB K aPaper) (TRooms:zE K mg "Rooms" aRooms) (ARooms:vC K aRooms) (TFalls:zE K mg "Falls" aFalls) (AFalls:vD K aFalls)
include aa ab ac ae TClaim AClaim TSettles ASettles TComes AComes TPaper APaper TRooms ARooms TFalls AFalls
theorem zGA {k:Nat} {f:Addr} {fd:FuncData} (F:zj K "_law_box_starts" "_law_box_starts" QT f fd) (B:Bl mg) (au:Fn P w K mg base "_law_rows" ["_law_box_here"] k (zJ (Yj))) (ay:Fn P w K mg base "_law_both" ["_law_numbers"] k (zJ (Wc))):zG P w K mg base zY (k + 1) f fd ["_law_box_here"] (zJ (Yu)):=by
 refine zx F QU (λds R h=>by obtain ⟨bx,n,rfl,_⟩:=h; rfl) λcdv A outer s H E hr=>⟨_,(zL (va 1 QU.nd rfl (Or.inl rfl) zC)
  (zL (wL PassesOwn.never rfl (yP (zQ au hr rfl (zB (zA 0) zC))) (zq 2 QU.nd rfl (Or.inl rfl)) (zP (yM (wE (wQ PySem.F.plainAttrs_list PySem.F.slot_list_append PySem.F.type_list_append yb (yi 1) (zi (x8 (zB zF (zB (zQ ay hr rfl (zB (xP (zA 2) xN (xO (xl zF))) zC)) zC))) yE))) wY)))
  (zP (ww 1 (zX (zA 1)))))),λds R h=>?_⟩
 obtain ⟨bx,n,rfl,n3,B,q⟩:=h
 have lb:=B.len
 refine ⟨k0,bx,rfl,by omega,?_⟩
 refine ⟨λk Γ=>∃ (ss:List (Int × List Int)) (s2:Sl),Γ=[.sh (zZ bx),.ow (ss.map zu),s2]/\ss.length=k/\∀ s∈ss,jK s,⟨[],.no,rfl,rfl,λ_ h=>nomatch h⟩,?_,?_⟩
 ·rintro k d Γ' hk ⟨ss,s2,rfl,ls,hs⟩
  obtain ⟨r,hr,rfl⟩:=qk hk
  have kl:=(List.getElem?_eq_some_iff.mp hr).1
  rw [Yt] at kl
  obtain ⟨lr,br,_⟩:=gu B (by decide) r (List.mem_of_getElem? hr)
  refine ⟨_,r.take n,rfl,.inr (by rw [vo lr]),by rw [List.length_take]; omega,λx hx=>(br x hx).mono,λys ly hy=>⟨k0,by rw [List.length_map]; omega,ss++[(1,ys)],.sh (U r),by rw [List.map_append]; rfl,by rw [List.length_append,ls]; rfl,vE hs ⟨(Bd.lit (i:=1) (n:=1)).mono,by rw [ly,List.length_take]; omega,λx hx=>(hy x hx).2.mono⟩⟩⟩
 ·rintro Γ' ⟨ss,s2,rfl,ls,hs⟩
  rw [List.length_map,Yt] at ls
  exact q ss ⟨by omega,hs⟩
theorem zGg {k:Nat} {f:Addr} {fd:FuncData} (F:zj K "_law_box_steps" "_law_box_steps" Wn f fd) (B:Bl mg) (au:Fn P w K mg base "_law_rows" ["_law_box_here"] k (zJ (Yj))) (bX:Fn P w K mg base "_law_step_shares" ["_law_spec","_law_mode_here","_law_row","_law_box_here"] k (zJ (Yq))):zG P w K mg base zY (k + 1) f fd ["_law_spec","_law_box_here","_law_after"] (zJ (Yv)):=by
 refine zx F QV (λds R h=>by obtain ⟨n,bs,ms,u,bx,af,rfl,_⟩:=h; rfl) λcdv A outer s H E hr=>⟨_,(zL (va 3 QV.nd rfl (Or.inl rfl) zC)
  (zL (wL PassesOwn.never rfl (yP (zV (zA 0) zF (λ_ _=>rfl))) (zq 4 QV.nd rfl (Or.inr rfl)) (zP (yM (wE (wQ PySem.F.plainAttrs_list PySem.F.slot_list_append PySem.F.type_list_append yb (yi 3) (zi (yI (own:=["_law_row"]) (caps:=[(0,"_law_spec"),(1,"_law_box_here"),(4,"_law_mode_here")]) (yB (S:=zK Wn) (N:=["_law_spec","_law_box_here","_law_after","_law_found","_law_mode_here"]) rfl (by decide +kernel) rfl ⟨_,rfl⟩ rfl (by decide +kernel) (by decide +kernel)) rfl rfl yD (yP (zQ au hr rfl (zB (zA 2) zC))) (λ_ _ _ _=>(zq 0 (show (["_law_row","_law_spec","_law_box_here","_law_mode_here"]:List Str).Nodup by decide +kernel) rfl (Or.inl rfl))) (λ_ _ _ _=>(zQ bX hr rfl (zB (zA 1) (zB (zA 3) (zB (zA 0) (zB (zA 2) zC))))))) yE))) wY)))
  (zP (ww 3 (zX (zA 3)))))),λds R h=>?_⟩
 obtain ⟨n,bs,ms,u,bx,af,rfl,T,B,A,q⟩:=h
 have n3:=T.n3
 have m3:=T.m3
 have la:=A.len
 refine ⟨k0,_,rfl,?_⟩
 refine ⟨λk Γ=>∃ (t:List (List (Int × List Int))) (s4:Sl),Γ=[.sh (wB n bs ms u),.sh (zZ bx),.sh (zZ af),.ow (t.map yq),s4]/\t.length=k/\∀ ss∈t,ur ss,⟨[],.no,rfl,rfl,λ_ h=>nomatch h⟩,?_,?_⟩
 ·rintro k d Γ' hk ⟨t,s4,rfl,lt,ht⟩
  obtain ⟨m,hm,rfl⟩:=qk hk
  have kl:=(List.getElem?_eq_some_iff.mp hm).1
  refine ⟨af,rfl,by omega,?_⟩
  refine zl.all (λd=>∃ s,d=zu s/\jK s) (by rw [List.length_map,Yt]; omega) (λd hd=>?_) λes le he=>?_
  ·obtain ⟨r,hr,rfl⟩:=List.mem_map.mp hd
   obtain ⟨lr,br,_⟩:=gu A (by decide) r hr
   exact ⟨n,bs,ms,u,m,r,bx,280,rfl,T,T.md m (List.mem_of_getElem? hm),lr,λx hx=>(br x hx).mono,by decide,B,λs hs=>⟨s,rfl,hs⟩⟩
  obtain ⟨ss,rfl,hss⟩:=QS he
  rw [List.length_map,List.length_map,Yt] at le
  exact ⟨by rw [List.length_map]; omega,t++[ss],.sh (xX m),by rw [List.map_append]; rfl,by rw [List.length_append,lt]; rfl,vE ht ⟨by omega,hss⟩⟩
 ·rintro Γ' ⟨t,s4,rfl,lt,ht⟩
  rw [List.length_map] at lt
  exact q t ⟨by omega,ht⟩
theorem zKq {k:Nat} {f:Addr} {fd:FuncData} (F:zj K "_law_parts" "_law_parts" qv f fd) (B:Bl mg) (am:Fn P w K mg base "_law_stream" ["_law_cell","_law_many"] k (zJ (qj))) (bY:Fn P w K mg base "_law_boxes" ["_law_spec","_law_cell"] k (zJ (zRb))) (bZ:Fn P w K mg base "_law_claim_rows" ["_law_spec","_law_boxes_here","_law_cell"] k (zJ (Yp))) (b7:Fn P w K mg base "_law_box_steps" ["_law_spec","_law_box_here","_law_after"] k (zJ (Yv))) (ay:Fn P w K mg base "_law_both" ["_law_numbers"] k (zJ (Wc))) (au:Fn P w K mg base "_law_rows" ["_law_box_here"] k (zJ (Yj))) (b8:Fn P w K mg base "_law_box_starts" ["_law_box_here"] k (zJ (Yu))):zG P w K mg base zY (k + 1) f fd ["_law_spec","_law_cell"] (zJ (Yx)):=by
 refine zx F uT (λds R h=>by obtain ⟨n,bs,ms,u,c,rfl,_⟩:=h; rfl) λcdv A outer s H E hr=>⟨_,(zL (zv 2 uT.nd rfl (Or.inl rfl) (zQ am hr rfl (zB (zA 1) (zB zF zC))))
  (zL (jB (zQ bY hr rfl (zB (zA 0) (zB (zV (zA 2) zF (λ_ _=>rfl)) zC))) (wK rfl (zw 3 uT.nd rfl (Or.inl rfl) (zw 4 uT.nd rfl (Or.inr rfl) wJ))))
  (zL (zv 5 uT.nd rfl (Or.inr rfl) (xB (zV (zA 2) zF (λ_ _=>rfl)) (zy yf yo rfl B.len_ yh (zB (zA 4) zC))))
  (jA (zv 6 uT.nd rfl (Or.inr rfl) (zV (y8 (zB zF (zB (xB (zV (zA 2) zF (λ_ _=>rfl)) zF) (zB (xB (zV (zA 2) zF (λ_ _=>rfl)) (u8 zF zF)) zC)))) (xB (zV (zA 2) zF (λ_ _=>rfl)) zF) (λ_ _=>rfl)))
  (zL (zII 7 false uT.nd rfl rfl (own:=["_law_k"]) (caps:=[(4,"_law_boxes_here"),(5,"_law_back"),(6,"_law_turn")]) (yB (S:=zK qv) (N:=["_law_spec","_law_cell","_law_xs","_law_inner","_law_boxes_here","_law_back","_law_turn","_law_asked","_law_rows_here","_law_after","_law_steps","_law_stays","_law_rooms"]) rfl (by decide +kernel) rfl ⟨_,rfl⟩ rfl (by decide +kernel) (by decide +kernel)) rfl rfl yD (xK rfl B.range_ (zB (zy yf yo rfl B.len_ yh (zB (zA 4) zC)) zC)) (λ_ _ _ _=>(zq 0 (show (["_law_k","_law_boxes_here","_law_back","_law_turn"]:List Str).Nodup by decide +kernel) rfl (Or.inl rfl))) (λ_ _ _ _=>(PW.pt (wI (Xn (zA 0) (zA 2)) (we (Xn (zA 0) (zA 3)))))) (λ_ _ _ _=>(zV (zA 1) (zA 0) (λ_ _=>rfl))) rfl)
  (zL (zv 8 uT.nd rfl (Or.inr rfl) (zQ bZ hr rfl (zB (zA 0) (zB (zA 7) (zB (zV (zA 2) zF (λ_ _=>rfl)) zC)))))
  (zL (zv 9 uT.nd rfl (Or.inr rfl) (zr (xP (zA 4) (xO zF) xN) (y8 (zB (zV (zA 4) (zA 5) (λ_ _=>rfl)) zC))))
  (zL (uO 10 false uT.nd rfl rfl (own:=["_law_k"]) (caps:=[(0,"_law_spec"),(4,"_law_boxes_here"),(9,"_law_after")]) (yB (S:=zK qv) (N:=["_law_spec","_law_cell","_law_xs","_law_inner","_law_boxes_here","_law_back","_law_turn","_law_asked","_law_rows_here","_law_after","_law_steps","_law_stays","_law_rooms"]) rfl (by decide +kernel) rfl ⟨_,rfl⟩ rfl (by decide +kernel) (by decide +kernel)) rfl rfl yD (xK rfl B.range_ (zB (zy yf yo rfl B.len_ yh (zB (zA 4) zC)) zC)) (λ_ _ _ _=>(zq 0 (show (["_law_k","_law_spec","_law_boxes_here","_law_after"]:List Str).Nodup by decide +kernel) rfl (Or.inl rfl))) (λ_ _ _ _=>(zQ b7 hr rfl (zB (zA 1) (zB (zV (zA 2) (zA 0) (λ_ _=>rfl)) (zB (zV (zA 3) (zA 0) (λ_ _=>rfl)) zC))))) rfl)
  (zL (uO 11 false uT.nd rfl rfl (own:=["_law_box_here"]) (caps:=[(8,"_law_rows_here")]) (yB (S:=zK qv) (N:=["_law_spec","_law_cell","_law_xs","_law_inner","_law_boxes_here","_law_back","_law_turn","_law_asked","_law_rows_here","_law_after","_law_steps","_law_stays","_law_rooms"]) rfl (by decide +kernel) rfl ⟨_,rfl⟩ rfl (by decide +kernel) (by decide +kernel)) rfl rfl yD (yP (zA 4)) (λ_ _ _ _=>(zq 0 (show (["_law_box_here","_law_rows_here"]:List Str).Nodup by decide +kernel) rfl (Or.inl rfl))) (λ_ _ _ _=>(yI (own:=["_law_row"]) (caps:=[]) (j6 rfl (by decide +kernel) (by decide +kernel) (by decide +kernel) (by decide +kernel)) rfl rfl yD (yP (zA 1)) (λ_ _ _ _=>(zq 0 (show (["_law_row"]:List Str).Nodup by decide +kernel) rfl (Or.inl rfl))) (λ_ _ _ _=>(x8 (zB zF (zB (zQ ay hr rfl (zB (xP (zA 0) xN (xO (xl zF))) zC)) zC)))))) rfl)
  (zL (uO 12 false uT.nd rfl rfl (own:=["_law_box_here"]) (caps:=[]) (yB (S:=zK qv) (N:=["_law_spec","_law_cell","_law_xs","_law_inner","_law_boxes_here","_law_back","_law_turn","_law_asked","_law_rows_here","_law_after","_law_steps","_law_stays","_law_rooms"]) rfl (by decide +kernel) rfl ⟨_,rfl⟩ rfl (by decide +kernel) (by decide +kernel)) rfl rfl yD (yP (zA 4)) (λ_ _ _ _=>(zq 0 (show (["_law_box_here"]:List Str).Nodup by decide +kernel) rfl (Or.inl rfl))) (λ_ _ _ _=>(zQ au hr rfl (zB (zA 0) zC))) rfl)
  (zP (zX (x8 (zB (zA 3) (zB (zA 8) (zB (zA 6) (zB (y8 (zB (zA 12) (zB (zA 5) (zB (zQ b8 hr rfl (zB (zV (zA 4) zF (λ_ _=>rfl)) zC)) (zB (zA 10) (zB (zA 11) zC)))))) zC))))))))))))))))),λds R h=>?_⟩
 obtain ⟨n,bs,ms,u,c,rfl,T,q⟩:=h
 have n3:=T.n3
 refine ⟨c,6,rfl,by decide,λxs lx hx=>?_⟩
 refine xf (by decide) (by omega) λx0 _=>⟨n,bs,ms,u,x0,rfl,T,λinner bxs I1 BB=>?_⟩
 have l1:=BB.l1
 have l4:=BB.l4
 have lbm:(List.map zZ bxs).length=bxs.length:=List.length_map ..
 refine xf (by decide) (by omega) λx1 _=>⟨by omega,?_⟩
 have mb:=md x1 (show (0:Int) < ((List.map zZ bxs).length:Int) by omega)
 refine ⟨λΓ=>∃ back t:Int,Γ=[.sh (wB n bs ms u),.sh (.int c),.sh (L xs),.sh (zZ inner),.sh (.lst (bxs.map zZ)),.sh (.int back),.sh (.int t),.no,.no,.no,.no,.no,.no]/\0<=back/\back < (bxs.length:Int)/\0<=t/\Bd 100 t,?_,?_⟩
 ·refine xf (by decide) (by omega) λx2 h2=>⟨by decide,xf (by decide) (by omega) λx3 h3=>⟨⟨by decide,by decide,by decide⟩,by decide,k0,xf (by decide) (by omega) λx4 _=>⟨by decide,ve (md _ (by decide)).1 (by have:=md x4 (show (0:Int) < 3 by decide); show x4.fmod 3 < 3; omega) λz hz=>?_⟩⟩⟩
  obtain ⟨t,rfl,t0,bt⟩:∃ t,z=.int t/\0<=t/\Bd 100 t:=by
   simp only [List.mem_cons,List.not_mem_nil,or_false] at hz
   rcases hz with rfl | rfl | rfl
   ·exact ⟨_,rfl,by decide,wg⟩
   ·exact ⟨_,rfl,(md x2 (by decide)).1,(vp (n:=3) Bd.lit (by decide)).mono⟩
   ·exact ⟨_,rfl,(md x3 (by decide)).1,(vp (n:=100) Bd.lit (by decide)).mono⟩
  exact ⟨x1.fmod ((List.map zZ bxs).length:Int),t,rfl,mb.1,by omega,t0,bt⟩
 rintro Γ' ⟨back,t,rfl,b0,bl,t0,bt⟩
 clear mb
 obtain ⟨bk,rfl⟩:=Int.eq_ofNat_of_zero_le b0
 have bkl:bk < bxs.length:=by omega
 refine ⟨by omega,by omega,?_⟩
 rw [show ((List.length (List.map zZ bxs):Nat):Int).toNat=bxs.length by omega]
 refine gW.mk (by rw [v8]; omega) (λd=>decide ((bk:Int)<=zz d) || decide (t<=zz d)) (λ_ e=>∃ b∈bxs,e=zZ b) (λd hd=>?_) (λd hd _=>?_) λes pe=>?_
 ·obtain ⟨j,hj⟩:=List.mem_iff_getElem?.mp hd
  obtain ⟨jl,rfl⟩:=v7 hj
  refine w2 (λc=>?_) λc=>?_
  ·show true=(_ || _)
   rw [show decide ((bk:Int)<=zz (.int (j:Int)))=true from c]
   rfl
  ·show _=(_ || _)
   rw [show decide ((bk:Int)<=zz (.int (j:Int)))=false from c]
   rfl
 ·obtain ⟨j,hj⟩:=List.mem_iff_getElem?.mp hd
  obtain ⟨jl,rfl⟩:=v7 hj
  exact ⟨_,uh [] jl,_,gq jl,rfl⟩
 obtain ⟨as,rfl,has⟩:∃ as:List (List (Int × Int)),es=as.map zZ/\∀ b∈as,b∈bxs:=by
  have key:∀ {ds es:List D},Paired (λ_ e=>∃ b∈bxs,e=zZ b) ds es->∃ as:List (List (Int × Int)),es=as.map zZ/\∀ b∈as,b∈bxs:=λ{ds es} p=>by
   induction p with
   | nil=>exact ⟨[],rfl,λ_ h=>nomatch h⟩
   | cons h _ ih=>
    obtain ⟨b,hb,rfl⟩:=h
    obtain ⟨as,rfl,ha⟩:=ih
    exact ⟨b :: as,rfl,λy hy=>(List.mem_cons.mp hy).elim (λz=>z ▸ hb) (ha y)⟩
  exact key pe
 have la:=Paired.length pe
 rw [List.length_map] at la
 have la1:1<=as.length:=by
  rw [<- la]
  refine List.length_pos_of_mem (a:=.int ((bxs.length - 1:Nat):Int)) (List.mem_filter.mpr ⟨?_,?_⟩)
  ·exact List.mem_map.mpr ⟨bxs.length - 1,List.mem_range.mpr (by omega),rfl⟩
  ·show (decide ((bk:Int)<=((bxs.length - 1:Nat):Int)) || _)=true
   rw [decide_eq_true (by omega)]
   rfl
 have la4:as.length<=4:=by
  have:=List.length_filter_le (λd=>decide ((bk:Int)<=zz d) || decide (t<=zz d)) (rng0 bxs.length)
  rw [v8] at this
  omega
 refine xf (by decide) (by omega) λx5 _=>⟨n,bs,ms,u,as,x5,rfl,T,⟨la1,la4,λb hb=>BB.bx b (has b hb)⟩,λg G1=>?_⟩
 have laf:(bxs.drop 1++[bxs.getD bk []]).length=bxs.length:=by rw [List.length_append,List.length_drop]; show _ + 1=_; omega
 have haf:∀ b∈bxs.drop 1++[bxs.getD bk []],Bx n 280 b:=λb hb=>by
  rcases List.mem_append.mp hb with hb | hb
  ·exact BB.bx b (List.mem_of_mem_drop hb)
  ·rw [List.mem_singleton.mp hb]; exact BB.bx _ (gq bkl)
 have ef:D.lst (zf (bxs.map zZ) (some 1) none++[zZ (bxs.getD bk [])])=.lst ((bxs.drop 1++[bxs.getD bk []]).map zZ):=by
  rw [gk (by decide),List.map_append,List.map_drop]
  rfl
 refine ⟨_,uh [] bkl,k0,by rw [gk (by decide),List.length_drop,lbm]; show _ + 1<=1000; omega,?_⟩
 rw [ef]
 refine ⟨by omega,by omega,?_⟩
 rw [show ((List.length (List.map zZ bxs):Nat):Int).toNat=bxs.length by omega]
 refine zl.rng0P (λd=>∃ s,d=zm s/\wa s) (by omega) (λk hk=>⟨_,uh [] hk,_,uh [] (by omega),n,bs,ms,u,_,_,rfl,T,BB.bx _ (gq hk),haf _ (gq (by omega)),λv hv=>⟨v,rfl,hv⟩⟩) λes le he=>?_
 obtain ⟨S4,rfl,h4⟩:=zOh he
 rw [List.length_map] at le
 have l3:=G1.l3
 refine zl.all (λd=>∃ s,d=yq s/\ur s) (by omega) (λd hd=>?_) λes le3 he3=>?_
 ·refine zl.all (λd=>∃ s,d=zu s/\jK s) (by rw [List.length_map]; omega) (λd hd=>?_) λes le he=>?_
  ·obtain ⟨r,hr,rfl⟩:=List.mem_map.mp hd
   obtain ⟨lr,br,_⟩:=G1.row r hr
   exact ⟨_,r.take n,rfl,.inr (by rw [vo lr]),by rw [List.length_take]; omega,λx hx=>(br x hx).mono,λys ly hy=>⟨k0,(1,ys),rfl,⟨(Bd.lit (i:=1) (n:=1)).mono,by rw [ly,List.length_take]; omega,λx hx=>(hy x hx).2.mono⟩⟩⟩
  ·obtain ⟨ss,rfl,hss⟩:=QS he
   rw [List.length_map,List.length_map] at le
   exact ⟨ss,rfl,by omega,hss⟩
 obtain ⟨S3,rfl,h3⟩:=zQQ he3
 rw [List.length_map,lbm] at le3
 refine xc zZ QQ zH3 (λb=>Rm (vJ b)) (by omega) (λb hb=>⟨b,rfl,by rw [(BB.bx b hb).len]; omega,rfl⟩) ?_
 refine ⟨_,uh (k:=0) [] (by omega),_,n,rfl,n3,BB.bx _ (gq (by omega)),λS1 h1=>⟨k0,k0,?_⟩⟩
 have:=q inner g t (bxs.map vJ) (bk:Int) S1 S4 S3 I1 G1 t0 bt ⟨λr hr=>?_,by rw [List.length_map]; omega⟩ (λrm hrm r hr x hx=>by obtain ⟨b,hb,rfl⟩:=List.mem_map.mp hrm; exact ((gu (BB.bx b hb) (by decide) r hr).2.1 x hx).mono) b0 (by rw [List.length_map]; exact bl) h1 ⟨by omega,h4⟩ ⟨by omega,h3⟩
 ·unfold wc vc at this
  rw [List.map_map] at this
  exact this
 ·obtain ⟨b,hb,rfl⟩:=List.mem_map.mp hr
  exact zM3 (BB.bx b hb) n3
end
theorem Wo {α:Type} {xs:List α} {lo hi:Option Int} {x:α} (h:x∈zf xs lo hi):x∈xs:=List.mem_of_mem_drop (List.mem_of_mem_take h)
theorem Yy {α:Type} {xs:List α} {lo hi:Option Int}:(zf xs lo hi).length<=xs.length:=by
 unfold zf
 rw [List.length_take,List.length_drop]
 omega
def Sy (y:D):Prop:=(∃ i,y=.int i/\Bd 1000 i)\/y=.bool true
theorem qw {o:Int} {ys:List D} (bo:Bd 1000 o) (l:ys.length<=900) (h:∀ y∈ys,Sy y):Fw 3 (.tup [.int o,.lst ys])/\qZ (.tup [.int o,.lst ys]):=by
 refine ⟨.tup (by show 2<=900; decide) λd hd=>?_,λo' ys' e=>?_⟩
 ·rcases List.mem_cons.mp hd with rfl | hd
  ·exact .int _
  ·rw [List.mem_singleton.mp hd]
   refine .lst l λy hy=>?_
   rcases h y hy with ⟨i,rfl,_⟩ | rfl
   ·exact .int i
   ·exact .bool _
 ·cases e
  refine ⟨bo,λy hy=>?_⟩
  rcases h y hy with ⟨i,rfl,b⟩ | rfl
  ·exact b
  ·exact wg
theorem zOi {s:Int × List Int} (h:jK s):Fw 3 (zu s)/\qZ (zu s):=qw (h.o.mono) (by rw [List.length_map]; have:=h.l; omega) λy hy=>by
 obtain ⟨i,hi,rfl⟩:=List.mem_map.mp hy
 exact .inl ⟨i,rfl,(h.b i hi).mono⟩
theorem Wp {k:Nat} {as:List D} (l:as.length<=900) (h:∀ a∈as,Fw 3 a/\qZ a):Fw (k + 4) (.lst as)/\xQ (.lst as):=⟨.lst l λa ha=>(h a ha).1.mono (by omega),λas' e=>by cases e; exact λa ha=>(h a ha).2⟩
theorem Wq {k:Nat} {ss:List (Int × List Int)} (h:ur ss):Fw (k + 4) (yq ss)/\xQ (yq ss):=Wp (by rw [List.length_map]; have:=h.1; omega) λa ha=>by
 obtain ⟨s,hs,rfl⟩:=List.mem_map.mp ha
 exact zOi (h.2 s hs)
theorem QW {as:List D} (l:as.length<=900) (h:∀ a∈as,Fw 4 a/\xQ a):Fw 5 (.lst as)/\xR (.lst as):=⟨.lst l λa ha=>(h a ha).1,λas' e=>by cases e; exact λa ha=>(h a ha).2⟩
theorem Wr {t:List (List (Int × List Int))} (h:wa t):Fw 5 (zm t)/\xR (zm t):=QW (by rw [List.length_map]; have:=h.1; omega) λa ha=>by
 obtain ⟨s,hs,rfl⟩:=List.mem_map.mp ha
 exact Wq (k:=0) (h.2 s hs)
def zMh:FL:=λds R=>∃ o ns c,ds=[.tup [.int o,L ns],.int c]/\jK (o,ns)/\∀ d,Fw 3 d->qZ d->R d
theorem zQo (n:Nat) (s:Int × List Int):(zu s).pl (n + 4)=true:=by
 show ([D.int s.1,L s.2].all (D.pl (n + 3)))=true
 rw [List.all_cons,List.all_cons,List.all_nil,Bool.and_true]
 exact Bool.and_eq_true_iff.mpr ⟨rfl,qK (n + 1) s.2⟩
theorem zQl (n:Nat) (ss:List (Int × List Int)):(yq ss).pl (n + 5)=true:=List.all_eq_true.mpr λd m=>by
 obtain ⟨s,_,rfl⟩:=List.mem_map.mp m
 exact zQo n s
theorem zOn (n:Nat) (t:List (List (Int × List Int))):(zm t).pl (n + 6)=true:=List.all_eq_true.mpr λd m=>by
 obtain ⟨s,_,rfl⟩:=List.mem_map.mp m
 exact zQl n s
theorem qx {e:Nat} {i:Int} (h:Bd 210 i) (k:211<=e):Bd e (i + 1)/\Bd e (i - 1):=⟨(h.add ((Bd.lit (i:=1) (n:=1)).mono)).mono k,(h.sub ((Bd.lit (i:=1) (n:=1)).mono)).mono k⟩
theorem QX {as:List D} (l:as.length<=900) (h:∀ a∈as,Fw 5 a/\xR a):Fw 6 (.lst as)/\ji (.lst as):=⟨.lst l λa ha=>(h a ha).1,λas' e=>by cases e; exact λa ha=>(h a ha).2⟩
theorem zO4 {v:List (List (List (Int × List Int)))} (h:Wm v):Fw 6 (uS v)/\ji (uS v):=QX (by rw [List.length_map]; have:=h.1; omega) λa ha=>by
 obtain ⟨s,hs,rfl⟩:=List.mem_map.mp ha
 exact Wr (h.2 s hs)
theorem Yz (n:Nat) (v:List (List (List (Int × List Int)))):(uS v).pl (n + 7)=true:=List.all_eq_true.mpr λd m=>by
 obtain ⟨s,_,rfl⟩:=List.mem_map.mp m
 exact zOn n s
def jM:Nat->FL
 | 0=>λ_ _=>False
 | j + 1=>λds R=>∃ d c,ds=[d,.int c]/\((∃ ss,d=yq ss/\ur ss/\∀ d,Fw 4 d->xQ d->R d)\/(1<=j/\∃ t,d=zm t/\wa t/\∀ d,Fw 5 d->xR d->R d)\/(2<=j/\∃ v,d=uS v/\Wm v/\∀ d,Fw 6 d->ji d->R d))
section
variable {P:Program} {w:World} {K:PySem.W.Frag} {mg:Str->Option Value} {base:Heap}
abbrev QY:Stmt:=zp 95
theorem gv:zh ["_law_shares","_law_cell","_law_often","_law_numbers","_law_way","_law_at","_law_other_here"] ["_law_shares","_law_cell"] (zK QY):=.a
abbrev QZ:Stmt:=zp 96
theorem Qa:zh ["_law_some","_law_cell","_law_at"] ["_law_some","_law_cell"] (zK QZ):=.a
variable {ag ah aClaim aSettles aComes aPaper aRooms aFalls:Addr} (aa:zE K mg "Mode" ag) (ab:wz K ag) (ac:zE K mg "Thing" ah) (ae:w4 K ah) (TClaim:zE K mg "Claim" aClaim) (AClaim:w6 K aClaim) (TSettles:zE K mg "Settles" aSettles) (ASettles:w8 K aSettles) (TComes:zE K mg "Comes" aComes) (AComes:vA K aComes) (TPaper:zE K mg "Paper" aPaper) (APaper:vB K aPaper) (TRooms:zE K mg "Rooms" aRooms) (ARooms:vC K aRooms) (TFalls:zE K mg "Falls" aFalls) (AFalls:vD K aFalls)
include aa ab ac ae TClaim AClaim TSettles ASettles TComes AComes TPaper APaper TRooms ARooms TFalls AFalls
theorem zKr {k:Nat} {f:Addr} {fd:FuncData} (F:zj K "_law_other" "_law_other" QY f fd) (B:Bl mg):zG P w K mg base zY (k + 1) f fd ["_law_shares","_law_cell"] (zJ (zMh)):=by
 refine zx F gv (λds R h=>by obtain ⟨o,ns,c,rfl,_⟩:=h; rfl) λcdv A outer s H E hr=>⟨_,(zL (jB (zA 0) (wK rfl (zw 2 gv.nd rfl (Or.inl rfl) (zw 3 gv.nd rfl (Or.inl rfl) wJ))))
  (zL (zv 4 gv.nd rfl (Or.inl rfl) (xB (zA 1) zF))
  (zL (yR (PW.pt (wI (vj hr.units (zA 4) zF) (we (vj hr.units (zA 3) (y8 zC))))) (zP (zX (x8 (zB (zr (zA 2) (zV (y8 (zB zF (zB (xl zF) zC))) (xB (wu (zA 1) zF) zF) (λ_ _=>rfl))) (zB (zA 3) zC))))) yQ)
  (zL (zv 5 gv.nd rfl (Or.inl rfl) (xB (wu (zA 1) zF) (zy yf yo rfl B.len_ yh (zB (zA 3) zC))))
  (zL (zv 6 gv.nd rfl (Or.inl rfl) (zV (y8 (zB (zr (zV (zA 3) (zA 5) (λ_ _=>rfl)) zF) (zB (xr (zV (zA 3) (zA 5) (λ_ _=>rfl)) zF) (zB xk (zB (zr (zV (zA 3) (zA 5) (λ_ _=>rfl)) zF) zC))))) (xr (zA 4) zF) (λ_ _=>rfl)))
  (zP (zX (x8 (zB (zA 2) (zB (zr (zr (xP (zA 3) xN (xO (zA 5))) (y8 (zB (zA 6) zC))) (xP (zA 3) (xO (zr (zA 5) zF)) xN)) zC)))))))))),λds R h=>?_⟩
 obtain ⟨o,ns,c,rfl,h,q⟩:=h
 have hl:ns.length<=100:=h.l
 refine ⟨by decide,w2 (λc1=>wT rfl ?_) λc1=>⟨k0,qf _,rfl,w2 (λc2=>?_) λc2=>?_⟩⟩
 ·exact ⟨k0,by decide,(Bd.lit (i:=5) (n:=3)).mono,by decide,ve (md _ (by decide)).1 (by have:=md (c.fdiv 5) (show (0:Int) < 2 by decide); show (c.fdiv 5).fmod 2 < 2; omega) λz hz=>by
   obtain ⟨w,rfl,bw⟩:vY (Bd 2) z:=by
    simp only [List.mem_cons,List.not_mem_nil,or_false] at hz
    rcases hz with rfl | rfl <;> exact ⟨_,rfl,Bd.lit⟩
   have:=qw (o:=o + w) (ys:=ns.map D.int) ((h.o.add bw.mono).mono) (by rw [List.length_map]; have:=h.l; omega) (λy hy=>by
    obtain ⟨i,hi,rfl⟩:=List.mem_map.mp hy
    exact .inl ⟨i,rfl,(h.b i hi).mono⟩)
   exact ⟨k0,q _ this.1 this.2⟩⟩
 ·exact ⟨k0,by decide,(Bd.lit (i:=5) (n:=3)).mono,by decide,ve (md _ (by decide)).1 (by have:=md (c.fdiv 5) (show (0:Int) < 2 by decide); show (c.fdiv 5).fmod 2 < 2; omega) λz hz=>by
   obtain ⟨w,rfl,bw⟩:vY (Bd 2) z:=by
    simp only [List.mem_cons,List.not_mem_nil,or_false] at hz
    rcases hz with rfl | rfl <;> exact ⟨_,rfl,Bd.lit⟩
   have:=qw (o:=o + w) (ys:=ns.map D.int) ((h.o.add bw.mono).mono) (by rw [List.length_map]; have:=h.l; omega) (λy hy=>by
    obtain ⟨i,hi,rfl⟩:=List.mem_map.mp hy
    exact .inl ⟨i,rfl,(h.b i hi).mono⟩)
   exact ⟨k0,q _ this.1 this.2⟩⟩
 rw [Zd] at c2
 have hn:1<=ns.length:=by
  cases ns with
  | nil=>cases c2
  | cons=>exact Nat.succ_le_succ (Nat.zero_le _)
 have lm:(List.map D.int ns).length=ns.length:=List.length_map ..
 have m5:=md c (show (0:Int) < 5 by decide)
 have c1':=of_decide_eq_false c1
 refine ⟨by decide,(Bd.lit (i:=10) (n:=4)).mono,by omega,?_⟩
 have mat:=md (c.fdiv 10) (show (0:Int) < ((List.map D.int ns).length:Int) by omega)
 refine xf mat.1 (by omega) λx1 h1=>xf mat.1 (by omega) λx2 h2=>xf mat.1 (by omega) λx3 h3=>⟨k0,ve (by omega) (by show c.fmod 5 - 1 < 4; omega) λz hz=>?_⟩
 have hz':Sy z:=by
  simp only [List.mem_cons,List.not_mem_nil,or_false] at hz
  rcases hz with rfl | rfl | rfl | rfl
  ·exact .inl ⟨_,rfl,(qx (h.b x1 h1) (by decide)).1⟩
  ·exact .inl ⟨_,rfl,(qx (h.b x2 h2) (by decide)).2⟩
  ·exact .inr rfl
  ·exact .inl ⟨_,rfl,(qx (h.b x3 h3) (by decide)).1⟩
 have l1:=Yy (xs:=ns.map D.int) (lo:=none) (hi:=some ((c.fdiv 10).fmod ((List.map D.int ns).length:Int)))
 have l2:=Yy (xs:=ns.map D.int) (lo:=some ((c.fdiv 10).fmod ((List.map D.int ns).length:Int) + 1)) (hi:=none)
 refine ⟨k0,by show _ + 1<=1000; omega,by rw [List.length_append]; show _ + 1 + _<=1000; omega,k0,?_⟩
 have K:=qw (o:=o) (ys:=zf (ns.map D.int) none (some ((c.fdiv 10).fmod ((List.map D.int ns).length:Int)))++[z]++zf (ns.map D.int) (some ((c.fdiv 10).fmod ((List.map D.int ns).length:Int) + 1)) none) (h.o.mono) (by rw [List.length_append,List.length_append]; show _ + 1 + _<=900; omega) (λy hy=>by
  have cm:∀ {lo hi:Option Int},y∈zf (ns.map D.int) lo hi->Sy y:=λhy=>by
   obtain ⟨i,hi,rfl⟩:=List.mem_map.mp (Wo hy)
   exact .inl ⟨i,rfl,(h.b i hi).mono⟩
  rcases List.mem_append.mp hy with hy | hy
  ·rcases List.mem_append.mp hy with hy | hy
   ·exact cm hy
   ·rw [List.mem_singleton.mp hy]; exact hz'
  ·exact cm hy)
 exact q _ K.1 K.2
theorem Qb {k:Nat} {f:Addr} {fd:FuncData} {j:Nat} (F:zj K "_law_changed" "_law_changed" QZ f fd) (B:Bl mg) (b9:Fn P w K mg base "_law_other" ["_law_shares","_law_cell"] k (zJ (zMh))) (aH:Fn P w K mg base "_law_changed" ["_law_some","_law_cell"] k (zJ (jM j))):zG P w K mg base zY (k + 1) f fd ["_law_some","_law_cell"] (zJ (jM (j + 1))):=by
 refine zx F Qa (λds R h=>by obtain ⟨d,c,rfl,_⟩:=h; rfl) λcdv A outer s H E hr=>⟨_,(zL (yR (vj hr.units (zA 0) (y8 zC)) (zP (zX (y8 (zB (x8 (zB zF (zB (y8 zC) zC))) zC)))) yQ)
  (zL (zv 2 Qa.nd rfl (Or.inl rfl) (xB (zA 1) (zy yf yo rfl B.len_ yh (zB (zA 0) zC))))
  (zL (zv 1 Qa.nd rfl (Or.inl rfl) (wu (zA 1) (zy yf yo rfl B.len_ yh (zB (zA 0) zC))))
  (zL (yR (yc (yO (xi wo rfl B.isinstance_ xo (zi (zV (zA 0) (zA 2) (λ_ _=>rfl)) (zi (wj (v:=.ty "tuple") (u:=.type "tuple") rfl B.tuple_ vI rfl) yE))) (wx Z9))) (zL (yR (vj hr.units (xB (zA 1) zF) zF) (zP (zX (zr (xP (zA 0) xN (xO (zA 2))) (xP (zA 0) (xO (zr (zA 2) zF)) xN)))) yQ)
   (zP (zX (zr (zr (xP (zA 0) xN (xO (zA 2))) (y8 (zB (zQ b9 hr rfl (zB (zV (zA 0) (zA 2) (λ_ _=>rfl)) (zB (wu (zA 1) zF) zC))) zC))) (xP (zA 0) (xO (zr (zA 2) zF)) xN))))) yQ)
  (zL (yR (vj hr.units (xB (zA 1) zF) zF) (zP (zX (zr (zr (xP (zA 0) xN (xO (zA 2))) (y8 (zB ZW zC))) (xP (zA 0) (xO (zr (zA 2) zF)) xN)))) yQ)
  (zL (yR (vj hr.units (xB (zA 1) zF) zF) (zP (zX (zr (xP (zA 0) xN (xO (zA 2))) (xP (zA 0) (xO (zr (zA 2) zF)) xN)))) yQ)
  (zP (zX (zr (zr (xP (zA 0) xN (xO (zA 2))) (y8 (zB (zQ aH hr rfl (zB (zV (zA 0) (zA 2) (λ_ _=>rfl)) (zB (wu (zA 1) zF) zC))) zC))) (xP (zA 0) (xO (zr (zA 2) zF)) xN)))))))))),λds R h=>?_⟩
 obtain ⟨d,c,rfl,h⟩:=h
 rcases h with ⟨ss,rfl,hs,q⟩ | ⟨j1,t,rfl,ht,q⟩ | ⟨j1,t,rfl,ht,q⟩
 ·have ls:=hs.1
  have lm:(List.map zu ss).length=ss.length:=List.length_map ..
  refine ⟨k0,zQl 45 ss,rfl,w2 (λc1=>⟨k0,k0,k0,?_⟩) λc1=>?_⟩
  ·have K:=Wp (k:=0) (as:=[.tup [.int 1,.lst []]]) (by show 1<=900; decide) (λa ha=>by rw [List.mem_singleton.mp ha]; exact qw ((Bd.lit (i:=1) (n:=1)).mono) (by decide) (λ_ h=>nomatch h))
   exact q _ K.1 K.2
  rw [Zd] at c1
  have hn:1<=ss.length:=by
   cases ss with
   | nil=>cases c1
   | cons=>exact Nat.succ_le_succ (Nat.zero_le _)
  have mat:=md c (show (0:Int) < ((List.map zu ss).length:Int) by omega)
  have keep:∀ {lo hi:Option Int} {a:D},a∈zf (ss.map zu) lo hi->Fw 3 a/\qZ a:=λha=>by
   obtain ⟨s,hs',rfl⟩:=List.mem_map.mp (Wo ha)
   exact zOi (hs.2 s hs')
  have cl:∀ {lo hi:Option Int},(zf (ss.map zu) lo hi).length<=40:=λ{lo hi}=>by have:=Yy (xs:=ss.map zu) (lo:=lo) (hi:=hi); omega
  refine ⟨by omega,by omega,Bd.mono (n:=10) (uB (f:=1000) (by decide) (by omega) (by omega)) (by decide),ve mat.1 (by omega) λx hx=>?_⟩
  obtain ⟨s,hs',rfl⟩:=List.mem_map.mp hx
  refine ⟨rfl,wT rfl ⟨by decide,w2 (λc2=>?_) λc2=>?_⟩⟩
  ·refine ⟨?_,?_⟩
   ·have:=cl (lo:=none) (hi:=some (c.fmod ((List.map zu ss).length:Int)))
    have:=cl (lo:=some (c.fmod ((List.map zu ss).length:Int) + 1)) (hi:=none)
    omega
   ·have K:=Wp (k:=0) (as:=zf (ss.map zu) none (some (c.fmod ((List.map zu ss).length:Int)))++zf (ss.map zu) (some (c.fmod ((List.map zu ss).length:Int) + 1)) none) (by
     have:=cl (lo:=none) (hi:=some (c.fmod ((List.map zu ss).length:Int)))
     have:=cl (lo:=some (c.fmod ((List.map zu ss).length:Int) + 1)) (hi:=none)
     rw [List.length_append]
     omega) (λa ha=>(List.mem_append.mp ha).elim keep keep)
    exact q _ K.1 K.2
  ·refine ve mat.1 (by omega) λy hy=>?_
   obtain ⟨s2,hs2,rfl⟩:=List.mem_map.mp hy
   refine ⟨by decide,(Bd.lit (i:=3) (n:=2)).mono,s2.1,s2.2,_,rfl,hs.2 s2 hs2,λz fz bz=>⟨k0,?_,?_,?_⟩⟩
   ·have:=cl (lo:=none) (hi:=some (c.fmod ((List.map zu ss).length:Int)))
    show _ + 1<=1000
    omega
   ·have:=cl (lo:=none) (hi:=some (c.fmod ((List.map zu ss).length:Int)))
    have:=cl (lo:=some (c.fmod ((List.map zu ss).length:Int) + 1)) (hi:=none)
    rw [List.length_append]
    show _ + 1 + _<=1000
    omega
   ·have K:=Wp (k:=0) (as:=zf (ss.map zu) none (some (c.fmod ((List.map zu ss).length:Int)))++[z]++zf (ss.map zu) (some (c.fmod ((List.map zu ss).length:Int) + 1)) none) (by
     have:=cl (lo:=none) (hi:=some (c.fmod ((List.map zu ss).length:Int)))
     have:=cl (lo:=some (c.fmod ((List.map zu ss).length:Int) + 1)) (hi:=none)
     rw [List.length_append,List.length_append]
     show _ + 1 + _<=900
     omega) (λa ha=>by
     rcases List.mem_append.mp ha with ha | ha
     ·rcases List.mem_append.mp ha with ha | ha
      ·exact keep ha
      ·rw [List.mem_singleton.mp ha]; exact ⟨fz,bz⟩
     ·exact keep ha)
    exact q _ K.1 K.2
 ·have ls:=ht.1
  have lm:(List.map yq t).length=t.length:=List.length_map ..
  refine ⟨k0,zOn 44 t,rfl,w2 (λc1=>⟨k0,k0,k0,?_⟩) λc1=>?_⟩
  ·refine q _ (.lst (by show 1<=900; decide) λa ha=>?_) λas e=>?_
   ·rw [List.mem_singleton.mp ha]
    exact (qw (o:=1) (ys:=[]) ((Bd.lit (i:=1) (n:=1)).mono) (by decide) (λ_ h=>nomatch h)).1.mono
   ·cases e
    exact λa ha as e=>by rw [List.mem_singleton.mp ha] at e; cases e
  rw [Zd] at c1
  have hn:1<=t.length:=by
   cases t with
   | nil=>cases c1
   | cons=>exact Nat.succ_le_succ (Nat.zero_le _)
  have mat:=md c (show (0:Int) < ((List.map yq t).length:Int) by omega)
  have keep:∀ {lo hi:Option Int} {a:D},a∈zf (t.map yq) lo hi->Fw 4 a/\xQ a:=λha=>by
   obtain ⟨s,hs',rfl⟩:=List.mem_map.mp (Wo ha)
   exact Wq (k:=0) (ht.2 s hs')
  have cl:∀ {lo hi:Option Int},(zf (t.map yq) lo hi).length<=40:=λ{lo hi}=>by have:=Yy (xs:=t.map yq) (lo:=lo) (hi:=hi); omega
  have c1l:=cl (lo:=none) (hi:=some (c.fmod ((List.map yq t).length:Int)))
  have c2l:=cl (lo:=some (c.fmod ((List.map yq t).length:Int) + 1)) (hi:=none)
  have put:∀ z:D,Fw 4 z->xQ z->R (.lst (zf (t.map yq) none (some (c.fmod ((List.map yq t).length:Int)))++[z]++zf (t.map yq) (some (c.fmod ((List.map yq t).length:Int) + 1)) none)):=λz fz az=>by
   have K:=QW (as:=zf (t.map yq) none (some (c.fmod ((List.map yq t).length:Int)))++[z]++zf (t.map yq) (some (c.fmod ((List.map yq t).length:Int) + 1)) none) (by
    rw [List.length_append,List.length_append]
    show _ + 1 + _<=900
    omega) (λa ha=>by
    rcases List.mem_append.mp ha with ha | ha
    ·rcases List.mem_append.mp ha with ha | ha
     ·exact keep ha
     ·rw [List.mem_singleton.mp ha]; exact ⟨fz,az⟩
    ·exact keep ha)
   exact q _ K.1 K.2
  refine ⟨by omega,by omega,Bd.mono (n:=10) (uB (f:=1000) (by decide) (by omega) (by omega)) (by decide),ve mat.1 (by omega) λx hx=>?_⟩
  obtain ⟨s,hs',rfl⟩:=List.mem_map.mp hx
  refine ⟨rfl,wF rfl ⟨by decide,w2 (λc2=>⟨k0,by show _ + 1<=1000; omega,by rw [List.length_append]; show _ + 1 + _<=1000; omega,put .non .non (λ_ e=>by cases e)⟩) λc2=>⟨by decide,w2 (λc3=>⟨by omega,?_⟩) λc3=>?_⟩⟩⟩
  ·have K:=QW (as:=zf (t.map yq) none (some (c.fmod ((List.map yq t).length:Int)))++zf (t.map yq) (some (c.fmod ((List.map yq t).length:Int) + 1)) none) (by rw [List.length_append]; omega) (λa ha=>(List.mem_append.mp ha).elim keep keep)
   exact q _ K.1 K.2
  ·refine ve mat.1 (by omega) λy hy=>?_
   obtain ⟨s2,hs2,rfl⟩:=List.mem_map.mp hy
   obtain ⟨j',rfl⟩:∃ j',j=j' + 1:=⟨j - 1,by omega⟩
   exact ⟨by decide,(Bd.lit (i:=7) (n:=3)).mono,_,_,rfl,.inl ⟨s2,rfl,ht.2 s2 hs2,λz fz az=>⟨k0,by show _ + 1<=1000; omega,by rw [List.length_append]; show _ + 1 + _<=1000; omega,put z fz az⟩⟩⟩
 ·have ls:=ht.1
  have lm:(List.map zm t).length=t.length:=List.length_map ..
  refine ⟨k0,Yz 43 t,rfl,w2 (λc1=>⟨k0,k0,k0,?_⟩) λc1=>?_⟩
  ·refine q _ (.lst (by show 1<=900; decide) λa ha=>?_) λas e=>?_
   ·rw [List.mem_singleton.mp ha]
    exact (qw (o:=1) (ys:=[]) ((Bd.lit (i:=1) (n:=1)).mono) (by decide) (λ_ h=>nomatch h)).1.mono
   ·cases e
    exact λa ha as e=>by rw [List.mem_singleton.mp ha] at e; cases e
  rw [Zd] at c1
  have hn:1<=t.length:=by
   cases t with
   | nil=>cases c1
   | cons=>exact Nat.succ_le_succ (Nat.zero_le _)
  have mat:=md c (show (0:Int) < ((List.map zm t).length:Int) by omega)
  have keep:∀ {lo hi:Option Int} {a:D},a∈zf (t.map zm) lo hi->Fw 5 a/\xR a:=λha=>by
   obtain ⟨s,hs',rfl⟩:=List.mem_map.mp (Wo ha)
   exact Wr (ht.2 s hs')
  have cl:∀ {lo hi:Option Int},(zf (t.map zm) lo hi).length<=40:=λ{lo hi}=>by have:=Yy (xs:=t.map zm) (lo:=lo) (hi:=hi); omega
  have c1l:=cl (lo:=none) (hi:=some (c.fmod ((List.map zm t).length:Int)))
  have c2l:=cl (lo:=some (c.fmod ((List.map zm t).length:Int) + 1)) (hi:=none)
  have put:∀ z:D,Fw 5 z->xR z->R (.lst (zf (t.map zm) none (some (c.fmod ((List.map zm t).length:Int)))++[z]++zf (t.map zm) (some (c.fmod ((List.map zm t).length:Int) + 1)) none)):=λz fz az=>by
   have K:=QX (as:=zf (t.map zm) none (some (c.fmod ((List.map zm t).length:Int)))++[z]++zf (t.map zm) (some (c.fmod ((List.map zm t).length:Int) + 1)) none) (by
    rw [List.length_append,List.length_append]
    show _ + 1 + _<=900
    omega) (λa ha=>by
    rcases List.mem_append.mp ha with ha | ha
    ·rcases List.mem_append.mp ha with ha | ha
     ·exact keep ha
     ·rw [List.mem_singleton.mp ha]; exact ⟨fz,az⟩
    ·exact keep ha)
   exact q _ K.1 K.2
  refine ⟨by omega,by omega,Bd.mono (n:=10) (uB (f:=1000) (by decide) (by omega) (by omega)) (by decide),ve mat.1 (by omega) λx hx=>?_⟩
  obtain ⟨s,hs',rfl⟩:=List.mem_map.mp hx
  refine ⟨rfl,wF rfl ⟨by decide,w2 (λc2=>⟨k0,by show _ + 1<=1000; omega,by rw [List.length_append]; show _ + 1 + _<=1000; omega,put .non .non (λ_ e=>by cases e)⟩) λc2=>⟨by decide,w2 (λc3=>⟨by omega,?_⟩) λc3=>?_⟩⟩⟩
  ·have K:=QX (as:=zf (t.map zm) none (some (c.fmod ((List.map zm t).length:Int)))++zf (t.map zm) (some (c.fmod ((List.map zm t).length:Int) + 1)) none) (by rw [List.length_append]; omega) (λa ha=>(List.mem_append.mp ha).elim keep keep)
   exact q _ K.1 K.2
  ·refine ve mat.1 (by omega) λy hy=>?_
   obtain ⟨s2,hs2,rfl⟩:=List.mem_map.mp hy
   obtain ⟨j',rfl⟩:∃ j',j=j' + 1:=⟨j - 1,by omega⟩
   exact ⟨by decide,(Bd.lit (i:=7) (n:=3)).mono,_,_,rfl,.inr (.inl ⟨by omega,s2,rfl,ht.2 s2 hs2,λz fz az=>⟨k0,by show _ + 1<=1000; omega,by rw [List.length_append]; show _ + 1 + _<=1000; omega,put z fz az⟩⟩)⟩
end
theorem zPL {n j:Nat} {r:List Int} {B:List (List Int)} (lr:n<=r.length) (lB:B.length=n):((List.range n).map λi=>r.getD i 0 * (B.getD i []).getD j 0).sum=zS (r.take n) B j:=by
 unfold zS
 congr 1
 refine List.ext_getElem (by rw [List.length_map,List.length_map,List.length_zip,List.length_take,List.length_range]; omega) λi h1 h2=>?_
 rw [List.length_map,List.length_range] at h1
 rw [List.getElem_map,List.getElem_map,List.getElem_range,List.getElem_zip,List.getElem_take]
 rw [List.getD_eq_getElem?_getD,List.getElem?_eq_getElem (by omega),List.getD_eq_getElem?_getD (l:=B),List.getElem?_eq_getElem (by omega)]
 rfl
theorem Y0 {B:List (List Int)} {i:Nat} (h:i < B.length):yL (B.map L) (i:Int)=some (L (B.getD i [])):=by
 rw [uk]
 unfold yL wG
 rw [if_pos (by omega),if_pos (by omega)]
 show Option.map L B[((i:Nat):Int).toNat]? = _
 rw [show ((i:Nat):Int).toNat=i by omega,List.getElem?_eq_getElem h,List.getD_eq_getElem?_getD,List.getElem?_eq_getElem h]
 rfl
def zO1:FL:=λds R=>∃ B r n,ds=[Tb B,U r]/\B.length=n/\n<=3/\r.length=n + 1/\(∀ q∈B,q.length=n/\∀ x∈q,Bd 20 x)/\(∀ x∈r,Bd 1000 x)/\R (U (zb n B r))
def zMk:FL:=λds R=>∃ B rm n,ds=[Tb B,Rm rm]/\B.length=n/\n<=3/\rm.length<=900/\(∀ r∈rm,r.length=n + 1/\∀ x∈r,Bd 1000 x)/\(∀ q∈B,q.length=n/\∀ x∈q,Bd 20 x)/\R (Rm (rm.map (zb n B)))
def zKA:FL:=λds R=>∃ n c,ds=[.int ((n:Nat):Int),.int c]/\1<=n/\n<=3/\∀ T B,TB n T B->yx T->yx B->R (.tup [Tb T,Tb B])
section
variable {P:Program} {w:World} {K:PySem.W.Frag} {mg:Str->Option Value} {base:Heap}
abbrev Ws:Stmt:=zp 98
theorem zDi:zh ["_law_back","_law_row","_law_many"] ["_law_back","_law_row"] (zK Ws):=.a
abbrev Wt:Stmt:=zp 99
theorem zFT:zh ["_law_back","_law_room"] ["_law_back","_law_room"] (zK Wt):=.a
variable {ag ah aClaim aSettles aComes aPaper aRooms aFalls:Addr} (aa:zE K mg "Mode" ag) (ab:wz K ag) (ac:zE K mg "Thing" ah) (ae:w4 K ah) (TClaim:zE K mg "Claim" aClaim) (AClaim:w6 K aClaim) (TSettles:zE K mg "Settles" aSettles) (ASettles:w8 K aSettles) (TComes:zE K mg "Comes" aComes) (AComes:vA K aComes) (TPaper:zE K mg "Paper" aPaper) (APaper:vB K aPaper) (TRooms:zE K mg "Rooms" aRooms) (ARooms:vC K aRooms) (TFalls:zE K mg "Falls" aFalls) (AFalls:vD K aFalls)
include aa ab ac ae TClaim AClaim TSettles ASettles TComes AComes TPaper APaper TRooms ARooms TFalls AFalls
theorem zF8 {k:Nat} {f:Addr} {fd:FuncData} (F:zj K "_law_turned_row" "_law_turned_row" Ws f fd) (B:Bl mg):zG P w K mg base zY (k + 1) f fd ["_law_back","_law_row"] (zJ (zO1)):=by
 refine zx F zDi (λds R h=>by obtain ⟨B,r,n,rfl,_⟩:=h; rfl) λcdv A outer s H E hr=>⟨_,(zL (zv 2 zDi.nd rfl (Or.inr rfl) (zy yf yo rfl B.len_ yh (zB (zA 0) zC)))
  (zP (zX (xV uX ud rfl B.tuple_ vI (zB (zr (yI (own:=["_law_j"]) (caps:=[(0,"_law_back"),(1,"_law_row"),(2,"_law_many")]) (yB (S:=zK Ws) (N:=["_law_back","_law_row","_law_many"]) rfl (by decide +kernel) rfl ⟨_,rfl⟩ rfl (by decide +kernel) (by decide +kernel)) rfl rfl yD (xK rfl B.range_ (zB (zA 2) zC)) (λ_ _ _ _=>(zq 0 (show (["_law_j","_law_back","_law_row","_law_many"]:List Str).Nodup by decide +kernel) rfl (Or.inr rfl))) (λ_ _ _ _=>(zy (ZA rfl) Zn rfl B.sum_ k9 (zB (yI (own:=["_law_i"]) (caps:=[(0,"_law_j"),(1,"_law_back"),(2,"_law_row")]) (j6 rfl (by decide +kernel) (by decide +kernel) (by decide +kernel) (by decide +kernel)) rfl rfl yD (xK rfl B.range_ (zB (zA 3) zC)) (λ_ _ _ _=>(zq 0 (show (["_law_i","_law_j","_law_back","_law_row"]:List Str).Nodup by decide +kernel) rfl (Or.inl rfl))) (λ_ _ _ _=>(xE (zV (zA 3) (zA 0) (λ_ _=>rfl)) (zV (zV (zA 2) (zA 0) (λ_ _=>rfl)) (zA 1) (λ_ _=>rfl))))) zC)))) (y8 (zB (zV (zA 1) (xl zF) (λ_ _=>rfl)) zC))) zC))))),λds R h=>?_⟩
 obtain ⟨B,r,n,rfl,lB,n3,lr,hB,hr,q⟩:=h
 have lm:(List.map L B).length=n:=by rw [List.length_map]; exact lB
 refine ⟨by omega,by omega,?_⟩
 rw [show ((List.length (List.map L B):Nat):Int).toNat=n by omega]
 refine zl.rng0 (λj=>.int (zS (r.take n) B j)) (by omega) (λj hj=>?_) ?_
 ·refine ⟨by omega,by omega,?_⟩
  rw [show ((List.length (List.map L B):Nat):Int).toNat=n by omega]
  refine zl.rng0 (λi=>.int (r.getD i 0 * (B.getD i []).getD j 0)) (by omega) (λi hi=>?_) ⟨(List.range n).map λi=>r.getD i 0 * (B.getD i []).getD j 0,by rw [List.map_map]; rfl,by rw [zPL (by omega) lB]⟩
  have hq:B.getD i []∈B:=by
   rw [List.getD_eq_getElem?_getD,List.getElem?_eq_getElem (by omega)]
   exact List.getElem_mem _
  exact ⟨_,wZ (j:=i) (by omega) rfl,_,Y0 (by omega),_,wZ (j:=j) (by rw [(hB _ hq).1]; exact hj) rfl,(jH hr i).mono,(jH (hB _ hq).2 j).mono,rfl⟩
 refine ⟨_,qe lr,k0,by rw [List.length_map,List.length_range]; show _ + 1<=1000; omega,?_⟩
 unfold zb U at q
 rw [List.map_append,List.map_map,zRg lr] at q
 exact q
theorem zFY {k:Nat} {f:Addr} {fd:FuncData} (F:zj K "_law_turned_room" "_law_turned_room" Wt f fd) (B:Bl mg) (ca:Fn P w K mg base "_law_turned_row" ["_law_back","_law_row"] k (zJ (zO1))):zG P w K mg base zY (k + 1) f fd ["_law_back","_law_room"] (zJ (zMk)):=by
 refine zx F zFT (λds R h=>by obtain ⟨B,rm,n,rfl,_⟩:=h; rfl) λcdv A outer s H E hr=>⟨_,(zP (zX (yI (own:=["_law_row"]) (caps:=[(0,"_law_back")]) (yB (S:=zK Wt) (N:=["_law_back","_law_room"]) rfl (by decide +kernel) rfl ⟨_,rfl⟩ rfl (by decide +kernel) (by decide +kernel)) rfl rfl yD (yP (zA 1)) (λ_ _ _ _=>(zq 0 (show (["_law_row","_law_back"]:List Str).Nodup by decide +kernel) rfl (Or.inl rfl))) (λ_ _ _ _=>(zQ ca hr rfl (zB (zA 1) (zB (zA 0) zC))))))),λds R h=>?_⟩
 obtain ⟨B,rm,n,rfl,lB,n3,l9,hr,hB,q⟩:=h
 refine xc U zg jG (λr=>U (zb n B r)) (by omega) (λr h=>⟨B,r,n,rfl,lB,n3,(hr r h).1,hB,(hr r h).2,rfl⟩) ?_
 rw [Jq (zb n B)]
 exact q
end
theorem zP5 {X:Cx} {scope:Scope} {own:List Str} (k:scope.kind=.function) (nd:(scope.names.map (·.1)).Nodup:=by decide +kernel) (fr:scope.names.all (λy=>y.2 != .free)=true:=by decide +kernel):vS X scope own []:=
 ⟨k,nd,λy hy e=>j5 nd (by rw [<- e]; exact hy),λy hy e=>(by
  have q:=List.all_eq_true.mp fr y hy
  rw [e] at q
  exact absurd q (by decide)),λp hp=>by cases hp⟩
theorem Qc {X:Cx} {scope S:Scope} {own N:List Str} {caps:List (Nat × Str)} (hc:∃ n,X.env.cells=cellsFrom n S.names []) (k:scope.kind=.function:=by rfl) (nd:(scope.names.map (·.1)).Nodup:=by decide +kernel) (hS:X.env.scope=S:=by rfl) (hN:X.N=N:=by rfl) (fr:scope.names.all (λy=>y.2 != .free || S.names.lookup y.1 == some .cell)=true:=by decide +kernel)
  (cp:caps.all (λp=>N[p.1]? == some p.2 && scope.names.lookup p.2 == some .free && S.names.lookup p.2 == some .cell)=true:=by decide +kernel):vS X scope own caps:=yB k nd hS hc hN fr cp
theorem Y1 {ns:List Int} {i:Nat} (h:i < ns.length):yL (ns.map V.int) (i:Int)=some (.int (ns.getD i 0)):=by
 rw [zP7 h,List.getD_eq_getElem?_getD,List.getElem?_eq_getElem h]
 rfl
theorem zNX {α:Type} {l:List α} {n:Nat} (h:l.length<=n):l.take n=l:=List.take_of_length_le h
theorem zOg {H:Hp} {tv:List V} {T:List (List Int)} {i:Nat} (h:yj H tv T) (hi:i < T.length):∃ a,yL tv (i:Int)=some (.ref a)/\H a=some (.lst ((T.getD i []).map V.int))/\T.getD i []∈T:=by
 have l:tv.length=T.length:=Paired.length h
 have hv:tv[i]? = some (tv[i]'(by omega)):=List.getElem?_eq_getElem _
 obtain ⟨r,hr,a,e1,ea⟩:=j7 h hv
 have e:T.getD i []=r:=by rw [List.getD_eq_getElem?_getD,hr]; rfl
 rw [e]
 exact ⟨a,Ke (hv.trans (by rw [e1])),ea,List.mem_of_getElem? hr⟩
theorem Paired.mapM {α β:Type} {R S:α->β->Prop}:∀ {xs:List α} {ys:List β},Paired R xs ys->(∀ x y,x∈xs->R x y->S x y)->Paired S xs ys
 | _,_,.nil,_=>.nil
 | _,_,.cons h t,f=>.cons (f _ _ List.mem_cons_self h) (Paired.mapM t λx y m=>f x y (List.mem_cons_of_mem _ m))
theorem zOv (i j:Nat):(if decide (V.int (0 + (i:Int))=V.int (0 + (j:Int)))=true then (1:Int) else 0)=if i=j then 1 else 0:=by
 by_cases e:i=j
 ·rw [if_pos e,e,decide_eq_true rfl,if_pos rfl]
 ·rw [if_neg e,decide_eq_false (λz=>e (by injection z with z; omega)),if_neg (by decide)]
theorem zIC {f:Nat->Int} {n i:Nat} {v:Int}:((List.range n).map f).set i v=(List.range n).map λc=>if c=i then v else f c:=by
 refine List.ext_getElem (by simp) λk a b=>?_
 simp only [List.getElem_set,List.getElem_map,List.getElem_range]
 by_cases e:i=k
 ·rw [if_pos e,if_pos e.symm]
 ·rw [if_neg e,if_neg (λz=>e z.symm)]
theorem Qd {n r:Nat} {f g:Nat->Nat->Int} {row:List Int} (h1:row=(List.range n).map (g r)) (h2:∀ k,k≠r->g k=f k):(yX n f).set r row=yX n g:=by
 unfold yX
 refine List.ext_getElem (by simp) λk a b=>?_
 simp only [List.getElem_set,List.getElem_map,List.getElem_range]
 by_cases e:r=k
 ·rw [if_pos e,h1,e]
 ·rw [if_neg e,h2 k (λz=>e z.symm)]
theorem zGj {n:Nat} {f g:Nat->Nat->Int} (h:∀ r,r < n->f r=g r):yX n f=yX n g:=List.map_congr_left λr hr=>by rw [h r (List.mem_range.mp hr)]
theorem Wu {n i:Nat} {t:Nat->Nat->Int} (h:i < n):(yX n t).getD i []=(List.range n).map (t i):=by
 unfold yX
 rw [List.getD_eq_getElem?_getD,List.getElem?_map,List.getElem?_range h]
 rfl
def yy (r:Nat) (b b':Nat->Nat->Int) (k:Nat):Nat->Int:=if k < r then b' k else b k
abbrev vF (H:Hp) (a:Addr) (r:List Int):Prop:=H a=some (.lst (r.map V.int))
theorem zJ7 {M:List Addr} {H:Hp} {a:Addr} {o:HO} (h:a∈M):yT M (zW H a o)=yT M H:=funext λb=>by
 unfold yT
 by_cases e:b∈M
 ·rw [if_pos e,if_pos e]
 ·rw [if_neg e,if_neg e,zt (λz=>e (by rw [z]; exact h))]
theorem zGp {H:Hp} {a:Addr} {row:List Int}:∀ {as:List Addr} {tab:List (List Int)} {r:Nat},Paired (vF H) as tab->as[r]? = some a->as.Nodup->Paired (vF (zW H a (.lst (row.map V.int)))) as (tab.set r row)
 | _,_,_,.nil,e,_=>by simp at e
 | x :: as,_,0,.cons _ t,e,nd=>by
  have ex:x=a:=by simpa using e
  subst ex
  refine .cons xI (Paired.mapM t λy _ hy k=>?_)
  show zW H x _ y=_
  rw [zt (λz=>by rw [z] at hy; exact (List.nodup_cons.mp nd).1 hy)]
  exact k
 | x :: as,_,r + 1,.cons h t,e,nd=>by
  have e2:as[r]? = some a:=by simpa using e
  refine .cons ?_ (zGp t e2 (List.nodup_cons.mp nd).2)
  show zW H a _ x=_
  rw [zt (λz=>(List.nodup_cons.mp nd).1 (by rw [z]; exact List.mem_of_getElem? e2))]
  exact h
structure vK (Z:Addr->Prop) (H0 H:Hp) (ta ba:Addr) (as:List Addr) (n:Nat) (t b:Nat->Nat->Int):Prop where
 same:zD H0 (yT (ta :: as) H)
 hta:∃ tv,H ta=some (.lst tv)/\yj (zT Z (yT (ta :: as) H)) tv (yX n t)
 hba:yT (ta :: as) H ba=some (.lst (as.map V.ref))
 hb:Paired (vF H) as (yX n b)
 nd:(ta :: as).Nodup
theorem Qe {H H':Hp} {as:List Addr} {tab:List (List Int)} (s:zD H H') (h:Paired (vF H) as tab):Paired (vF H') as tab:=Paired.mapP h λ_ _ z=>s _ _ z
theorem vK.grow {Z:Addr->Prop} {H0 H H':Hp} {ta ba:Addr} {as:List Addr} {n:Nat} {t b:Nat->Nat->Int} (x:vK Z H0 H ta ba as n t b) (s:zD H H'):vK Z H0 H' ta ba as n t b:=
 ⟨x.same.trans (ZO s),let ⟨tv,h,k⟩:=x.hta; ⟨tv,s _ _ h,yj.same (yY (ZO s)) k⟩,ZO s _ _ x.hba,Qe s x.hb,x.nd⟩
theorem vK.in_ {Z:Addr->Prop} {H0 H:Hp} {ta ba:Addr} {as:List Addr} {n:Nat} {t b:Nat->Nat->Int} (x:vK Z H0 H ta ba as n t b):∀ a∈ta :: as,∃ o,H a=some o:=λa h=>by
 rcases List.mem_cons.mp h with rfl | h
 ·obtain ⟨tv,h,_⟩:=x.hta
  exact ⟨_,h⟩
 ·obtain ⟨i,hi,e⟩:=List.mem_iff_getElem.mp h
  obtain ⟨r,_,k⟩:=j7 x.hb (List.getElem?_eq_getElem hi)
  rw [e] at k
  exact ⟨_,k⟩
theorem vK.putT {Z:Addr->Prop} {H0 H:Hp} {ta ba:Addr} {as:List Addr} {n:Nat} {t t' b:Nat->Nat->Int} {tv:List V} (x:vK Z H0 H ta ba as n t b) (h:yj (zT Z (yT (ta :: as) H)) tv (yX n t')):vK Z H0 (zW H ta (.lst tv)) ta ba as n t' b:=by
 have e:yT (ta :: as) (zW H ta (.lst tv))=yT (ta :: as) H:=zJ7 (by simp)
 refine ⟨by rw [e]; exact x.same,⟨tv,xI,by rw [e]; exact h⟩,by rw [e]; exact x.hba,Paired.mapM x.hb λy _ hy k=>?_,x.nd⟩
 show zW H ta _ y=_
 rw [zt (λz=>(List.nodup_cons.mp x.nd).1 (by rw [<- z]; exact hy))]
 exact k
theorem vK.putB {Z:Addr->Prop} {H0 H:Hp} {ta ba a:Addr} {as:List Addr} {n r:Nat} {t b b':Nat->Nat->Int} {row:List Int} (x:vK Z H0 H ta ba as n t b) (ha:as[r]? = some a) (h1:row=(List.range n).map (b' r)) (h2:∀ k,k≠r->b' k=b k):vK Z H0 (zW H a (.lst (row.map V.int))) ta ba as n t b':=by
 have hm:=List.mem_of_getElem? ha
 have e:yT (ta :: as) (zW H a (.lst (row.map V.int)))=yT (ta :: as) H:=zJ7 (List.mem_cons_of_mem _ hm)
 refine ⟨by rw [e]; exact x.same,?_,by rw [e]; exact x.hba,?_,x.nd⟩
 ·obtain ⟨tv,h,k⟩:=x.hta
  exact ⟨tv,by rw [zt (λz=>(List.nodup_cons.mp x.nd).1 (by rw [z]; exact hm))]; exact h,by rw [e]; exact k⟩
 ·rw [<- Qd h1 h2]
  exact zGp x.hb ha (List.nodup_cons.mp x.nd).2
theorem zJk {H:Hp}:∀ {as:List Addr} {tab:List (List Int)},Paired (vF H) as tab->yj H (as.map V.ref) tab
 | _,_,.nil=>.nil
 | _,_,.cons h t=>.cons ⟨_,rfl,h⟩ (zJk t)
theorem zJW {f g:Nat->Int}:∀ l:List Nat,(l.map f).zip (l.map g)=l.map λc=>(f c,g c)
 | []=>rfl
 | a :: l=>by rw [List.map_cons,List.map_cons,List.zip_cons_cons,zJW l]; rfl
theorem Qf {H:Hp}:∀ {vs:List V} {tab:List (List Int)},yj H vs tab->yK H vs (tab.map L)
 | _,_,.nil=>.nil
 | _,_,.cons ⟨_,e,h⟩ t=>.cons (by rw [e]; exact .lst h zIc) (Qf t)
theorem zLW {n k:Nat} {t:Nat->Nat->Int} (h:∀ r c,r < n->c < n->Bd k (t r c)) (k20:k<=20):yx (yX n t):=λrow hr x hx=>by
 obtain ⟨r,hr2,rfl⟩:=List.mem_map.mp hr
 obtain ⟨c,hc,rfl⟩:=List.mem_map.mp hx
 exact (h r c (List.mem_range.mp hr2) (List.mem_range.mp hc)).mono k20
section
variable {P:Program} {w:World} {K:PySem.W.Frag} {mg:Str->Option Value} {base:Heap}
abbrev gw:Stmt:=zp 97
theorem ut:zh ["_law_many","_law_cell","_law_xs","_law_there","_law_back","_law_k","_law_i","_law_j","_law_c","_law_row"] ["_law_many","_law_cell"] (zK gw):=.a
variable {ag ah aClaim aSettles aComes aPaper aRooms aFalls:Addr} (aa:zE K mg "Mode" ag) (ab:wz K ag) (ac:zE K mg "Thing" ah) (ae:w4 K ah) (TClaim:zE K mg "Claim" aClaim) (AClaim:w6 K aClaim) (TSettles:zE K mg "Settles" aSettles) (ASettles:w8 K aSettles) (TComes:zE K mg "Comes" aComes) (AComes:vA K aComes) (TPaper:zE K mg "Paper" aPaper) (APaper:vB K aPaper) (TRooms:zE K mg "Rooms" aRooms) (ARooms:vC K aRooms) (TFalls:zE K mg "Falls" aFalls) (AFalls:vD K aFalls)
include aa ab ac ae TClaim AClaim TSettles ASettles TComes AComes TPaper APaper TRooms ARooms TFalls AFalls
theorem zIO {k:Nat} {f:Addr} {fd:FuncData} (F:zj K "_law_turning" "_law_turning" gw f fd) (B:Bl mg) (am:Fn P w K mg base "_law_stream" ["_law_cell","_law_many"] k (zJ (qj))) (ao:Fn P w K mg base "_law_number" ["_law_x","_law_far"] k (zJ (Yh))):zG P w K mg base zY (k + 1) f fd ["_law_many","_law_cell"] (zJ zKA):=by
 refine F.ok ut (JM λds R h=>by obtain ⟨n,c,rfl,_⟩:=h; rfl) (λcdv A outer s H vs Q E hr h=>?_)
 obtain ⟨Z,ds,R,zd,hv,⟨n,cc,rfl,n1,n3,q0⟩,q⟩:=h
 refine ⟨_,(uU (gA (i:=2) ut.nd rfl (Or.inl rfl) (UY am hr rfl (zi (L2.pv 1) (zi vx yE))))
  (uU (Ud (i:=3) ut.nd rfl rfl (own:=["_law_i"]) (caps:=[(0,"_law_many")]) (Qc (S:=zK gw) (N:=["_law_many","_law_cell","_law_xs","_law_there","_law_back","_law_k","_law_i","_law_j","_law_c","_law_row"]) ⟨_,rfl⟩) rfl (gB rfl B.range_ (zi (L2.pv 0) yE)) (λ_ _ _ _=>uD (i:=0) (show (["_law_i","_law_many"]:List Str).Nodup by decide +kernel) rfl (Or.inr rfl)) (λ_ _ _ _=>(ZC (own:=["_law_j"]) (caps:=[(0,"_law_i")]) (j6 rfl (by decide +kernel) (by decide +kernel) (by decide +kernel) (by decide +kernel)) rfl (gB rfl B.range_ (zi (L2.pv 1) yE)) (λ_ _ _ _=>uD (i:=0) (show (["_law_j","_law_i"]:List Str).Nodup by decide +kernel) rfl (Or.inl rfl)) (λ_ _ _ _=>(UN XG rfl B.int_ kz (zi (UH kU (L2.pv 1) (L2.pv 0) (vy _)) yE))))) rfl)
  (uU (Ud (i:=4) ut.nd rfl rfl (own:=["_law_i"]) (caps:=[(0,"_law_many")]) (Qc (S:=zK gw) (N:=["_law_many","_law_cell","_law_xs","_law_there","_law_back","_law_k","_law_i","_law_j","_law_c","_law_row"]) ⟨_,rfl⟩) rfl (gB rfl B.range_ (zi (L2.pv 0) yE)) (λ_ _ _ _=>uD (i:=0) (show (["_law_i","_law_many"]:List Str).Nodup by decide +kernel) rfl (Or.inr rfl)) (λ_ _ _ _=>(ZC (own:=["_law_j"]) (caps:=[(0,"_law_i")]) (j6 rfl (by decide +kernel) (by decide +kernel) (by decide +kernel) (by decide +kernel)) rfl (gB rfl B.range_ (zi (L2.pv 1) yE)) (λ_ _ _ _=>uD (i:=0) (show (["_law_j","_law_i"]:List Str).Nodup by decide +kernel) rfl (Or.inl rfl)) (λ_ _ _ _=>(UN XG rfl B.int_ kz (zi (UH kU (L2.pv 1) (L2.pv 0) (vy _)) yE))))) rfl)
  (uU (Y8 PassesOwn.never rfl (gB rfl B.range_ (zi (vH XB (uF uG (L2.pv 2) vx (λ_ _=>rfl)) vx) yE)) (uD (i:=5) ut.nd rfl (Or.inl rfl)) (uU (gA (i:=6) ut.nd rfl (Or.inl rfl) (vH XB (uF uG (L2.pv 2) (vH kS vx (vH gJ vx (L2.pv 5))) (λ_ _=>rfl)) (L2.pv 0)))
   (uU (gA (i:=7) ut.nd rfl (Or.inl rfl) (vH XB (uF uG (L2.pv 2) (vH kS vx (vH gJ vx (L2.pv 5))) (λ_ _=>rfl)) (L2.pv 0)))
   (uU (gA (i:=8) ut.nd rfl (Or.inr rfl) (UY ao hr rfl (zi (uF uG (L2.pv 2) (vH kS vx (vH gJ vx (L2.pv 5))) (λ_ _=>rfl)) (zi vx yE))))
   (jq (Q1 (KE kU (L2.pv 6) (L2.pv 7) (vy _)) (uU (kL (ZC (own:=["_law_x"]) (caps:=[]) (zP5 rfl) rfl (UE (uF uG (L2.pv 3) (L2.pv 6) (λ_ _=>rfl))) (λ_ _ _ _=>uD (i:=0) (show (["_law_x"]:List Str).Nodup by decide +kernel) rfl (Or.inl rfl)) (λ_ _ _ _=>(vH XA vx (L2.pv 0)))) (Y7 (L2.pv 3) (L2.pv 6) XM))
    (jq (Y8 PassesOwn.never rfl (UE (L2.pv 4)) (uD (i:=9) ut.nd rfl (Or.inl rfl)) (jq (kL (vH XA vx (uF uG (L2.pv 9) (L2.pv 6) (λ_ _=>rfl))) (Y7 (L2.pv 9) (L2.pv 6) XM)))))) (uU (kL (ZC (own:=["_law_x","_law_y"]) (caps:=[(8,"_law_c")]) (Qc (S:=zK gw) (N:=["_law_many","_law_cell","_law_xs","_law_there","_law_back","_law_k","_law_i","_law_j","_law_c","_law_row"]) ⟨_,rfl⟩) rfl (zPY rfl B.zip_ (zi (uF uG (L2.pv 3) (L2.pv 6) (λ_ _=>rfl)) (zi (uF uG (L2.pv 3) (L2.pv 7) (λ_ _=>rfl)) yE))) (λ_ _ _ _=>show PG _ _ (kK K 2 (W9 (jt 0) (W9 (jt 1) kJ))) from Q3 (n:=2) rfl (UA (uD (i:=0) (show (["_law_x","_law_y","_law_c"]:List Str).Nodup by decide +kernel) rfl (Or.inl rfl)) (UA (uD (i:=1) (show (["_law_x","_law_y","_law_c"]:List Str).Nodup by decide +kernel) rfl (Or.inl rfl)) Q2))) (λ_ _ _ _=>(vH kS (L2.pv 0) (vH gJ (L2.pv 2) (L2.pv 1))))) (Y7 (L2.pv 3) (L2.pv 6) XM))
    (jq (Y8 PassesOwn.never rfl (UE (L2.pv 4)) (uD (i:=9) ut.nd rfl (Or.inl rfl)) (jq (kL (vH XA (uF uG (L2.pv 9) (L2.pv 7) (λ_ _=>rfl)) (vH gJ (L2.pv 8) (uF uG (L2.pv 9) (L2.pv 6) (λ_ _=>rfl)))) (Y7 (L2.pv 9) (L2.pv 7) XM))))))))))))
  (jq (Q0 (KJ (zi (L2.pv 3) (zi (L2.pv 4) yE))))))))),?_⟩
 obtain ⟨v1,v2,rfl,h1,h2⟩:=uc hv
 cases h1
 cases h2
 refine ⟨_,rfl,Z,[.int cc,.int 12],λd=>∃ xs,d=L xs/\xs.length=12/\Wb xs,zd,.cons (.int _) (.cons (.int _) .nil),⟨cc,12,rfl,by decide,λxs l h=>⟨xs,rfl,l,h⟩⟩,?_⟩
 rintro d v J0 ⟨xs,rfl,l12,hx⟩ sJ hvx
 obtain ⟨xa,xv,rfl,exa0,hxv⟩:=hvx.lst_inv
 have ev:=Xh hxv
 subst ev
 have exa:=yC _ _ exa0
 have zdJ:=zd.same sJ
 refine ⟨_,rfl,_,rfl,(by omega),(by omega),XR (lo:=0) (n:=((n:Nat):Int).toNat)
  (λi ys σ H'=>yj (zT Z H') ys ((List.range i).map λr=>(List.range n).map ((λr k=>if r=k then (1:Int) else 0) r))/\(∃ o,σ=[o,some (.int (n:Int))])/\zD J0 H')
  ⟨.nil,⟨none,rfl⟩,zD.refl _⟩ (λi ys σ H' hh=>by have:=Paired.length hh.1; rw [List.length_map,List.length_range] at this; omega) (Nat.le_of_lt (uj (by omega))) ?_ ?_⟩
 ·rintro i ys σ H' hi ⟨hz,⟨o1,rfl⟩,sm⟩
  refine ⟨_,rfl,_,rfl,(by omega),(by omega),XR (lo:=0) (n:=((n:Nat):Int).toNat)
   (λj zs σ H2=>zs=((List.range j).map λk=>if i=k then (1:Int) else 0).map V.int/\(∃ o,σ=[o,some (.int (0 + (i:Int)))])/\H2=H')
   ⟨rfl,⟨none,rfl⟩,rfl⟩ (λj zs σ H2 ⟨e1,_⟩=>by rw [e1,List.length_map,List.length_map,List.length_range]; omega) (Nat.le_of_lt (uj (by omega))) ?_ ?_⟩
  ·rintro j zs σ H2 hj ⟨rfl,⟨o2,rfl⟩,rfl⟩
   refine ⟨_,rfl,_,rfl,rfl,.inr ⟨_,rfl,?_,⟨_,rfl⟩,rfl⟩⟩
   rw [List.range_succ,List.map_append,List.map_append,zOv]
   rfl
  rintro zs σ H2 ⟨rfl,⟨o2,rfl⟩,hZ⟩ c hc
  rw [hZ] at hc |-
  clear hZ
  rw [Int.toNat_natCast]
  have zc:=xA hc (HO.lst (((List.range n).map λk=>if i=k then (1:Int) else 0).map V.int))
  refine ⟨?_,⟨_,rfl⟩,sm.trans zc⟩
  rw [List.range_succ,List.map_append]
  exact uy (R:=vV _) ⟨c,rfl,(xy ((zdJ.same sm).new hc)).trans xI⟩ (yj.same (yY zc) hz)
 rintro tv σ J1 ⟨htv1,⟨o1,rfl⟩,y1⟩ ta hta
 rw [Int.toNat_natCast] at htv1
 have nzt:=(zdJ.same y1).new hta
 have yG2:=xA hta (HO.lst tv)
 have eta:=xI (H:=J1) (a:=ta) (o:=HO.lst tv)
 generalize hhG2:zW J1 ta (HO.lst tv)=G2 at yG2 eta |-
 have eta2:=eta
 have SG2:=y1.trans yG2
 refine ⟨_,rfl,_,rfl,(by omega),(by omega),XR (lo:=0) (n:=((n:Nat):Int).toNat)
  (λi ys σ H'=>(∃ as:List Addr,Paired (vF H') as ((List.range i).map λr=>(List.range n).map ((λr k=>if r=k then (1:Int) else 0) r))/\ys=as.map V.ref/\as.Nodup/\∀ a∈as,G2 a=none)/\(∃ o,σ=[o,some (.int (n:Int))])/\zD G2 H')
  ⟨⟨[],.nil,rfl,List.nodup_nil,λ_ h=>nomatch h⟩,⟨none,rfl⟩,zD.refl _⟩ (λi ys σ H' hh=>by obtain ⟨⟨as,h1,e1,_⟩,_⟩:=hh; have:=Paired.length h1; rw [List.length_map,List.length_range] at this; rw [e1,List.length_map]; omega) (Nat.le_of_lt (uj (by omega))) ?_ ?_⟩
 ·rintro i ys σ H' hi ⟨hz,⟨o1,rfl⟩,sm⟩
  refine ⟨_,rfl,_,rfl,(by omega),(by omega),XR (lo:=0) (n:=((n:Nat):Int).toNat)
   (λj zs σ H2=>zs=((List.range j).map λk=>if i=k then (1:Int) else 0).map V.int/\(∃ o,σ=[o,some (.int (0 + (i:Int)))])/\H2=H')
   ⟨rfl,⟨none,rfl⟩,rfl⟩ (λj zs σ H2 ⟨e1,_⟩=>by rw [e1,List.length_map,List.length_map,List.length_range]; omega) (Nat.le_of_lt (uj (by omega))) ?_ ?_⟩
  ·rintro j zs σ H2 hj ⟨rfl,⟨o2,rfl⟩,rfl⟩
   refine ⟨_,rfl,_,rfl,rfl,.inr ⟨_,rfl,?_,⟨_,rfl⟩,rfl⟩⟩
   rw [List.range_succ,List.map_append,List.map_append,zOv]
   rfl
  rintro zs σ H2 ⟨rfl,⟨o2,rfl⟩,hZ⟩ c hc
  rw [hZ] at hc |-
  clear hZ
  rw [Int.toNat_natCast]
  have zc:=xA hc (HO.lst (((List.range n).map λk=>if i=k then (1:Int) else 0).map V.int))
  obtain ⟨as,hz,rfl,nd,fr⟩:=hz
  refine ⟨⟨as++[c],?_,?_,?_,?_⟩,⟨_,rfl⟩,sm.trans zc⟩
  ·rw [List.range_succ,List.map_append]
   exact uy (R:=vF _) xI (Qe zc hz)
  ·rw [List.map_append]
   rfl
  ·refine List.nodup_append.mpr ⟨nd,by simp,λx hx y hy z=>?_⟩
   rw [List.mem_singleton.mp hy] at z
   obtain ⟨k,hk,e⟩:=List.mem_iff_getElem.mp hx
   obtain ⟨r,_,q⟩:=j7 hz (List.getElem?_eq_getElem hk)
   rw [e,z] at q
   have q2:H' c=some (.lst (r.map V.int)):=q
   rw [hc] at q2
   cases q2
  ·intro a ha
   rcases List.mem_append.mp ha with ha | ha
   ·exact fr a ha
   ·rw [List.mem_singleton.mp ha]
    exact sm.free hc
 rintro bv σ J3 ⟨⟨as,has,rfl,nd,fr⟩,⟨o1,rfl⟩,y3⟩ ba hba
 rw [Int.toNat_natCast] at has
 have SG3:=SG2.trans y3
 replace eta:=(y3 _ _ eta)
 have nzb:=(zdJ.same SG3).new hba
 have nza:∀ a∈as,¬ Z a:=λa h=>(zdJ.same SG2).new (fr a h)
 have y4:=xA hba (HO.lst (as.map V.ref))
 have eba:=xI (H:=J3) (a:=ba) (o:=HO.lst (as.map V.ref))
 generalize hhJ4:zW J3 ba (HO.lst (as.map V.ref))=J4 at y4 eba |-
 have nba:ba∉ta :: as:=λz=>by
  rcases List.mem_cons.mp z with z | z
  ·rw [z,eta] at hba; cases hba
  ·obtain ⟨k,hk,e⟩:=List.mem_iff_getElem.mp z
   obtain ⟨r,_,q⟩:=j7 has (List.getElem?_eq_getElem hk)
   rw [e] at q
   have q:J3 ba=_:=q
   rw [hba] at q
   cases q
 have nta:ta∉as:=λz=>by
  have:=fr ta z
  rw [eta2] at this
  cases this
 have TS0:vK Z J0 J4 ta ba as n (λr k=>if r=k then (1:Int) else 0) (λr k=>if r=k then (1:Int) else 0):=by
  refine ⟨λx o e=>?_,⟨tv,y4 _ _ eta,?_⟩,(gN nba).trans eba,Qe y4 has,List.nodup_cons.mpr ⟨nta,nd⟩⟩
  ·rw [gN (λz=>by
    rcases List.mem_cons.mp z with z | z
    ·have:=y1 _ _ e
     rw [z,hta] at this
     cases this
    ·have:=fr x z
     rw [SG2 _ _ e] at this
     cases this)]
   exact y4 _ _ (SG3 _ _ e)
  ·refine Paired.mapP htv1 λv r ⟨a,e1,e2⟩=>⟨a,e1,?_⟩
   obtain ⟨za,e2⟩:=qE e2
   have n1:a≠ta:=λz=>by rw [z,hta] at e2; cases e2
   rw [xy za,gN (λz=>by
    rcases List.mem_cons.mp z with z | z
    ·exact n1 z
    ·have:=fr a z
     rw [yG2 _ _ e2] at this
     cases this)]
   exact y4 _ _ (y3 _ _ (yG2 _ _ e2))
 have x4:∀ {H':Hp} {t b:Nat->Nat->Int},vK Z J0 H' ta ba as n t b->H' xa=some (.lst (xs.map V.int)):=λx=>uJ _ _ (x.same _ _ exa)
 have ax:∀ j:Nat,j < 12->∃ z,yL (xs.map V.int) (j:Int)=some (.int z):=λj hj=>⟨_,Y1 (by omega)⟩
 obtain ⟨z0,a0⟩:=ax 0 (by omega)
 have m0:=Int.fmod_nonneg_of_pos z0 (show (0:Int) < 4 by decide)
 have m1:=Int.fmod_lt_of_pos z0 (show (0:Int) < 4 by decide)
 refine ⟨_,rfl,xa,_,_,_,rfl,rfl,zR.of (x4 TS0),a0,_,_,rfl,rfl,(show (4:Int)≠0 by decide),_,rfl,?_⟩
 generalize z0.fmod 4=m at m0 m1 |-
 refine ⟨(by omega),(by omega),zMb (lo:=0) (n:=m.toNat)
  (λk σ H'=>∃ (t b:Nat->Nat->Int) (o5 o6 o7 o8 o9:Option V),σ=[some (.int (n:Int)),some (.int cc),some (.ref xa),some (.ref ta),some (.ref ba),o5,o6,o7,o8,o9]/\vK Z J0 H' ta ba as n t b/\uL n t b/\uL n b t/\∀ r c,r < n->c < n->Bd (1 + 4 * k) (t r c)/\Bd (1 + 4 * k) (b r c))
  ⟨_,_,none,none,none,none,none,rfl,TS0,zJ5 n,zJ5 n,λr c _ _=>?b0⟩ ?_ ?_⟩
 case b0=>
  have:Bd 1 (if r=c then (1:Int) else 0):=by
   by_cases e:r=c
   ·rw [if_pos e]; exact Bd.lit
   ·rw [if_neg e]; exact Bd.lit
  exact ⟨this,this⟩
 ·rintro k σ H1 hkm ⟨t,b,o5,o6,o7,o8,o9,rfl,TS,I1,I2,BD⟩
  have k3:k < 3:=by omega
  have nz:(n:Int)≠0:=by omega
  have bk:Bd 10 (0 + (k:Int)):=by
   show (0 + (k:Int)).natAbs < 2 ^ 10
   omega
  have b3:Bd 10 (3:Int):=Bd.lit
  have e1:=x4 TS
  obtain ⟨z1,a1⟩:=ax (1 + 3 * k) (by omega)
  obtain ⟨z2,a2⟩:=ax (2 + 3 * k) (by omega)
  obtain ⟨z3,a3⟩:=ax (3 + 3 * k) (by omega)
  rw [show ((1 + 3 * k:Nat):Int)=1 + 3 * (0 + (k:Int)) by omega] at a1
  rw [show ((2 + 3 * k:Nat):Int)=2 + 3 * (0 + (k:Int)) by omega] at a2
  rw [show ((3 + 3 * k:Nat):Int)=3 + 3 * (0 + (k:Int)) by omega] at a3
  have i0:=Int.fmod_nonneg_of_pos z1 (show (0:Int) < (n:Int) by omega)
  have i1:=Int.fmod_lt_of_pos z1 (show (0:Int) < (n:Int) by omega)
  have j0:=Int.fmod_nonneg_of_pos z2 (show (0:Int) < (n:Int) by omega)
  have j1:=Int.fmod_lt_of_pos z2 (show (0:Int) < (n:Int) by omega)
  refine ⟨_,rfl,_,rfl,_,_,rfl,rfl,⟨b3.mono,bk.mono⟩,_,_,rfl,rfl,xa,_,_,_,rfl,rfl,zR.of e1,a1,_,rfl,_,_,rfl,rfl,nz,?_⟩
  dsimp only
  generalize z1.fmod (n:Int)=iv at i0 i1 |-
  refine ⟨_,rfl,_,rfl,_,_,rfl,rfl,⟨b3.mono,bk.mono⟩,_,_,rfl,rfl,xa,_,_,_,rfl,rfl,zR.of e1,a2,_,rfl,_,_,rfl,rfl,nz,?_⟩
  dsimp only
  generalize z2.fmod (n:Int)=jv at j0 j1 |-
  refine ⟨_,rfl,_,rfl,_,_,rfl,rfl,⟨b3.mono,bk.mono⟩,_,_,rfl,rfl,xa,_,_,_,rfl,rfl,zR.of e1,a3,Z,[.int z3,.int 2],λd=>∃ y:Int,d=.int y/\-2<=y/\y<=2,zdJ.same (TS.same.trans uJ),.cons (.int _) (.cons (.int _) .nil),⟨z3,2,rfl,by decide,(Bd.lit (i:=2) (n:=2)).mono,λy h1 h2=>⟨y,rfl,h1,h2⟩⟩,?_⟩
  rintro d v H1' ⟨by',rfl,c0,c1⟩ sc hd
  cases hd
  replace TS:=TS.grow sc
  clear sc e1
  have zd1:=zdJ.same (TS.same.trans uJ)
  have bby:Bd 2 by':=by
   show by'.natAbs < 2 ^ 2
   omega
  obtain ⟨i,rfl⟩:=Int.eq_ofNat_of_zero_le i0
  obtain ⟨j,rfl⟩:=Int.eq_ofNat_of_zero_le j0
  have hi:i < n:=by omega
  have hj:j < n:=by omega
  obtain ⟨tv1,et1,ht1⟩:=TS.hta
  have ltv1:tv1.length=n:=(Paired.length ht1).trans (gP _ _)
  have las:as.length=n:=(Paired.length TS.hb).trans (gP _ _)
  obtain ⟨ri,ai,eri,_⟩:=zOg (i:=i) ht1 (by rw [gP]; exact hi)
  obtain ⟨rj,aj,erj,_⟩:=zOg (i:=j) ht1 (by rw [gP]; exact hj)
  rw [Wu hi] at eri
  rw [Wu hj] at erj
  have eri':=uJ _ _ (yC _ _ eri)
  have erj':=uJ _ _ (yC _ _ erj)
  refine ⟨_,rfl,_,rfl,rfl,_,rfl,?_⟩
  by_cases ce:(i:Int)=(j:Int)
  ·refine k6 (zP1 ce) ?_
   refine ⟨_,rfl,_,rfl,ta,_,_,_,rfl,rfl,zR.of et1,ai,ri,rfl,⟨_,zR.of eri'⟩,zMu (K:=K) (a:=ri) (xs:=((List.range n).map (t i)).map V.int) (λk ys σ H'=>ys=((((List.range n).map (t i)).take k).map λx=>0 - x).map V.int/\(∃ o,σ=[o])/\H'=H1')
    ⟨rfl,⟨none,rfl⟩,rfl⟩ (λk ys σ H' hk ⟨e1,_,e3⟩=>⟨by rw [e3]; exact zR.of eri',by rw [e1,List.length_map,List.length_map,List.length_take]; exact Nat.min_le_left _ _⟩) (by rw [List.length_map,List.length_map,List.length_range]; exact Nat.le_of_lt (uj (by omega))) ?_ ?_⟩
   ·rintro k2 x ys σ H' hk ⟨rfl,⟨o1,rfl⟩,rfl⟩
    obtain ⟨x0,hx0,rfl⟩:=Uf hk
    refine ⟨_,rfl,_,_,rfl,rfl,?_,⟨_,rfl⟩,rfl⟩
    rw [uz hx0,List.map_append,List.map_append]
    rfl
   rintro ys σ H3 ⟨rfl,⟨o1,rfl⟩,hZ⟩ nl hnl
   subst hZ
   rw [show ((((List.range n).map (t i)).take (((List.range n).map (t i)).map V.int).length).map λx=>0 - x).map V.int=((List.range n).map (yk i t i)).map V.int from (by rw [List.length_map,List.take_length]; refine congrArg (List.map V.int) ?_; rw [List.map_map]; refine qC λc _=>?_; show 0 - t i c=yk i t i c; unfold yk; rw [if_pos rfl])]
   have nzl:=(zd1.same (zD.refl _)).new hnl
   have zn:=xA hnl (HO.lst (((List.range n).map (yk i t i)).map V.int))
   have TS1:=TS.grow (zn)
   have enl:=xI (H:=H3) (a:=nl) (o:=HO.lst (((List.range n).map (yk i t i)).map V.int))
   have eta1:=zn _ _ ((zD.refl _) _ _ et1)
   have ht2:=yj.same (yY (Z:=Z) (ZO (B:=ta :: as) (zn))) ht1
   have nnl:nl∉ta :: as:=λw=>by
    obtain ⟨o,e⟩:=TS.in_ nl w
    rw [(zD.refl _) _ _ e] at hnl
    cases hnl
   generalize hhN:zW H3 nl (HO.lst (((List.range n).map (yk i t i)).map V.int))=N at zn TS1 enl eta1 ht2 |-
   refine ⟨_,rfl,_,rfl,ta,_,_,i,rfl,rfl,eta1,XY (by omega),?_⟩
   have TS2:=TS1.putT (t':=yk i t) (tv:=tv1.set i (.ref nl)) (by
    rw [<- Qd (f:=t) (g:=yk i t) (r:=i) rfl (λk hk=>funext λc=>by unfold yk; rw [if_neg hk])]
    exact Ue (R:=vV _) ⟨nl,rfl,(xy nzl).trans ((gN nnl).trans enl)⟩ i ht2)
   generalize hhN2:zW N ta (HO.lst (tv1.set i (V.ref nl)))=N2 at TS2 |-
   refine ⟨_,rfl,ba,rfl,⟨_,zR.of (uJ _ _ TS2.hba)⟩,Q6 (K:=K) (a:=ba) (xs:=as.map V.ref)
    (λr σ H'=>∃ o9:Option V,σ=[some (.int (n:Int)),some (.int cc),some (.ref xa),some (.ref ta),some (.ref ba),some (.int (0 + (k:Int))),some (.int (i:Int)),some (.int (j:Int)),some (.int by'),o9]/\vK Z J0 H' ta ba as n (yk i t) (yy r b (ym i b)))
    ⟨o9,rfl,by
     rw [show yy 0 b (ym i b)=b from funext λk=>if_neg (by omega)]
     exact TS2⟩ (λr σ H' _ ⟨_,_,x⟩=>zR.of (uJ _ _ x.hba)) ?_ ?_⟩
   ·rintro r x σ H4 hrx ⟨o9,rfl,gG⟩
    rw [List.getElem?_map] at hrx
    cases hr:as[r]? with
    | none=>rw [hr] at hrx; cases hrx
    | some ra=>
     rw [hr] at hrx
     cases hrx
     have rn:r < n:=by
      have:=(List.getElem?_eq_some_iff.mp hr).1
      omega
     obtain ⟨row,hrow,era⟩:=j7 gG.hb hr
     have erow:row=(List.range n).map (b r):=by
      have e:=Wu (t:=yy r b (ym i b)) rn
      rw [List.getD_eq_getElem?_getD,hrow] at e
      rw [show yy r b (ym i b) r=b r from if_neg (by omega)] at e
      exact e
     subst erow
     have era:H4 ra=some (.lst (((List.range n).map (b r)).map V.int)):=era
     have ari:yL (((List.range n).map (b r)).map V.int) (i:Int)=some (.int (b r i)):=by
      rw [Y1 (by rw [List.length_map,List.length_range]; exact hi),jb hi]
     have arj:yL (((List.range n).map (b r)).map V.int) (j:Int)=some (.int (b r j)):=by
      rw [Y1 (by rw [List.length_map,List.length_range]; exact hj),jb hj]
     refine ⟨_,rfl,_,rfl,ra,_,_,_,rfl,rfl,zR.of era,ari,_,_,rfl,rfl,?_⟩
     refine ⟨_,rfl,_,rfl,ra,_,_,i,rfl,rfl,era,XY (by rw [List.length_map,List.length_map,List.length_range]; exact hi),?_⟩
     refine ⟨some (.ref ra),rfl,?_⟩
     rw [show (((List.range n).map (b r)).map V.int).set i (V.int (0 - b r i))=(((List.range n).map (ym i b r))).map V.int from by
      rw [<- List.map_set,zIC]
      rfl]
     refine gG.putB hr (b':=yy (r + 1) b (ym i b)) ?_ (λk hk=>?_)
     ·rw [show yy (r + 1) b (ym i b) r=ym i b r from if_pos (by omega)]
     ·unfold yy
      by_cases e:k < r
      ·rw [if_pos e,if_pos (by omega)]
      ·rw [if_neg e,if_neg (by omega)]
   rintro σ H5 ⟨o9,rfl,TS5⟩
   refine ⟨_,_,_,_,_,_,_,rfl,⟨TS5.same,TS5.hta,TS5.hba,?_,TS5.nd⟩,zPq I1 hi,zOE I2,λr c hr hc=>?_⟩
   ·rw [<- zGj (f:=yy (as.map V.ref).length b (ym i b)) (g:=ym i b) (λr hr=>if_pos (by rw [List.length_map]; omega))]
    exact TS5.hb
   obtain ⟨p1,p2⟩:=BD r c hr hc
   obtain ⟨q1,_⟩:=BD i c hi hc
   obtain ⟨_,q2⟩:=BD r i hr hi
   constructor
   ·unfold yk
    by_cases e:r=i
    ·rw [if_pos e,Int.zero_sub]; exact q1.neg.mono (by omega)
    ·rw [if_neg e]; exact p1.mono (by omega)
   ·unfold ym
    by_cases e:c=i
    ·rw [if_pos e,Int.zero_sub]; exact q2.neg.mono (by omega)
    ·rw [if_neg e]; exact p2.mono (by omega)
  have ne:i≠j:=λe=>ce (by rw [e])
  refine k7 (zRi ce) ?_
  have bi:∀ x∈(List.range n).map (t j),Bd 40 x:=λx hx=>by
   obtain ⟨c,hc,rfl⟩:=List.mem_map.mp hx
   exact (BD j c hj (List.mem_range.mp hc)).1.mono (by omega)
  refine ⟨_,rfl,_,rfl,ta,_,_,_,rfl,rfl,zR.of et1,ai,_,rfl,_,rfl,ta,_,_,_,rfl,rfl,zR.of et1,aj,ri,rj,rfl,⟨_,zR.of eri'⟩,⟨_,zR.of erj'⟩,zMt (K:=K) (a:=ri) (b:=rj) (xs:=((List.range n).map (t i)).map V.int) (ys:=((List.range n).map (t j)).map V.int)
   (λk zs σ H'=>zs=(((((List.range n).map (t i)).zip ((List.range n).map (t j))).take k).map λq=>q.1 + by' * q.2).map V.int/\(∃ o1 o2,σ=[o1,o2,some (.int by')])/\zD H1' H')
   ⟨rfl,⟨none,none,rfl⟩,zD.refl _⟩ (λk zs σ H' hk ⟨e1,_,sm⟩=>⟨zR.of (sm _ _ eri'),zR.of (sm _ _ erj'),by rw [e1,List.length_map,List.length_map,List.length_take]; exact Nat.min_le_left _ _⟩) (by rw [List.length_map,List.length_map,List.length_map,List.length_map]; exact Nat.le_refl _) (by rw [List.length_map,List.length_map,List.length_range]; exact Nat.le_of_lt (uj (by omega))) ?_ ?_⟩
  ·rintro k2 x y TT zs σ H' hx hy hT ⟨rfl,⟨o1,o2,rfl⟩,sm⟩
   obtain ⟨x0,hx0,rfl⟩:=Uf hx
   obtain ⟨y0,hy0,rfl⟩:=Uf hy
   have s2:=sm.trans (xA hT (HO.tup [V.int x0,V.int y0]))
   refine ⟨TT,_,rfl,yS.of xI,rfl,_,_,rfl,_,_,rfl,rfl,?_⟩
   refine ⟨_,rfl,_,rfl,_,rfl,_,_,rfl,rfl,⟨bby.mono,(bi _ (List.mem_of_getElem? hy0)).mono⟩,_,_,rfl,rfl,?_,⟨_,_,rfl⟩,s2⟩
   have hz2:(((List.range n).map (t i)).zip ((List.range n).map (t j)))[k2]? = some (x0,y0):=by rw [List.getElem?_zip_eq_some]; exact ⟨hx0,hy0⟩
   rw [uz hz2,List.map_append,List.map_append]
   rfl
  rintro zs σ H3 ⟨rfl,⟨o1,o2,rfl⟩,smz⟩ nl hnl
  rw [show (((((List.range n).map (t i)).zip ((List.range n).map (t j))).take (((List.range n).map (t i)).map V.int).length).map λq=>q.1 + by' * q.2).map V.int=((List.range n).map (yr i j by' t i)).map V.int from (by refine congrArg (List.map V.int) ?_; rw [zJW,zNX (by rw [List.length_map,List.length_map,List.length_map]; exact Nat.le_refl _),List.map_map]; refine qC λc _=>?_; show t i c + by' * t j c=yr i j by' t i c; unfold yr; rw [if_pos rfl])]
  have nzl:=(zd1.same smz).new hnl
  have zn:=xA hnl (HO.lst (((List.range n).map (yr i j by' t i)).map V.int))
  have TS1:=TS.grow (smz.trans zn)
  have enl:=xI (H:=H3) (a:=nl) (o:=HO.lst (((List.range n).map (yr i j by' t i)).map V.int))
  have eta1:=zn _ _ (smz _ _ et1)
  have ht2:=yj.same (yY (Z:=Z) (ZO (B:=ta :: as) (smz.trans zn))) ht1
  have nnl:nl∉ta :: as:=λw=>by
   obtain ⟨o,e⟩:=TS.in_ nl w
   rw [smz _ _ e] at hnl
   cases hnl
  generalize hhN:zW H3 nl (HO.lst (((List.range n).map (yr i j by' t i)).map V.int))=N at zn TS1 enl eta1 ht2 |-
  refine ⟨_,rfl,_,rfl,ta,_,_,i,rfl,rfl,eta1,XY (by omega),?_⟩
  have TS2:=TS1.putT (t':=yr i j by' t) (tv:=tv1.set i (.ref nl)) (by
   rw [<- Qd (f:=t) (g:=yr i j by' t) (r:=i) rfl (λk hk=>funext λc=>by unfold yr; rw [if_neg hk])]
   exact Ue (R:=vV _) ⟨nl,rfl,(xy nzl).trans ((gN nnl).trans enl)⟩ i ht2)
  generalize hhN2:zW N ta (HO.lst (tv1.set i (V.ref nl)))=N2 at TS2 |-
  refine ⟨_,rfl,ba,rfl,⟨_,zR.of (uJ _ _ TS2.hba)⟩,Q6 (K:=K) (a:=ba) (xs:=as.map V.ref)
   (λr σ H'=>∃ o9:Option V,σ=[some (.int (n:Int)),some (.int cc),some (.ref xa),some (.ref ta),some (.ref ba),some (.int (0 + (k:Int))),some (.int (i:Int)),some (.int (j:Int)),some (.int by'),o9]/\vK Z J0 H' ta ba as n (yr i j by' t) (yy r b (yW i j by' b)))
   ⟨o9,rfl,by
    rw [show yy 0 b (yW i j by' b)=b from funext λk=>if_neg (by omega)]
    exact TS2⟩ (λr σ H' _ ⟨_,_,x⟩=>zR.of (uJ _ _ x.hba)) ?_ ?_⟩
  ·rintro r x σ H4 hrx ⟨o9,rfl,gG⟩
   rw [List.getElem?_map] at hrx
   cases hr:as[r]? with
   | none=>rw [hr] at hrx; cases hrx
   | some ra=>
    rw [hr] at hrx
    cases hrx
    have rn:r < n:=by
     have:=(List.getElem?_eq_some_iff.mp hr).1
     omega
    obtain ⟨row,hrow,era⟩:=j7 gG.hb hr
    have erow:row=(List.range n).map (b r):=by
     have e:=Wu (t:=yy r b (yW i j by' b)) rn
     rw [List.getD_eq_getElem?_getD,hrow] at e
     rw [show yy r b (yW i j by' b) r=b r from if_neg (by omega)] at e
     exact e
    subst erow
    have era:H4 ra=some (.lst (((List.range n).map (b r)).map V.int)):=era
    have ari:yL (((List.range n).map (b r)).map V.int) (i:Int)=some (.int (b r i)):=by
     rw [Y1 (by rw [List.length_map,List.length_range]; exact hi),jb hi]
    have arj:yL (((List.range n).map (b r)).map V.int) (j:Int)=some (.int (b r j)):=by
     rw [Y1 (by rw [List.length_map,List.length_range]; exact hj),jb hj]
    have bi:=(BD r i rn hi).2
    refine ⟨_,rfl,_,rfl,ra,_,_,_,rfl,rfl,zR.of era,arj,_,rfl,_,rfl,_,rfl,ra,_,_,_,rfl,rfl,zR.of era,ari,_,_,rfl,rfl,⟨bby.mono,bi.mono (by omega)⟩,_,_,rfl,rfl,?_⟩
    refine ⟨_,rfl,_,rfl,ra,_,_,j,rfl,rfl,era,XY (by rw [List.length_map,List.length_map,List.length_range]; exact hj),?_⟩
    refine ⟨some (.ref ra),rfl,?_⟩
    rw [show (((List.range n).map (b r)).map V.int).set j (V.int (b r j - by' * b r i))=(((List.range n).map (yW i j by' b r))).map V.int from by
     rw [<- List.map_set,zIC]
     rfl]
    refine gG.putB hr (b':=yy (r + 1) b (yW i j by' b)) ?_ (λk hk=>?_)
    ·rw [show yy (r + 1) b (yW i j by' b) r=yW i j by' b r from if_pos (by omega)]
    ·unfold yy
     by_cases e:k < r
     ·rw [if_pos e,if_pos (by omega)]
     ·rw [if_neg e,if_neg (by omega)]
  rintro σ H5 ⟨o9,rfl,TS5⟩
  refine ⟨_,_,_,_,_,_,_,rfl,⟨TS5.same,TS5.hta,TS5.hba,?_,TS5.nd⟩,zPr I1 hi hj ne,zOF I2 hi hj ne,λr c hr hc=>?_⟩
  ·rw [<- zGj (f:=yy (as.map V.ref).length b (yW i j by' b)) (g:=yW i j by' b) (λr hr=>if_pos (by rw [List.length_map]; omega))]
   exact TS5.hb
  obtain ⟨p1,p2⟩:=BD r c hr hc
  obtain ⟨q1,_⟩:=BD i c hi hc
  obtain ⟨q3,_⟩:=BD j c hj hc
  obtain ⟨_,q2⟩:=BD r j hr hj
  obtain ⟨_,q4⟩:=BD r i hr hi
  constructor
  ·unfold yr
   by_cases e:r=i
   ·rw [if_pos e]; exact ((q1.mono (show _<=2 + (1 + 4 * k) by omega)).add (bby.mul q3)).mono (by omega)
   ·rw [if_neg e]; exact p1.mono (by omega)
  ·unfold yW
   by_cases e:c=j
   ·rw [if_pos e]; exact ((q2.mono (show _<=2 + (1 + 4 * k) by omega)).sub (bby.mul q4)).mono (by omega)
   ·rw [if_neg e]; exact p2.mono (by omega)
 rintro σ H9 ⟨t,b,o5,o6,o7,o8,o9,rfl,TS,I1,I2,BD⟩
 obtain ⟨tv9,et9,ht9⟩:=TS.hta
 refine ⟨_,rfl,_,rfl,(by show 2<=sizeLine; decide),λtt htt=>?_⟩
 have z9:=xA htt (HO.tup [V.ref ta,V.ref ba])
 have bt9:yj (zT Z H9) (as.map V.ref) (yX n b):=zJk (Paired.mapM TS.hb λa _ ha h=>(xy (nza a ha)).trans h)
 have SH:=sJ.trans (TS.same.trans uJ)
 have nzz:=(zd.same SH).new htt
 refine q _ _ _ (q0 (yX n t) (yX n b) ⟨gP _ _,λr hr=>zJc hr,gP _ _,λr hr=>zJc hr,zJ6 I1,zJ6 I2⟩ (zLW (λr c hr hc=>(BD r c hr hc).1) (by omega)) (zLW (λr c hr hc=>(BD r c hr hc).2) (by omega))) (SH.trans z9) ?_
 exact .tup ((xy nzz).trans xI) (.cons (.lst ((xy nzt).trans (z9 _ _ et9)) (Qf (yj.same (((yY uJ)).trans (yY z9)) ht9))) (.cons (.lst ((xy nzb).trans (z9 _ _ (uJ _ _ TS.hba))) (Qf (yj.same (yY z9) bt9))) .nil))
end
theorem uq.mono {e f:Nat} {m:MD} (h:uq e m) (k:e<=f:=by decide):uq f m:=⟨λr hr x hx=>(h.nexts r hr x hx).mono k,λx hx=>(h.steer x hx).mono k,λr hr x hx=>(h.push r hr x hx).mono k,λx hx=>(h.add x hx).mono k,h.div.mono k,λr hr x hx=>(h.rows r hr x hx).mono k,h.few⟩
theorem zPI {n:Nat} {T B:List (List Int)} (h:TB n T B):TB n B T:=⟨h.bl,h.br,h.tl,h.tr,h.bt,h.tb⟩
theorem zNi {n:Nat} {T B:List (List Int)} (h:TB n T B) {r:List Int} (l:r.length=n + 1):zb n T (zb n B r)=r:=by
 have e1:=zH6 (n:=n) (B:=B) (r:=r)
 have e2:(zb n B r).drop n=r.drop n:=by
  unfold zb
  rw [List.drop_append_of_le_length (by rw [List.length_map,List.length_range]; exact Nat.le_refl _),List.drop_of_length_le (by rw [List.length_map,List.length_range]; exact Nat.le_refl _),List.nil_append]
 have e3:zb n T (zb n B r)=fB n T ((zb n B r).take n)++(zb n B r).drop n:=rfl
 rw [e3,e1,e2,Ur h (by rw [List.length_take]; omega),List.take_append_drop]
theorem zPF {n w:Nat} {T B:List (List Int)} {m:MD} (h:TB n T B) (o:xH m n w):vd n w B T (vd n w T B m)=m:=by
 have r1:(m.rows.map (zb n B)).map (zb n T)=m.rows:=by
  rw [List.map_map]
  exact (List.map_congr_left λr hr=>zNi h (o.rows r hr)).trans (List.map_id _)
 have n1:yJ (yJ B (yJ (yJ T m.nexts n) B n) n) T n=m.nexts:=by
  rw [<- qD (k:=n) (X:=B) (A:=yJ T m.nexts n) (B:=B) jk,qD (k:=n) h.br,h.bt,zKl jk,<- qD (k:=n) (X:=B) (A:=T) (B:=m.nexts) h.tr,h.bt,Xb o.nexts.1 o.nexts.2]
 have s1:B.map (λq=>zN q (T.map λq=>zN q m.steer))=m.steer:=Uo h.tr h.bt o.steer
 have p1:yJ B (yJ T m.push w) w=m.push:=by
  rw [<- qD (k:=n) h.tr,h.bt,Xb o.push.1 o.push.2]
 have a1:B.map (λq=>zN q (T.map λq=>zN q m.add))=m.add:=Uo h.tr h.bt o.add
 unfold vd
 show (⟨_,_,_,_,_,_⟩:MD)=m
 rw [r1,n1,s1,p1,a1]
theorem zRQ {α β:Type} {f:α->β} {l:List α} {a:α} {b:β} (e:f a=b) (i:Nat):(l.map f).getD i b=f (l.getD i a):=by
 rw [List.getD_eq_getElem?_getD,List.getElem?_map,List.getD_eq_getElem?_getD]
 cases l[i]? with
 | none=>exact e.symm
 | some x=>rfl
theorem zO6 {α:Type} {l:List α} {f g:α->Bool} (h:∀ x∈l,f x=g x):l.all f=l.all g:=by
 induction l with
 | nil=>rfl
 | cons x l ih=>rw [List.all_cons,List.all_cons,h x List.mem_cons_self,ih λy hy=>h y (List.mem_cons_of_mem _ hy)]
theorem zOY {α β γ:Type} {f:α->β}:∀ (xs ys:List α) (as:List γ),(xs.map f).zip ((ys.map f).zip as)=(xs.zip (ys.zip as)).map λp=>(f p.1,f p.2.1,p.2.2)
 | [],_,_=>rfl
 | _ :: _,[],_=>rfl
 | _ :: _,_ :: _,[]=>rfl
 | x :: xs,y :: ys,a :: as=>by
  show (f x,f y,a) :: (xs.map f).zip ((ys.map f).zip as)=_
  rw [zOY xs ys as]
  rfl
theorem zOZ {α β γ:Type} {f:α->β}:∀ (xs:List α) (as:List γ),(xs.map f).zip as=(xs.zip as).map λp=>(f p.1,p.2)
 | [],_=>rfl
 | _ :: _,[]=>rfl
 | x :: xs,a :: as=>by
  show (f x,a) :: (xs.map f).zip as=_
  rw [zOZ xs as]
  rfl
theorem zMT {n:Nat} {bs:List (Int × Int)} {ms ms':List MD} {T B:List (List Int)} {s g:List (List Int)} {t:Int} {rooms:List (List (List Int))} {BK A1 A2 A3:D} (h:TB n T B) (tm:J9 n bs.length T B ms ms') (hs:∀ r∈s,r.length=n + 1) (hg:∀ r∈g,r.length=n + 1) (hr:∀ rm∈rooms,∀ r∈rm,r.length=n + 1):uA n bs ms' (s.map (zb n B)) (g.map (zb n B)) t (rooms.map λrm=>rm.map (zb n B)) BK A1 A2 A3=uA n bs ms s g t rooms BK A1 A2 A3:=by
 cases BK with
 | int b=>
  show (if b < 0\/(((rooms.map λrm=>rm.map (zb n B)).length:Nat):Int)<=b then false else _)=(if b < 0\/(rooms.length:Int)<=b then false else _)
  rw [List.length_map]
  by_cases c:b < 0\/(rooms.length:Int)<=b
  ·rw [if_pos c,if_pos c]
  rw [if_neg c,if_neg c]
  have gd:∀ i,(rooms.map λrm=>rm.map (zb n B)).getD i []=(rooms.getD i []).map (zb n B):=λi=>zRQ (f:=λrm:List (List Int)=>rm.map (zb n B)) (a:=[]) rfl i
  have hi:∀ i,i < rooms.length->∀ r∈rooms.getD i [],r.length=n + 1:=λi h=>hr _ (Jx h)
  have e1:uf (s.map (zb n B)) ((rooms.map λrm=>rm.map (zb n B)).getD 0 []) n A1=uf s (rooms.getD 0 []) n A1:=by
   rw [gd]
   exact J8 (p:=0) h hs (hi 0 (by omega))
  have e2:gg n bs ms' (rooms.map λrm=>rm.map (zb n B)) b.toNat A2=gg n bs ms rooms b.toNat A2:=by
   cases A2 with
   | lst as=>
    show (decide _ && _)=(decide _ && _)
    rw [List.length_map,gd,<- List.map_drop,show ((rooms.drop 1).map (λrm=>rm.map (zb n B))++[(rooms.getD b.toNat []).map (zb n B)])=(rooms.drop 1++[rooms.getD b.toNat []]).map (λrm=>rm.map (zb n B)) by rw [List.map_append]; rfl,zOY,List.all_map]
    congr 1
    refine zO6 λp hp=>?_
    have h1:=(List.of_mem_zip hp).1
    have h2:=(List.of_mem_zip (List.of_mem_zip hp).2).1
    refine zK3 h tm (hr _ h1) λr hrr=>?_
    rcases List.mem_append.mp h2 with h2 | h2
    ·exact hr _ (List.mem_of_mem_drop h2) r hrr
    ·rw [List.mem_singleton.mp h2] at hrr
     exact hi _ (by omega) r hrr
   | _=>rfl
  have e3:gh n (rooms.map λrm=>rm.map (zb n B)) (min b t).toNat (g.map (zb n B)) A3=gh n rooms (min b t).toNat g A3:=by
   cases A3 with
   | lst as=>
    show (decide _ && _)=(decide _ && _)
    rw [List.length_map,<- List.map_drop,zOZ,List.all_map]
    congr 1
    refine zO6 λp hp=>?_
    exact J8 (p:=0) h (hr _ (List.mem_of_mem_drop (List.of_mem_zip hp).1)) hg
   | _=>rfl
  rw [e1,e2,e3]
 | _=>rfl
theorem zKU {n:Nat} {B:List (List Int)} {r:List Int} (lr:r.length=n + 1) (n3:n<=3) (hc:∀ x∈r.take n,Bd 4 x) (hr:∀ x∈r,Bd 300 x) (hB:yx B):∀ x∈zb n B r,Bd 300 x:=λx hx=>by
 rcases List.mem_append.mp hx with hx | hx
 ·obtain ⟨j,_,rfl⟩:=List.mem_map.mp hx
  exact (YX hc hB).mono (by rw [List.length_take]; omega)
 ·exact hr x (List.mem_of_mem_drop hx)
theorem Qg {n:Nat} {B rm:List (List Int)} (n3:n<=3) (h:wN rm n) (hc:∀ r∈rm,∀ x∈r.take n,Bd 4 x) (hB:yx B):wN (rm.map (zb n B)) n:=⟨λr hr=>by
 obtain ⟨q,hq,rfl⟩:=List.mem_map.mp hr
 exact ⟨by rw [zH8 (by rw [(h.row q hq).1]; omega)]; exact (h.row q hq).1,zKU (h.row q hq).1 n3 (hc q hq) (h.row q hq).2 hB⟩,by rw [List.length_map]; exact h.few⟩
theorem Qh:∀ {ds:List D},(∀ d∈ds,PyData.eqv d.py d.py=true)->PyData.eqvAll (wd ds) (wd ds)=true
 | [],_=>by simp [wd,PyData.eqvAll]
 | d :: ds,h=>by simp [wd,PyData.eqvAll,h d List.mem_cons_self,Qh λx hx=>h x (List.mem_cons_of_mem _ hx)]
theorem Qi:∀ (n:Nat) (d:D),D.pl n d=true->PyData.eqv d.py d.py=true
 | 0,_,h=>by cases h
 | _ + 1,.int i,_=>by simp [D.py,PyData.eqv]
 | _ + 1,.bool i,_=>by simp [D.py,PyData.eqv]
 | _ + 1,.non,_=>by simp [D.py,PyData.eqv]
 | _ + 1,.str i,_=>by simp [D.py,PyData.eqv]
 | _ + 1,.scr _,h=>by cases h
 | _ + 1,.obj ..,h=>by cases h
 | n + 1,.lst ds,h=>by
  simp only [D.py,PyData.eqv]
  exact Qh λd m=>Qi n d (List.all_eq_true.mp h d m)
 | n + 1,.tup ds,h=>by
  simp only [D.py,PyData.eqv]
  exact Qh λd m=>Qi n d (List.all_eq_true.mp h d m)
abbrev dTo (n:Nat) (bs:List (Int × Int)) (ms:List MD):D:=.tup [.int (n:Int),.lst (bs.map yN),.lst (ms.map xX)]
theorem Qj (n:Nat) (bs:List (Int × Int)) (ms:List MD):(dTo n bs ms).pl 50=true:=by
 show ([D.int (n:Int),.lst (bs.map yN),.lst (ms.map xX)].all (D.pl 49))=true
 have e1:(D.lst (bs.map yN)).pl 49=true:=List.all_eq_true.mpr λd h=>by
  obtain ⟨b,_,rfl⟩:=List.mem_map.mp h
  rfl
 have e2:(D.lst (ms.map xX)).pl 49=true:=List.all_eq_true.mpr λd h=>by
  obtain ⟨m,_,rfl⟩:=List.mem_map.mp h
  exact zQn 43 m
 simp only [List.all_cons,List.all_nil,Bool.and_true,e1,e2]
 rfl
def fTo (C CM:Addr):FL:=λds R=>∃ n bs ms,ds=[x9 C CM n bs ms]/\ms.length<=40/\R (dTo n bs ms)
def zRU:FL:=λds R=>∃ rooms back S1 S4 S3 c,ds=[wc rooms (.int back) (yq S1) (uS S4) (zm S3),.int c]/\ur S1/\Wm S4/\wa S3/\∀ A1 A2 A3,Fw 6 A1->Fw 6 A2->Fw 6 A3->xQ A1->ji A2->xR A3->R (wc rooms (.int back) A1 A2 A3)
def jN:FL:=λds R=>∃ ns,ds=[.scr ns]/\R (.bool true)
section
variable {P:Program} {w:World} {K:PySem.W.Frag} {mg:Str->Option Value} {base:Heap}
abbrev Qk:Stmt:=zp 100
theorem ui:zh ["_law_parts_here","_law_cell","_law_rooms","_law_back","_law_starts","_law_steps","_law_stays","_law_way"] ["_law_parts_here","_law_cell"] (zK Qk):=.a
abbrev Ql:Stmt:=zp 101
theorem Qm:zh ["_law_thing_here","_law_found","_law_mode_here"] ["_law_thing_here"] (zK Ql):=.a
abbrev jO:Stmt:=zp 102
theorem wO:zh ["_law_script","_law_spec","_law_thing_here","_law_inner","_law_rows_here","_law_turn","_law_parts_here","_law_rooms","_law_place","_law_starts","_law_steps","_law_stays","_law_there","_law_back","_law_other_here","_law_one","_law_begin","_law_claim","_law_two"] ["_law_script"] (zK jO):=.a
variable {ag ah aClaim aSettles aComes aPaper aRooms aFalls:Addr} (aa:zE K mg "Mode" ag) (ab:wz K ag) (ac:zE K mg "Thing" ah) (ae:w4 K ah) (TClaim:zE K mg "Claim" aClaim) (AClaim:w6 K aClaim) (TSettles:zE K mg "Settles" aSettles) (ASettles:w8 K aSettles) (TComes:zE K mg "Comes" aComes) (AComes:vA K aComes) (TPaper:zE K mg "Paper" aPaper) (APaper:vB K aPaper) (TRooms:zE K mg "Rooms" aRooms) (ARooms:vC K aRooms) (TFalls:zE K mg "Falls" aFalls) (AFalls:vD K aFalls)
include aa ab ac ae TClaim AClaim TSettles ASettles TComes AComes TPaper APaper TRooms ARooms TFalls AFalls
theorem zI6 {k:Nat} {f:Addr} {fd:FuncData} (F:zj K "_law_spoilt" "_law_spoilt" Qk f fd) (B:Bl mg) (aH:Fn P w K mg base "_law_changed" ["_law_some","_law_cell"] k (zJ (jM 3))):zG P w K mg base zY (k + 1) f fd ["_law_parts_here","_law_cell"] (zJ (zRU)):=by
 refine zx F ui (λds R h=>by obtain ⟨rooms,back,S1,S4,S3,c,rfl,_⟩:=h; rfl) λcdv A outer s H E hr=>⟨_,(zL (jB (zA 0) (wK rfl (zw 2 ui.nd rfl (Or.inl rfl) (zw 3 ui.nd rfl (Or.inl rfl) (zw 4 ui.nd rfl (Or.inl rfl) (zw 5 ui.nd rfl (Or.inl rfl) (zw 6 ui.nd rfl (Or.inl rfl) wJ)))))))
  (zL (zv 7 ui.nd rfl (Or.inl rfl) (xB (zA 1) zF))
  (zL (zv 1 ui.nd rfl (Or.inl rfl) (wu (zA 1) zF))
  (jA (yR (vj hr.units (zA 7) zF) (zP (zv 4 ui.nd rfl (Or.inl rfl) (zQ aH hr rfl (zB (zA 4) (zB (zA 1) zC))))) yQ)
  (jA (yR (vj hr.units (zA 7) zF) (zP (zv 5 ui.nd rfl (Or.inl rfl) (zQ aH hr rfl (zB (zA 5) (zB (zA 1) zC))))) yQ)
  (jA (yR (vj hr.units (zA 7) zF) (zP (zv 6 ui.nd rfl (Or.inl rfl) (zQ aH hr rfl (zB (zA 6) (zB (zA 1) zC))))) yQ)
  (zP (zX (y8 (zB (zA 2) (zB (zA 3) (zB (zA 4) (zB (zA 5) (zB (zA 6) zC)))))))))))))),λds R h=>?_⟩
 obtain ⟨rooms,back,S1,S4,S3,c,rfl,h1,h4,h3,q⟩:=h
 refine ⟨by decide,by decide,(Bd.lit (i:=6) (n:=3)).mono,?_⟩
 refine ⟨λΓ=>∃ A1:D,Γ=[.sh (wc rooms (.int back) (yq S1) (uS S4) (zm S3)),.sh (.int (c.fdiv 6)),.sh (vc rooms),.sh (.int back),.sh A1,.sh (uS S4),.sh (zm S3),.sh (.int (c.fmod 6))]/\Fw 6 A1/\xQ A1,w2 (λc1=>⟨_,_,rfl,.inl ⟨S1,rfl,h1,λd fd ad=>⟨d,rfl,fd.mono,ad⟩⟩⟩) λc1=>⟨_,rfl,(Wq (k:=0) h1).1.mono,(Wq (k:=0) h1).2⟩,?_⟩
 rintro Γ' ⟨A1,rfl,fA1,pA1⟩
 refine ⟨λΓ=>∃ A2:D,Γ=[.sh (wc rooms (.int back) (yq S1) (uS S4) (zm S3)),.sh (.int (c.fdiv 6)),.sh (vc rooms),.sh (.int back),.sh A1,.sh A2,.sh (zm S3),.sh (.int (c.fmod 6))]/\Fw 6 A2/\ji A2,w2 (λc1=>⟨_,_,rfl,.inr (.inr ⟨by decide,S4,rfl,h4,λd fd ad=>⟨d,rfl,fd,ad⟩⟩)⟩) λc1=>⟨_,rfl,(zO4 h4).1.mono,(zO4 h4).2⟩,?_⟩
 rintro Γ' ⟨A2,rfl,fA2,pA2⟩
 refine ⟨λΓ=>∃ A3:D,Γ=[.sh (wc rooms (.int back) (yq S1) (uS S4) (zm S3)),.sh (.int (c.fdiv 6)),.sh (vc rooms),.sh (.int back),.sh A1,.sh A2,.sh A3,.sh (.int (c.fmod 6))]/\Fw 6 A3/\xR A3,w2 (λc1=>⟨_,_,rfl,.inr (.inl ⟨by decide,S3,rfl,h3,λd fd ad=>⟨d,rfl,fd.mono,ad⟩⟩)⟩) λc1=>⟨_,rfl,(Wr h3).1.mono,(Wr h3).2⟩,?_⟩
 rintro Γ' ⟨A3,rfl,fA3,pA3⟩
 exact ⟨k0,q A1 A2 A3 fA1 fA2 fA3 pA1 pA2 pA3⟩
theorem zMB {k:Nat} {f:Addr} {fd:FuncData} (F:zj K "_law_told" "_law_told" Ql f fd) (B:Bl mg) (aF:vi P w K mg base ah "modes" ["self"] k (zJ (WG ah ag))) (ap:vi P w K mg base ah "pushes" ["self"] k (zJ (YT ah ag))):zG P w K mg base zY (k + 1) f fd ["_law_thing_here"] (zJ (fTo ah ag)):=by
 refine zx F Qm (λds R h=>by obtain ⟨n,bs,ms,rfl,_⟩:=h; rfl) λcdv A outer s H E hr=>⟨_,(zL (va 1 Qm.nd rfl (Or.inl rfl) zC)
  (zL (wL PassesOwn.never rfl (yP (jD aF ac hr (zA 0))) (zq 2 Qm.nd rfl (Or.inl rfl)) (zP (yM (wE (wQ PySem.F.plainAttrs_list PySem.F.slot_list_append PySem.F.type_list_append yb (yi 1) (zi (x8 (zB (yA K (zA 2) rfl) (zB (yA K (zA 2) rfl) (zB (yA K (zA 2) rfl) (zB (yA K (zA 2) rfl) (zB (yA K (zA 2) rfl) (zB (yA K (zA 2) rfl) zC))))))) yE))) wY)))
  (zP (ww 1 (zX (x8 (zB (yA K (zA 0) rfl) (zB (jD ap ac hr (zA 0)) (zB (zA 1) zC))))))))),λds R h=>?_⟩
 obtain ⟨n,bs,ms,rfl,m40,q⟩:=h
 have lm:(List.map (wM ag) ms).length=ms.length:=List.length_map ..
 refine ⟨k0,rfl,by decide +kernel,n,bs,ms,rfl,?_⟩
 refine ⟨λk Γ=>∃ s2,Γ=[.sh (x9 ah ag n bs ms),.ow ((ms.take k).map xX),s2],⟨.no,rfl⟩,?_,?_⟩
 ·rintro k d Γ' hk ⟨s2,rfl⟩
  obtain ⟨m,hm,rfl⟩:=qk hk
  have kl:=(List.getElem?_eq_some_iff.mp hm).1
  refine ⟨⟨aa.cl,ab.n_rows⟩,_,rfl,⟨aa.cl,ab.n_nexts⟩,_,rfl,⟨aa.cl,ab.n_steer⟩,_,rfl,⟨aa.cl,ab.n_push⟩,_,rfl,⟨aa.cl,ab.n_add⟩,_,rfl,⟨aa.cl,ab.n_divisor⟩,_,rfl,k0,by rw [List.length_map,List.length_take]; omega,.sh (wM ag m),?_⟩
  rw [uz hm,List.map_append]
  rfl
 ·rintro Γ' ⟨s2,rfl⟩
  rw [lm,List.take_of_length_le (Nat.le_refl _)]
  exact ⟨⟨ac.cl,ae.n_many⟩,_,rfl,rfl,by decide +kernel,n,bs,ms,rfl,k0,q⟩
theorem zRA {k:Nat} {f:Addr} {fd:FuncData} (F:zj K "law" "law" jO f fd) (B:Bl mg) (cb:Fn P w K mg base "_law_thing" ["_law_script"] (k + 1) (zJ (fTh))) (cf:Fn P w K mg base "_law_made" ["_law_spec"] (k + 1) (zJ (zRY ah ag))) (cg:Fn P w K mg base "_law_parts" ["_law_spec","_law_cell"] (k + 1) (zJ (Yx))) (aw:Fn P w K mg base "_law_cell_at" ["_law_script","_law_k"] (k + 1) (zJ (QF))) (ck:Fn P w K mg base "_law_spoilt" ["_law_parts_here","_law_cell"] (k + 1) (zJ (zRU))) (cn:Fn P w K mg base "_law_turning" ["_law_many","_law_cell"] (k + 1) (zJ zKA)) (aR:Fn P w K mg base "turned" ["thing","there","back"] (k + 1) (zJ (zMc ah ag))) (aS:Fn P w K mg base "lets_by" ["thing","claim","paper"] (k + 1) (zJ (WS ah ag aSettles aRooms))) (aT:uI P w K mg base aRooms ["self","rooms","back","starts","steps","stays"] k (wf aRooms (zRX aRooms))) (aU:vU P w K mg base aSettles ["self","start","rows","turn"] k (wf aSettles (zRW aSettles)) (.int 0)) (au:Fn P w K mg base "_law_rows" ["_law_box_here"] (k + 1) (zJ (Yj))) (aP:Fn P w K mg base "_law_turned_room" ["_law_back","_law_room"] (k + 1) (zJ (zMk))) (aV:Fn P w K mg base "_law_told" ["_law_thing_here"] (k + 1) (zJ (fTo ah ag))):zG P w K mg base zY (k + 1 + 1) f fd ["_law_script"] (zJ (jN)):=by
 refine zx F wO (λds R h=>by obtain ⟨ns,rfl,_⟩:=h; rfl) λcdv A outer s H E hr=>⟨_,(zL (zv 1 wO.nd rfl (Or.inl rfl) (zQ cb hr rfl (zB (zA 0) zC)))
  (zL (zv 2 wO.nd rfl (Or.inl rfl) (zQ cf hr rfl (zB (zA 1) zC)))
  (zL (jB (zQ cg hr rfl (zB (zA 1) (zB (zQ aw hr rfl (zB (zA 0) (zB zF zC))) zC))) (wK rfl (zw 3 wO.nd rfl (Or.inl rfl) (zw 4 wO.nd rfl (Or.inl rfl) (zw 5 wO.nd rfl (Or.inl rfl) (zw 6 wO.nd rfl (Or.inl rfl) wJ))))))
  (jA (jB (zQ ck hr rfl (zB (zA 6) (zB (zQ aw hr rfl (zB (zA 0) (zB zF zC))) zC))) (wK rfl (zw 7 wO.nd rfl (Or.inl rfl) (zw 8 wO.nd rfl (Or.inl rfl) (zw 9 wO.nd rfl (Or.inl rfl) (zw 10 wO.nd rfl (Or.inl rfl) (zw 11 wO.nd rfl (Or.inl rfl) wJ)))))))
  (jA (jB (zQ cn hr rfl (zB (zV (zA 1) zF (λ_ _=>rfl)) (zB (zQ aw hr rfl (zB (zA 0) (zB zF zC))) zC))) (wK rfl (zw 12 wO.nd rfl (Or.inl rfl) (zw 13 wO.nd rfl (Or.inr rfl) wJ))))
  (zL (zv 14 wO.nd rfl (Or.inl rfl) (zQ aR hr rfl (zB (zA 2) (zB (yI (own:=["_law_row"]) (caps:=[]) (yB (S:=zK jO) (N:=["_law_script","_law_spec","_law_thing_here","_law_inner","_law_rows_here","_law_turn","_law_parts_here","_law_rooms","_law_place","_law_starts","_law_steps","_law_stays","_law_there","_law_back","_law_other_here","_law_one","_law_begin","_law_claim","_law_two"]) rfl (by decide +kernel) rfl ⟨_,rfl⟩ rfl (by decide +kernel) (by decide +kernel)) rfl rfl yD (yP (zA 12)) (λ_ _ _ _=>(zq 0 (show (["_law_row"]:List Str).Nodup by decide +kernel) rfl (Or.inl rfl))) (λ_ _ _ _=>(xV v4 v6 rfl B.list_ xq (zB (zA 0) zC)))) (zB (yI (own:=["_law_row"]) (caps:=[]) (yB (S:=zK jO) (N:=["_law_script","_law_spec","_law_thing_here","_law_inner","_law_rows_here","_law_turn","_law_parts_here","_law_rooms","_law_place","_law_starts","_law_steps","_law_stays","_law_there","_law_back","_law_other_here","_law_one","_law_begin","_law_claim","_law_two"]) rfl (by decide +kernel) rfl ⟨_,rfl⟩ rfl (by decide +kernel) (by decide +kernel)) rfl rfl yD (yP (zA 13)) (λ_ _ _ _=>(zq 0 (show (["_law_row"]:List Str).Nodup by decide +kernel) rfl (Or.inl rfl))) (λ_ _ _ _=>(xV v4 v6 rfl B.list_ xq (zB (zA 0) zC)))) zC)))))
  (zL (zv 15 wO.nd rfl (Or.inl rfl) (zQ aS hr rfl (zB (zA 2) (zB (jf aU.fn TSettles hr rfl (zB (zQ au hr rfl (zB (zA 3) zC)) (zB (zA 4) (zB (zA 5) zC)))) (zB (jf aT TRooms hr rfl (zB (zA 7) (zB (zA 8) (zB (zA 9) (zB (zA 10) (zB (zA 11) zC)))))) zC)))))
  (zL (zv 16 wO.nd rfl (Or.inl rfl) (zQ aP hr rfl (zB (zA 13) (zB (zQ au hr rfl (zB (zA 3) zC)) zC))))
  (zL (uO 7 false wO.nd rfl rfl (own:=["_law_room"]) (caps:=[(13,"_law_back")]) (yB (S:=zK jO) (N:=["_law_script","_law_spec","_law_thing_here","_law_inner","_law_rows_here","_law_turn","_law_parts_here","_law_rooms","_law_place","_law_starts","_law_steps","_law_stays","_law_there","_law_back","_law_other_here","_law_one","_law_begin","_law_claim","_law_two"]) rfl (by decide +kernel) rfl ⟨_,rfl⟩ rfl (by decide +kernel) (by decide +kernel)) rfl rfl yD (yP (zA 7)) (λ_ _ _ _=>(zq 0 (show (["_law_room","_law_back"]:List Str).Nodup by decide +kernel) rfl (Or.inl rfl))) (λ_ _ _ _=>(zQ aP hr rfl (zB (zA 1) (zB (zA 0) zC)))) rfl)
  (jA (zv 17 wO.nd rfl (Or.inl rfl) (jf aU.fn TSettles hr rfl (zB (zA 16) (zB (zQ aP hr rfl (zB (zA 13) (zB (zA 4) zC))) (zB (zA 5) zC)))))
  (zL (zv 18 wO.nd rfl (Or.inl rfl) (zQ aS hr rfl (zB (zA 14) (zB (zA 17) (zB (jf aT TRooms hr rfl (zB (zA 7) (zB (zA 8) (zB (zA 9) (zB (zA 10) (zB (zA 11) zC)))))) zC)))))
  (zL (yR (PW.pt (wI (xF (yc (yO (xi wo rfl B.isinstance_ xo (zi (zA 15) (zi (wj (v:=.ty "bool") (u:=.type "bool") rfl B.bool_ Kw rfl) yE))) (wx zJ4)))) (we (Xm hr.units (zA 18) (zA 15))))) (zP (zX xk)) yQ)
  (zP (zX (uM hr.units (zQ aV hr rfl (zB (zQ aR hr rfl (zB (zA 14) (zB (zA 13) (zB (zA 12) zC)))) zC)) (zQ aV hr rfl (zB (zA 2) zC))))))))))))))))),λds R h=>?_⟩
 obtain ⟨ns,rfl,q⟩:=h
 refine ⟨ns,rfl,λn bs ms u T=>?_⟩
 have n3:=T.n3
 refine ⟨n,bs,ms,u,rfl,T.ok,?_⟩
 refine ⟨ns,5,rfl,by decide,λc5=>⟨n,bs,ms,u,c5,rfl,T,λinner g t rooms back S1 S4 S3 I1 G1 t0 bt RR co b0 bl h1 h4 h3=>?_⟩⟩
 have few:=RR.few
 refine ⟨λΓ=>∃ A1 A2 A3,Γ=[.sh (.scr ns),.sh (wB n bs ms u),.sh (x9 ah ag n bs ms),.sh (zZ inner),.sh (Rm g),.sh (.int t),.sh (wc rooms (.int back) (yq S1) (uS S4) (zm S3)),.sh (vc rooms),.sh (.int back),.sh A1,.sh A2,.sh A3,.no,.no,.no,.no,.no,.no,.no]/\Fw 6 A1/\Fw 6 A2/\Fw 6 A3/\xQ A1/\ji A2/\xR A3,⟨ns,6,rfl,by decide,λc6=>⟨rooms,back,S1,S4,S3,c6,rfl,h1,h4,h3,λA1 A2 A3 f1 f2 f3 p1 p2 p3=>⟨A1,A2,A3,rfl,f1,f2,f3,p1,p2,p3⟩⟩⟩,?_⟩
 clear h1 h4 h3
 rintro Γ' ⟨A1,A2,A3,rfl,f1,f2,f3,p1,p2,p3⟩
 generalize wc rooms (.int back) (yq S1) (uS S4) (zm S3)=dp0
 refine ⟨λΓ=>∃ C B,Γ=[.sh (.scr ns),.sh (wB n bs ms u),.sh (x9 ah ag n bs ms),.sh (zZ inner),.sh (Rm g),.sh (.int t),.sh dp0,.sh (vc rooms),.sh (.int back),.sh A1,.sh A2,.sh A3,.sh (Tb C),.sh (Tb B),.no,.no,.no,.no,.no]/\TB n C B/\yx C/\yx B,⟨_,rfl,ns,7,rfl,by decide,λc7=>⟨n,c7,rfl,T.n1,n3,λC B tb hC hB=>⟨C,B,rfl,tb,hC,hB⟩⟩⟩,?_⟩
 rintro Γ' ⟨C,B,rfl,tb,hC,hB⟩
 have BI:Bx n 280 inner:=⟨I1.len,λx hx=>⟨(I1.ok x hx).2.1.mono,(I1.ok x hx).2.2.mono⟩⟩
 have RS:wN (vJ inner) n:=zM3 BI n3
 have l3:=G1.l3
 have li:=I1.len
 have RG:wN g n:=⟨λr hr=>⟨(G1.row r hr).1,λx hx=>((G1.row r hr).2.2 x hx).mono⟩,by omega⟩
 have FR:∀ {k:Nat} {rr:List (List Int)},wN rr n->Fw (k + 3) (Rm rr):=λh=>qY (by have:=h.few; omega) (λr hr=>by rw [(h.row r hr).1]; omega)
 have FLs:∀ {rs:List (List (List Int))},rs.length<=100->(∀ r∈rs,wN r n)->Fw 6 (vc rs):=λh1 h2=>.lst (by rw [List.length_map]; omega) λd hd=>by
  obtain ⟨r,hr,rfl⟩:=List.mem_map.mp hd
  exact FR (h2 r hr)
 have cI:∀ r∈vJ inner,∀ x∈r.take n,Bd 4 x:=λr hr x hx=>((gu BI (by decide) r hr).2.1 x hx).mono
 have cG:∀ r∈g,∀ x∈r.take n,Bd 4 x:=λr hr=>(G1.row r hr).2.1
 have RS2:=Qg n3 RS cI hB
 have RG2:=Qg n3 RG cG hB
 have RR2:gj n (rooms.map λrm=>rm.map (zb n B)):=⟨λr hr=>by
  obtain ⟨rm,hrm,rfl⟩:=List.mem_map.mp hr
  exact Qg n3 (RR.rm rm hrm) (co rm hrm) hB,by rw [List.length_map]; exact few⟩
 have hBn:∀ q∈B,q.length=n/\∀ x∈q,Bd 20 x:=λq hq=>⟨tb.br q hq,hB q hq⟩
 have TS2:gb n bs (ms.map (vd n bs.length C B)):=by
  refine ⟨⟨T.n1,n3,T.ok.bok,T.ok.b6,by rw [List.length_map]; exact T.m1,by rw [List.length_map]; exact T.ok.m40,λm' hm=>?_⟩,λm' hm=>?_,T.ths.bs⟩
  ·obtain ⟨m,hm1,rfl⟩:=List.mem_map.mp hm
   exact QA tb (T.ok.mok m hm1)
  ·obtain ⟨m,hm1,rfl⟩:=List.mem_map.mp hm
   exact (zQJ tb (T.ok.mok m hm1) hC hB (T.md m hm1).mse).ms (by decide)
 have lC:=tb.tl
 have lB:=tb.bl
 refine xc L zg uQ L (by omega) (λr hr=>rfl) ?_
 refine xc L zg uQ L (by omega) (λr hr=>rfl) ?_
 refine ⟨n,bs,ms,C,B,rfl,T.ok,tb,hC,hB,λm hm=>(T.md m hm).mse.mono,?_⟩
 refine ⟨inner,rfl,by omega,_,_,_,rfl,FR RS,FR RG,_,_,_,_,_,rfl,FLs few RR.rm,f1,f2,f3,n,bs,ms,vJ inner,g,t,rooms,.int back,A1,A2,A3,6,rfl,T.ths,RS,RG,t0,RR,rfl,f1,f2,f3,p1,p2,p3,T.cl,?_⟩
 refine ⟨inner,rfl,by omega,B,vJ inner,n,rfl,lB,n3,by have:=RS.few; omega,λr hr=>⟨(RS.row r hr).1,λx hx=>((RS.row r hr).2 x hx).mono⟩,hBn,?_⟩
 refine xc Rm jj Yd (λrm=>Rm (rm.map (zb n B))) (by omega) (λrm hrm=>⟨B,rm,n,rfl,lB,n3,by have:=(RR.rm rm hrm).few; omega,λr hr=>⟨((RR.rm rm hrm).row r hr).1,λx hx=>(((RR.rm rm hrm).row r hr).2 x hx).mono⟩,hBn,rfl⟩) ?_
 have er:D.lst (rooms.map λrm=>Rm (rm.map (zb n B)))=vc (rooms.map λrm=>rm.map (zb n B)):=by unfold vc; rw [List.map_map]; rfl
 rw [er]
 refine ⟨λΓ=>Γ=[.sh (.scr ns),.sh (wB n bs ms u),.sh (x9 ah ag n bs ms),.sh (zZ inner),.sh (Rm g),.sh (.int t),.sh dp0,.sh (vc (rooms.map λrm=>rm.map (zb n B))),.sh (.int back),.sh A1,.sh A2,.sh A3,.sh (Tb C),.sh (Tb B),.sh (x9 ah ag n bs (ms.map (vd n bs.length C B))),.sh (.bool (uA n bs ms (vJ inner) g t rooms (.int back) A1 A2 A3)),.sh (Rm ((vJ inner).map (zb n B))),.sh (jI aSettles ((vJ inner).map (zb n B)) (g.map (zb n B)) t),.no],⟨B,g,n,rfl,lB,n3,by omega,λr hr=>⟨(RG.row r hr).1,λx hx=>((RG.row r hr).2 x hx).mono⟩,hBn,_,_,_,rfl,FR RS2,FR RG2,rfl⟩,?_⟩
 rintro Γ' rfl
 refine ⟨_,_,_,_,_,rfl,FLs RR2.few RR2.rm,f1,f2,f3,n,bs,_,(vJ inner).map (zb n B),g.map (zb n B),t,rooms.map λrm=>rm.map (zb n B),.int back,A1,A2,A3,6,rfl,TS2,RS2,RG2,t0,RR2,rfl,f1,f2,f3,p1,p2,p3,zLU T.cl,?_⟩
 rw [zMT tb (zQI T.ok.mok) (λr hr=>(RS.row r hr).1) (λr hr=>(RG.row r hr).1) (λrm hrm r hr=>((RR.rm rm hrm).row r hr).1)]
 refine ⟨rfl,wF rfl (wF (by cases uA n bs ms (vJ inner) g t rooms (.int back) A1 A2 A3 <;> rfl) ?_)⟩
 have eb:(ms.map (vd n bs.length C B)).map (vd n bs.length B C)=ms:=by
  rw [List.map_map]
  exact (List.map_congr_left λm hm=>zPF tb (T.ok.mok m hm)).trans (List.map_id _)
 refine ⟨n,bs,_,B,C,rfl,TS2.ok,zPI tb,hB,hC,λm' hm=>?_,n,bs,_,rfl,by rw [List.length_map,List.length_map]; exact T.ok.m40,n,bs,ms,rfl,T.ok.m40,Qj _ _ _,Qj _ _ _,bR q ?_⟩
 ·obtain ⟨m,hm1,rfl⟩:=List.mem_map.mp hm
  exact (zQJ tb (T.ok.mok m hm1) hC hB (T.md m hm1).mse).mono
 ·rw [eb]
  exact (Qi 50 _ (Qj n bs ms)).symm
end
end K86
namespace L2
open PySem PySem.Spec PyProof.Rows
theorem Qn {α:Type} {P:List α->Prop} (h:∀ x0:α,P [x0]):∀ us:List α,us.length=1->P us
 | [x0],_=>h x0
theorem Wv {α:Type} {P:List α->Prop} (h:∀ x0 x1:α,P [x0,x1]):∀ us:List α,us.length=2->P us
 | [x0,x1],_=>h x0 x1
theorem Ww {α:Type} {P:List α->Prop} (h:∀ x0 x1 x2:α,P [x0,x1,x2]):∀ us:List α,us.length=3->P us
 | [x0,x1,x2],_=>h x0 x1 x2
theorem Wx {α:Type} {P:List α->Prop} (h:∀ x0 x1 x2 x3:α,P [x0,x1,x2,x3]):∀ us:List α,us.length=4->P us
 | [x0,x1,x2,x3],_=>h x0 x1 x2 x3
theorem Qo {α:Type} {P:List α->Prop} (h:∀ x0 x1 x2 x3 x4:α,P [x0,x1,x2,x3,x4]):∀ us:List α,us.length=5->P us
 | [x0,x1,x2,x3,x4],_=>h x0 x1 x2 x3 x4
theorem Qp {α:Type} {P:List α->Prop} (h:∀ x0 x1 x2 x3 x4 x5:α,P [x0,x1,x2,x3,x4,x5]):∀ us:List α,us.length=6->P us
 | [x0,x1,x2,x3,x4,x5],_=>h x0 x1 x2 x3 x4 x5
theorem Qq {α:Type} {P:List α->Prop} (h:∀ x0 x1 x2 x3 x4 x5 x6:α,P [x0,x1,x2,x3,x4,x5,x6]):∀ us:List α,us.length=7->P us
 | [x0,x1,x2,x3,x4,x5,x6],_=>h x0 x1 x2 x3 x4 x5 x6
structure Gf (K:W.Frag) (x:Str) (st:Stmt) (f:Addr) (fd:FuncData):Prop where
 at_:W.nsIn K mainGlobals x=some (some (.ref f))
 F:zj K x x st f fd
abbrev Ge (K:W.Frag) (x:Str) (st:Stmt):Prop:=∃ f fd,Gf K x st f fd
structure Gm (K:W.Frag) (C:Addr) (x q:Str) (st:Stmt) (f:Addr) (fd:FuncData):Prop where
 at_:W.findIn K (.ref C) x=some (some (.ref f))
 fn:W.isFn K (.ref f)=true
 F:zj K x q st f fd
abbrev Gn (K:W.Frag) (C:Addr) (x q:Str) (st:Stmt):Prop:=∃ f fd,Gm K C x q st f fd
structure Gd (K:W.Frag) (x:Str) (st:Stmt) (f:Addr) (fd:FuncData) (d:Value):Prop where
 at_:W.nsIn K mainGlobals x=some (some (.ref f))
 F:xG K x x st f fd d
abbrev Gi (K:W.Frag) (x:Str) (st:Stmt) (i:Int):Prop:=∃ f fd t,Gd K x st f fd (.int i t)
structure Gk (K:W.Frag) (C:Addr) (x q:Str) (st:Stmt) (f:Addr) (fd:FuncData) (d:Value):Prop where
 at_:W.findIn K (.ref C) x=some (some (.ref f))
 fn:W.isFn K (.ref f)=true
 F:xG K x q st f fd d
abbrev Gj (K:W.Frag) (C:Addr) (x q:Str) (st:Stmt) (i:Int):Prop:=∃ f fd t,Gk K C x q st f fd (.int i t)
structure Gc (K:W.Frag) (x:Str) (C:Addr):Prop where
 nm:W.nsIn K mainGlobals x=some (some (.ref C))
 pg:W.plainGet K C Str.empty=true
 hd:W.hasDictIn K C=true
 po:W.plainOver K C=true
 sa:W.findIn K (.ref C) "__setattr__" = some (some (.builtin "object.__setattr__"))
 mk_:W.makesIn K C=true
 kc:W.keepIn K (.ref C)=true
 ha:W.findIn K (.ref C) "__class__" = some (some (.builtin "object.__class__"))
 hn:W.specialIn K (.builtin "object.__class__") "__get__" = some (some (.builtin "getset_descriptor.__get__"))
 tk:W.takesIn K (.builtin "object.__class__")=some true
 hm:W.mroIn K C (.type "object")=some true
section
variable {P:Program} {w:World} {K:W.Frag} {mg:Str->Option Value} {base h:Heap} {x q:Str} {st:Stmt} {f C T:Addr} {fd:FuncData} {ps:List Str} {k:Nat} {sp:Sp} {oc kV doc pm cdv ct oT:Value} {od an dT:Option Addr} {osl sT:Array (Option Value)}
theorem Y2 (a:W.nsIn K mainGlobals x=some (some (.ref f))) (l:K.lookup f=some ⟨oc,od,.func (W.fnOf x x (wR st) (xY st) (zK st) .none kV doc pm an cdv ct),osl⟩) (c:W.codeIn K cdv x=true) (k:W.keepIn K (.ref f)=true):Ge K x st:=⟨f,_,a,Kl l c k⟩
theorem Y3 (a:W.findIn K (.ref C) x=some (some (.ref f))) (i:W.isFn K (.ref f)=true) (l:K.lookup f=some ⟨oc,od,.func (W.fnOf x q (wR st) (xY st) (zK st) .none kV doc pm an cdv ct),osl⟩) (c:W.codeIn K cdv q=true) (k:W.keepIn K (.ref f)=true):Gn K C x q st:=⟨f,_,a,i,Kl l c k⟩
theorem Y4 {i:Int} {t:Tok} {n:Nat} (a:W.nsIn K mainGlobals x=some (some (.ref f))) (l:K.lookup f=some ⟨oc,od,.func (W.fnOf x x (wR st) (xY st) (zK st) (.ref T) kV doc pm an cdv ct),osl⟩) (c:W.codeIn K cdv x=true) (k:W.keepIn K (.ref f)=true) (d:K.lookup T=some ⟨oT,dT,.seq #[.int i t] n,sT⟩):Gi K x st i:=⟨f,_,t,a,Kx l c k d rfl⟩
theorem Y5 {i:Int} {t:Tok} {n:Nat} (a:W.findIn K (.ref C) x=some (some (.ref f))) (z:W.isFn K (.ref f)=true) (l:K.lookup f=some ⟨oc,od,.func (W.fnOf x q (wR st) (xY st) (zK st) (.ref T) kV doc pm an cdv ct),osl⟩) (c:W.codeIn K cdv q=true) (k:W.keepIn K (.ref f)=true) (d:K.lookup T=some ⟨oT,dT,.seq #[.int i t] n,sT⟩):Gj K C x q st i:=⟨f,_,t,a,z,Kx l c k d rfl⟩
theorem Gc.cls (g:Gc K x C) (X:K.In h) (G:h.Ns mainGlobals mg):zE K mg x C:=⟨⟨g.pg,g.hd,g.po,g.sa⟩,W.mg_of X G g.nm,g.ha,g.hn,g.tk,g.hm⟩
abbrev Bn (x q:Str) (st:Stmt) (ps:List Str):Prop:=∀ (kV doc pm:Value) (an:Option Addr) (cdv ct:Value) (us:List Value),us.length=ps.length->bindArgs (W.fnOf x q (wR st) (xY st) (zK st) .none kV doc pm an cdv ct) ⟨us,[]⟩=pure (ps.zip us)
structure Wh (P:Program) (w:World) (K:W.Frag) (mg:Str->Option Value) (base h:Heap):Prop where
 X:K.In h
 G:h.Ns mainGlobals mg
theorem Gf.fn (g:Gf K x st f fd) (Y:Wh P w K mg base h) (o:zG P w K mg base zY k f fd ps sp) (b:Bn x x st ps:=by intro _ _ _ _ _ _; first | exact L2.Qn λ_=>rfl | exact L2.Wv λ_ _=>rfl | exact L2.Ww λ_ _ _=>rfl | exact L2.Wx λ_ _ _ _=>rfl | exact L2.Qo λ_ _ _ _ _=>rfl | exact L2.Qp λ_ _ _ _ _ _=>rfl | exact L2.Qq λ_ _ _ _ _ _ _=>rfl):Fn P w K mg base x ps k sp:=⟨f,fd,o,W.mg_of Y.X Y.G g.at_,g.F.kp,g.F.binds b⟩
theorem Gm.fm (g:Gm K C x q st f fd) (_:Wh P w K mg base h) (o:zG P w K mg base zY k f fd ps sp) (b:Bn x q st ps:=by intro _ _ _ _ _ _; first | exact L2.Qn λ_=>rfl | exact L2.Wv λ_ _=>rfl | exact L2.Ww λ_ _ _=>rfl | exact L2.Wx λ_ _ _ _=>rfl | exact L2.Qo λ_ _ _ _ _=>rfl | exact L2.Qp λ_ _ _ _ _ _=>rfl | exact L2.Qq λ_ _ _ _ _ _ _=>rfl):vi P w K mg base C x ps k sp:=⟨f,fd,o,⟨g.at_,g.fn,g.F.kp⟩,g.F.binds b⟩
theorem Gm.fc {y:Str} (g:Gm K C "__init__" q st f fd) (_:Wh P w K mg base h) (c:Gc K y C) (o:zG P w K mg base zY k f fd ps sp) (b:Bn "__init__" q st ps:=by intro _ _ _ _ _ _; first | exact L2.Qn λ_=>rfl | exact L2.Wv λ_ _=>rfl | exact L2.Ww λ_ _ _=>rfl | exact L2.Wx λ_ _ _ _=>rfl | exact L2.Qo λ_ _ _ _ _=>rfl | exact L2.Qp λ_ _ _ _ _ _=>rfl | exact L2.Qq λ_ _ _ _ _ _ _=>rfl):uI P w K mg base C ps k sp:=⟨f,fd,o,⟨c.mk_,g.at_,g.fn,c.kc⟩,g.F.binds b⟩
theorem Gd.fn {i:Int} {t:Tok} (g:Gd K x st f fd (.int i t)) (Y:Wh P w K mg base h) (b:∀ (T:Addr) (kV doc pm:Value) (an:Option Addr) (cdv ct:Value) (us:List Value),us.length=ps.length->∃ k:Option (Array Value)->Sem (List (Str × Value)),bindArgs (W.fnOf x x (wR st) (xY st) (zK st) (.ref T) kV doc pm an cdv ct) ⟨us,[]⟩=seqItems? (.ref T) >>= k/\k (some #[.int i t])=pure (ps.zip us))
  (d:∀ (T:Addr) (kV doc pm:Value) (an:Option Addr) (cdv ct:Value) (us:List Value),us.length + 1=ps.length->∃ k:Option (Array Value)->Sem (List (Str × Value)),bindArgs (W.fnOf x x (wR st) (xY st) (zK st) (.ref T) kV doc pm an cdv ct) ⟨us,[]⟩=seqItems? (.ref T) >>= k/\k (some #[.int i t])=pure (ps.zip (us++[.int i t]))) (o:zG P w K mg base zY k f fd ps sp):vh P w K mg base x ps k sp (.int i):=
 ⟨f,fd,_,o,W.mg_of Y.X Y.G g.at_,g.F.kp,g.F.binds b,g.F.binds1 d,⟨_,rfl⟩⟩
theorem Gk.fcd {i:Int} {t:Tok} {y:Str} (g:Gk K C "__init__" q st f fd (.int i t)) (_:Wh P w K mg base h) (c:Gc K y C) (b:∀ (T:Addr) (kV doc pm:Value) (an:Option Addr) (cdv ct:Value) (us:List Value),us.length=ps.length->∃ k:Option (Array Value)->Sem (List (Str × Value)),bindArgs (W.fnOf "__init__" q (wR st) (xY st) (zK st) (.ref T) kV doc pm an cdv ct) ⟨us,[]⟩=seqItems? (.ref T) >>= k/\k (some #[.int i t])=pure (ps.zip us))
  (d:∀ (T:Addr) (kV doc pm:Value) (an:Option Addr) (cdv ct:Value) (us:List Value),us.length + 1=ps.length->∃ k:Option (Array Value)->Sem (List (Str × Value)),bindArgs (W.fnOf "__init__" q (wR st) (xY st) (zK st) (.ref T) kV doc pm an cdv ct) ⟨us,[]⟩=seqItems? (.ref T) >>= k/\k (some #[.int i t])=pure (ps.zip (us++[.int i t]))) (o:zG P w K mg base zY k f fd ps sp):vU P w K mg base C ps k sp (.int i):=
 ⟨f,fd,_,o,⟨c.mk_,g.at_,g.fn,c.kc⟩,g.F.binds b,g.F.binds1 d,⟨_,rfl⟩⟩
end
end L2
namespace K86
open PySem L2 Sh Pu
theorem Qr {F:FL} (h:∀ ds R,¬ F ds R):∀ vs H Q E,¬ zJ F vs H Q E:=λ_ _ _ _ ⟨_,ds,R,_,_,f,_⟩=>h ds R f
abbrev zGe:Stmt:=zp 67
theorem zOO:∀ ds R,¬ qX 0 ds R:=λ_ _ ⟨_,_,_,h,_⟩=>by cases h
theorem qy {l:W.OpenLaw} {w:World} {K:W.Frag} {h:Heap} {mg:Str->Option Value} {fa:Addr} (X:K.In h) (G:h.Ns mainGlobals mg) (hfa:mg "law" = some (.ref fa))
  {ag ah aClaim aSettles aComes aPaper aRooms aFalls:Addr}
  (GMode:Gc K "Mode" ag)
  (GThing:Gc K "Thing" ah)
  (GClaim:Gc K "Claim" aClaim)
  (GSettles:Gc K "Settles" aSettles)
  (GComes:Gc K "Comes" aComes)
  (GPaper:Gc K "Paper" aPaper)
  (GRooms:Gc K "Rooms" aRooms)
  (GFalls:Gc K "Falls" aFalls)
  (cq:W.findIn K (.ref ag) "rows" = some none)
  (cr:W.findIn K (.ref ag) "nexts" = some none)
  (cu:W.findIn K (.ref ag) "steer" = some none)
  (cv:W.findIn K (.ref ag) "push" = some none)
  (cw:W.findIn K (.ref ag) "add" = some none)
  (cx:W.findIn K (.ref ag) "divisor" = some none)
  (cy:W.findIn K (.ref ah) "many" = some none)
  (cz:W.findIn K (.ref ah) "kept_pushes" = some none)
  (cA:W.findIn K (.ref ah) "kept_modes" = some none)
  (n_start_Settles:W.findIn K (.ref aSettles) "start" = some none)
  (n_rows_Settles:W.findIn K (.ref aSettles) "rows" = some none)
  (n_turn_Settles:W.findIn K (.ref aSettles) "turn" = some none)
  (n_start_Comes:W.findIn K (.ref aComes) "start" = some none)
  (n_goal_Comes:W.findIn K (.ref aComes) "goal" = some none)
  (n_turns_Comes:W.findIn K (.ref aComes) "turns" = some none)
  (n_rooms_Rooms:W.findIn K (.ref aRooms) "rooms" = some none)
  (n_back_Rooms:W.findIn K (.ref aRooms) "back" = some none)
  (n_starts_Rooms:W.findIn K (.ref aRooms) "starts" = some none)
  (n_steps_Rooms:W.findIn K (.ref aRooms) "steps" = some none)
  (n_stays_Rooms:W.findIn K (.ref aRooms) "stays" = some none)
  (n_room_Falls:W.findIn K (.ref aFalls) "room" = some none)
  (n_starts_Falls:W.findIn K (.ref aFalls) "starts" = some none)
  (n_steps_Falls:W.findIn K (.ref aFalls) "steps" = some none)
  (n_measure_Falls:W.findIn K (.ref aFalls) "measure" = some none)
  (n_step_Falls:W.findIn K (.ref aFalls) "step" = some none)
  (n_top_Falls:W.findIn K (.ref aFalls) "top" = some none)
  (n_falls_Falls:W.findIn K (.ref aFalls) "falls" = some none)
  (n_floors_Falls:W.findIn K (.ref aFalls) "floors" = some none)
  (n_tops_Falls:W.findIn K (.ref aFalls) "tops" = some none)
  (z0:W.nsIn K mainGlobals "isinstance" = some none)
  (z1:W.nsIn K mainGlobals "int" = some none)
  (z2:W.nsIn K mainGlobals "bool" = some none)
  (z3:W.nsIn K mainGlobals "tuple" = some none)
  (z4:W.nsIn K mainGlobals "len" = some none)
  (z5:W.nsIn K mainGlobals "all" = some none)
  (z6:W.nsIn K mainGlobals "list" = some none)
  (z7:W.nsIn K mainGlobals "range" = some none)
  (z8:W.nsIn K mainGlobals "zip" = some none)
  (z9:W.nsIn K mainGlobals "sum" = some none)
  (z10:W.nsIn K mainGlobals "max" = some none)
  (z11:W.nsIn K mainGlobals "enumerate" = some none)
  (z12:W.nsIn K mainGlobals "min" = some none)
  {gt0:Tok} (cst0:W.nsIn K mainGlobals "MOST_NUMBERS" = some (some (.int 3 gt0)))
  {gt1:Tok} (cst1:W.nsIn K mainGlobals "MOST_PUSHES" = some (some (.int 6 gt1)))
  {gt2:Tok} (cst2:W.nsIn K mainGlobals "MOST_MODES" = some (some (.int 40 gt2)))
  : Ge K "is_whole" JZ->Ge K "is_numbers" X6->Ge K "is_table" X7->Gi K "copied" YS 5->Gi K "unit" X8 1->Ge K "scaled" X9->Ge K "paired" WA->Ge K "added_up" WB->Ge K "is_row" WC->Ge K "is_room" WD->Ge K "single" Ja->Gn K ag "__init__" "Mode.__init__" Jf->Ge K "is_push" Jg->Ge K "is_mode" Jh->Ge K "is_sound" YV->Gn K ah "__init__" "Thing.__init__" Ji->Gn K ah "pushes" "Thing.pushes" Jj->Gn K ah "modes" "Thing.modes" Jk->Ge K "is_unsteered" WI->Gn K ah "is_closed" "Thing.is_closed" WJ->Ge K "ask_closed" Jl->Ge K "standing" Yc->Ge K "reach" Jr->Ge K "added" Jt->Ge K "is_from_0_on" Ju->Ge K "are_shares" WN->Ge K "shows" WO->Ge K "is_list_of" Jw->Ge K "each_shown" WP->Ge K "mode_leads" WQ->Ge K "leads" WR->Gj K aSettles "__init__" "Settles.__init__" Jy 0->Gn K aRooms "__init__" "Rooms.__init__" Jz->Ge K "settles_over" J2->Ge K "are_rooms" WT->Ge K "rooms_follow" WU->Ge K "rooms_stay" WV->Ge K "lets_rooms_by" J5->Ge K "lets_fall_by" zGe->Ge K "lets_by" J7->Ge K "product" WX->Ge K "turned_row" QD->Ge K "turned_mode" gl->Ge K "is_turn" WY->Ge K "turned" WZ->Ge K "_law_cell_at" QG->Ge K "_law_stream" QH->Ge K "_law_number" QI->Ge K "_law_box" QJ->Ge K "_law_rows" Yl->Ge K "_law_both" QL->Ge K "_law_made" Ym->Ge K "_law_top" QM->Ge K "_law_mode" ql->Ge K "_law_thing" QN->Ge K "_law_beyond" Wj->Ge K "_law_hull" Wl->Ge K "_law_image" gp->Ge K "_law_kept" QO->Ge K "_law_boxes" QR->Ge K "_law_claim_rows" Ys->Ge K "_law_step_shares" gr->Ge K "_law_box_starts" QT->Ge K "_law_box_steps" Wn->Ge K "_law_parts" qv->Ge K "_law_other" QY->Ge K "_law_changed" QZ->Ge K "_law_turned_row" Ws->Ge K "_law_turned_room" Wt->Ge K "_law_turning" gw->Ge K "_law_spoilt" Qk->Ge K "_law_told" Ql->Ge K "law" jO->∃ fd:FuncData,(∀ (s:Shared) (v:Value),BindsTo s fd ⟨[v],[]⟩ [("_law_script",v)])/\∀ base:Heap,K.In base->base.Ns mainGlobals mg->zG l.prog w K mg base zY 12 fa fd ["_law_script"] (zJ jN):=by
 rintro ⟨_,_,G0⟩ ⟨_,_,G1⟩ ⟨_,_,G2⟩ ⟨_,_,_,G3⟩ ⟨_,_,_,G4⟩ ⟨_,_,G5⟩ ⟨_,_,G6⟩ ⟨_,_,G7⟩ ⟨_,_,G8⟩ ⟨_,_,G9⟩ ⟨_,_,G10⟩ ⟨_,_,G11⟩ ⟨_,_,G12⟩ ⟨_,_,G13⟩ ⟨_,_,G14⟩ ⟨_,_,G15⟩ ⟨_,_,G16⟩ ⟨_,_,G17⟩ ⟨_,_,G18⟩ ⟨_,_,G19⟩ ⟨_,_,G20⟩ ⟨_,_,G21⟩ ⟨_,_,G22⟩ ⟨_,_,G23⟩ ⟨_,_,G24⟩ ⟨_,_,G25⟩ ⟨_,_,G26⟩ ⟨_,_,G27⟩ ⟨_,_,G28⟩ ⟨_,_,G29⟩ ⟨_,_,G30⟩ ⟨_,_,_,G31⟩ ⟨_,_,G32⟩ ⟨_,_,G33⟩ ⟨_,_,G34⟩ ⟨_,_,G35⟩ ⟨_,_,G36⟩ ⟨_,_,G37⟩ ⟨_,_,G38⟩ ⟨_,_,G39⟩ ⟨_,_,G40⟩ ⟨_,_,G41⟩ ⟨_,_,G42⟩ ⟨_,_,G43⟩ ⟨_,_,G44⟩ ⟨_,_,G45⟩ ⟨_,_,G46⟩ ⟨_,_,G47⟩ ⟨_,_,G48⟩ ⟨_,_,G49⟩ ⟨_,_,G50⟩ ⟨_,_,G51⟩ ⟨_,_,G52⟩ ⟨_,_,G53⟩ ⟨_,_,G54⟩ ⟨_,_,G55⟩ ⟨_,_,G56⟩ ⟨_,_,G57⟩ ⟨_,_,G58⟩ ⟨_,_,G59⟩ ⟨_,_,G60⟩ ⟨_,_,G61⟩ ⟨_,_,G62⟩ ⟨_,_,G63⟩ ⟨_,_,G64⟩ ⟨_,_,G65⟩ ⟨_,_,G66⟩ ⟨_,_,G67⟩ ⟨_,_,G68⟩ ⟨_,_,G69⟩ ⟨_,_,G70⟩ ⟨_,_,G71⟩ ⟨_,_,G72⟩
 have e:=hfa.symm.trans (W.mg_of X G G72.at_)
 cases e
 have B:Bl mg:=⟨W.mg_none_of X G z0,W.mg_none_of X G z1,W.mg_none_of X G z2,W.mg_none_of X G z3,W.mg_none_of X G z4,W.mg_none_of X G z5,W.mg_none_of X G z6,W.mg_none_of X G z7,W.mg_none_of X G z8,W.mg_none_of X G z9,W.mg_none_of X G z10,W.mg_none_of X G z11,W.mg_none_of X G z12,⟨_,W.mg_of X G cst0⟩,⟨_,W.mg_of X G cst1⟩,⟨_,W.mg_of X G cst2⟩⟩
 have aa:=GMode.cls X G
 have ab:wz K ag:=⟨cq,cr,cu,cv,cw,cx⟩
 have ac:=GThing.cls X G
 have ae:w4 K ah:=⟨cy,cz,cA⟩
 have TClaim:=GClaim.cls X G
 have AClaim:w6 K aClaim:=⟨True.intro⟩
 have TSettles:=GSettles.cls X G
 have ASettles:w8 K aSettles:=⟨n_start_Settles,n_rows_Settles,n_turn_Settles⟩
 have TComes:=GComes.cls X G
 have AComes:vA K aComes:=⟨n_start_Comes,n_goal_Comes,n_turns_Comes⟩
 have TPaper:=GPaper.cls X G
 have APaper:vB K aPaper:=⟨True.intro⟩
 have TRooms:=GRooms.cls X G
 have ARooms:vC K aRooms:=⟨n_rooms_Rooms,n_back_Rooms,n_starts_Rooms,n_steps_Rooms,n_stays_Rooms⟩
 have TFalls:=GFalls.cls X G
 have AFalls:vD K aFalls:=⟨n_room_Falls,n_starts_Falls,n_steps_Falls,n_measure_Falls,n_step_Falls,n_top_Falls,n_falls_Falls,n_floors_Falls,n_tops_Falls⟩
 obtain ⟨_,_,kV,dc,pm,an,cd,ct,_,rfl,_⟩:=G72.F.ex
 refine ⟨W.fnOf "law" "law" (wR jO) (xY jO) (zK jO) .none kV dc pm an cd ct,λs v=>.of_eq rfl,λbase _ _=>?_⟩
 have Yw:Wh l.prog w K mg base h:=⟨X,G⟩
 have N0:=G0.fn Yw (zI9 (k:=0) aa ab ac ae TClaim AClaim TSettles ASettles TComes AComes TPaper APaper TRooms ARooms TFalls AFalls G0.F B )
 have N1:=G1.fn Yw (zHe (k:=1) aa ab ac ae TClaim AClaim TSettles ASettles TComes AComes TPaper APaper TRooms ARooms TFalls AFalls G1.F B N0.mono)
 have N2:=G2.fn Yw (zJA (k:=2) aa ab ac ae TClaim AClaim TSettles ASettles TComes AComes TPaper APaper TRooms ARooms TFalls AFalls G2.F B N1.mono)
 have D3:=λ{k sp}=>G3.fn (ps:=["value","depth"]) (k:=k) (sp:=sp) Yw (λ_ _ _ _ _ _ _=>L2.Wv λ_ _=>⟨_,rfl,rfl⟩) λ_ _ _ _ _ _ _ us hl=>match us,hl with | [_],_=>⟨_,rfl,rfl⟩
 have N3_0:=D3 (zG.no (k:=1) (sp:=(zJ (qX 0))) (Qr zOO))
 have N3_1:=D3 (gX (k:=1) (j:=0) aa ab ac ae TClaim AClaim TSettles ASettles TComes AComes TPaper APaper TRooms ARooms TFalls AFalls G3.F B N3_0.mono)
 have N3_2:=D3 (gX (k:=2) (j:=1) aa ab ac ae TClaim AClaim TSettles ASettles TComes AComes TPaper APaper TRooms ARooms TFalls AFalls G3.F B N3_1.mono)
 have N3_3:=D3 (gX (k:=3) (j:=2) aa ab ac ae TClaim AClaim TSettles ASettles TComes AComes TPaper APaper TRooms ARooms TFalls AFalls G3.F B N3_2.mono)
 have N3_4:=D3 (gX (k:=4) (j:=3) aa ab ac ae TClaim AClaim TSettles ASettles TComes AComes TPaper APaper TRooms ARooms TFalls AFalls G3.F B N3_3.mono)
 have N3_5:=D3 (gX (k:=5) (j:=4) aa ab ac ae TClaim AClaim TSettles ASettles TComes AComes TPaper APaper TRooms ARooms TFalls AFalls G3.F B N3_4.mono)
 have N3_6:=D3 (gX (k:=6) (j:=5) aa ab ac ae TClaim AClaim TSettles ASettles TComes AComes TPaper APaper TRooms ARooms TFalls AFalls G3.F B N3_5.mono)
 have N3:=N3_6
 have D4:=λ{k sp}=>G4.fn (ps:=["place","wide","number"]) (k:=k) (sp:=sp) Yw (λ_ _ _ _ _ _ _=>L2.Ww λ_ _ _=>⟨_,rfl,rfl⟩) λ_ _ _ _ _ _ _ us hl=>match us,hl with | [_,_],_=>⟨_,rfl,rfl⟩
 have N4:=D4 (zPl (k:=0) aa ab ac ae TClaim AClaim TSettles ASettles TComes AComes TPaper APaper TRooms ARooms TFalls AFalls G4.F B )
 have N5:=G5.fn Yw (zL9 (k:=0) aa ab ac ae TClaim AClaim TSettles ASettles TComes AComes TPaper APaper TRooms ARooms TFalls AFalls G5.F B )
 have N6:=G6.fn Yw (zMA (k:=0) aa ab ac ae TClaim AClaim TSettles ASettles TComes AComes TPaper APaper TRooms ARooms TFalls AFalls G6.F B )
 have N7:=G7.fn Yw (zJC (k:=0) aa ab ac ae TClaim AClaim TSettles ASettles TComes AComes TPaper APaper TRooms ARooms TFalls AFalls G7.F B )
 have N8:=G8.fn Yw (zMI (k:=1) aa ab ac ae TClaim AClaim TSettles ASettles TComes AComes TPaper APaper TRooms ARooms TFalls AFalls G8.F B N0.mono)
 have N9:=G9.fn Yw (zKv (k:=2) aa ab ac ae TClaim AClaim TSettles ASettles TComes AComes TPaper APaper TRooms ARooms TFalls AFalls G9.F B N8.mono)
 have N10:=G10.fn Yw (zL8 (k:=1) aa ab ac ae TClaim AClaim TSettles ASettles TComes AComes TPaper APaper TRooms ARooms TFalls AFalls G10.F B N4.mono)
 have N11:=G11.fc Yw GMode (zFa (k:=7) aa ab ac ae TClaim AClaim TSettles ASettles TComes AComes TPaper APaper TRooms ARooms TFalls AFalls G11.F B N3.mono)
 have N12:=G12.fn Yw (zKw (k:=1) aa ab ac ae TClaim AClaim TSettles ASettles TComes AComes TPaper APaper TRooms ARooms TFalls AFalls G12.F B N0.mono)
 have N13:=G13.fn Yw (zKx (k:=3) aa ab ac ae TClaim AClaim TSettles ASettles TComes AComes TPaper APaper TRooms ARooms TFalls AFalls G13.F B N9.mono N2.mono N1.mono N0.mono)
 have N14:=G14.fn Yw (zJB (k:=4) aa ab ac ae TClaim AClaim TSettles ASettles TComes AComes TPaper APaper TRooms ARooms TFalls AFalls G14.F B N0.mono N12.mono N13.mono)
 have N15:=G15.fc Yw GThing (zE3 (k:=5) aa ab ac ae TClaim AClaim TSettles ASettles TComes AComes TPaper APaper TRooms ARooms TFalls AFalls G15.F B N14.mono)
 have N16:=G16.fm Yw (zGD (k:=0) aa ab ac ae TClaim AClaim TSettles ASettles TComes AComes TPaper APaper TRooms ARooms TFalls AFalls G16.F B )
 have N17:=G17.fm Yw (zGh (k:=0) aa ab ac ae TClaim AClaim TSettles ASettles TComes AComes TPaper APaper TRooms ARooms TFalls AFalls G17.F B )
 have N18:=G18.fn Yw (zGB (k:=0) aa ab ac ae TClaim AClaim TSettles ASettles TComes AComes TPaper APaper TRooms ARooms TFalls AFalls G18.F B )
 have N19:=G19.fm Yw (zEi (k:=1) aa ab ac ae TClaim AClaim TSettles ASettles TComes AComes TPaper APaper TRooms ARooms TFalls AFalls G19.F B N18.mono)
 have N20:=G20.fn Yw (zHh (k:=2) aa ab ac ae TClaim AClaim TSettles ASettles TComes AComes TPaper APaper TRooms ARooms TFalls AFalls G20.F B N19.mono)
 have N21:=G21.fn Yw (zI4 (k:=2) aa ab ac ae TClaim AClaim TSettles ASettles TComes AComes TPaper APaper TRooms ARooms TFalls AFalls G21.F B N16.mono N10.mono)
 have N22:=G22.fn Yw (zN1 (k:=1) aa ab ac ae TClaim AClaim TSettles ASettles TComes AComes TPaper APaper TRooms ARooms TFalls AFalls G22.F B N7.mono N16.mono N6.mono)
 have N23:=G23.fn Yw (zN5 (k:=1) aa ab ac ae TClaim AClaim TSettles ASettles TComes AComes TPaper APaper TRooms ARooms TFalls AFalls G23.F B N7.mono)
 have N24:=G24.fn Yw (zGC (k:=1) aa ab ac ae TClaim AClaim TSettles ASettles TComes AComes TPaper APaper TRooms ARooms TFalls AFalls G24.F B N0.mono)
 have N25:=G25.fn Yw (zHi (k:=2) aa ab ac ae TClaim AClaim TSettles ASettles TComes AComes TPaper APaper TRooms ARooms TFalls AFalls G25.F B N24.mono)
 have N26:=G26.fn Yw (zN0 (k:=3) aa ab ac ae TClaim AClaim TSettles ASettles TComes AComes TPaper APaper TRooms ARooms TFalls AFalls G26.F B N25.mono N23.mono N5.mono)
 have N27:=G27.fn Yw (zHf (k:=0) aa ab ac ae TClaim AClaim TSettles ASettles TComes AComes TPaper APaper TRooms ARooms TFalls AFalls G27.F B )
 have N28:=G28.fn Yw (zHg (k:=4) aa ab ac ae TClaim AClaim TSettles ASettles TComes AComes TPaper APaper TRooms ARooms TFalls AFalls G28.F B N27.mono N26.mono)
 have N29:=G29.fn Yw (zHd (k:=5) aa ab ac ae TClaim AClaim TSettles ASettles TComes AComes TPaper APaper TRooms ARooms TFalls AFalls G29.F B N28.mono N22.mono N21.mono)
 have N30:=G30.fn Yw (zN2 (k:=6) aa ab ac ae TClaim AClaim TSettles ASettles TComes AComes TPaper APaper TRooms ARooms TFalls AFalls G30.F B N17.mono N27.mono N29.mono)
 have N31:=G31.fcd (ps:=["self","start","rows","turn"]) Yw GSettles (λ_ _ _ _ _ _ _=>L2.Wx λ_ _ _ _=>⟨_,rfl,rfl⟩) (λ_ _ _ _ _ _ _ us hl=>match us,hl with | [_,_,_],_=>⟨_,rfl,rfl⟩) (zEE (k:=7) aa ab ac ae TClaim AClaim TSettles ASettles TComes AComes TPaper APaper TRooms ARooms TFalls AFalls G31.F B N3.mono)
 have N32:=G32.fc Yw GRooms (zE4 (k:=7) aa ab ac ae TClaim AClaim TSettles ASettles TComes AComes TPaper APaper TRooms ARooms TFalls AFalls G32.F B N3.mono)
 have N33:=G33.fn Yw (zF6 (k:=3) aa ab ac ae TClaim AClaim TSettles ASettles TComes AComes TPaper APaper TRooms ARooms TFalls AFalls G33.F B N24.mono N9.mono)
 have N34:=G34.fn Yw (zIQ (k:=3) aa ab ac ae TClaim AClaim TSettles ASettles TComes AComes TPaper APaper TRooms ARooms TFalls AFalls G34.F B N9.mono)
 have N35:=G35.fn Yw (zF7 (k:=7) aa ab ac ae TClaim AClaim TSettles ASettles TComes AComes TPaper APaper TRooms ARooms TFalls AFalls G35.F B N27.mono N30.mono)
 have N36:=G36.fn Yw (zHc (k:=5) aa ab ac ae TClaim AClaim TSettles ASettles TComes AComes TPaper APaper TRooms ARooms TFalls AFalls G36.F B N27.mono N28.mono)
 have N37:=G37.fn Yw (zFX (k:=8) aa ab ac ae TClaim AClaim TSettles ASettles TComes AComes TPaper APaper TRooms ARooms TFalls AFalls G37.F B N34.mono N33.mono N24.mono N28.mono N36.mono N35.mono)
 have N38_0:=G38.fn (ps:=["thing","claim","paper"]) Yw (zG.no (k:=1) (sp:=(zJ fNo)) (Qr λ_ _ h=>h))
 have N38:=N38_0
 have N39:=G39.fn Yw (zKo (k:=9) aa ab ac ae TClaim AClaim TSettles ASettles TComes AComes TPaper APaper TRooms ARooms TFalls AFalls G39.F B N20.mono N37.mono N38.mono)
 have N40:=G40.fn Yw (zKn (k:=1) aa ab ac ae TClaim AClaim TSettles ASettles TComes AComes TPaper APaper TRooms ARooms TFalls AFalls G40.F B N7.mono)
 have N41:=G41.fn Yw (zHb (k:=1) aa ab ac ae TClaim AClaim TSettles ASettles TComes AComes TPaper APaper TRooms ARooms TFalls AFalls G41.F B N7.mono)
 have N42:=G42.fn Yw (zGf (k:=8) aa ab ac ae TClaim AClaim TSettles ASettles TComes AComes TPaper APaper TRooms ARooms TFalls AFalls G42.F B N11.mono N6.mono N40.mono N41.mono)
 have N43:=G43.fn Yw (zKu (k:=3) aa ab ac ae TClaim AClaim TSettles ASettles TComes AComes TPaper APaper TRooms ARooms TFalls AFalls G43.F B N2.mono N40.mono N4.mono)
 have N44:=G44.fn Yw (zL7 (k:=9) aa ab ac ae TClaim AClaim TSettles ASettles TComes AComes TPaper APaper TRooms ARooms TFalls AFalls G44.F B N43.mono N17.mono N42.mono N16.mono N15.mono)
 have N45:=G45.fn Yw (zIP (k:=0) aa ab ac ae TClaim AClaim TSettles ASettles TComes AComes TPaper APaper TRooms ARooms TFalls AFalls G45.F B )
 have N46:=G46.fn Yw (zI5 (k:=0) aa ab ac ae TClaim AClaim TSettles ASettles TComes AComes TPaper APaper TRooms ARooms TFalls AFalls G46.F B )
 have N47:=G47.fn Yw (zI7 (k:=0) aa ab ac ae TClaim AClaim TSettles ASettles TComes AComes TPaper APaper TRooms ARooms TFalls AFalls G47.F B )
 have N48:=G48.fn Yw (zN4 (k:=1) aa ab ac ae TClaim AClaim TSettles ASettles TComes AComes TPaper APaper TRooms ARooms TFalls AFalls G48.F B N46.mono N47.mono)
 have N49:=G49.fn Yw (zMC (k:=0) aa ab ac ae TClaim AClaim TSettles ASettles TComes AComes TPaper APaper TRooms ARooms TFalls AFalls G49.F B )
 have N50:=G50.fn Yw (zMH (k:=0) aa ab ac ae TClaim AClaim TSettles ASettles TComes AComes TPaper APaper TRooms ARooms TFalls AFalls G50.F B )
 have N51:=G51.fn Yw (zME (k:=8) aa ab ac ae TClaim AClaim TSettles ASettles TComes AComes TPaper APaper TRooms ARooms TFalls AFalls G51.F B N11.mono N15.mono)
 have N52:=G52.fn Yw (zN3 (k:=0) aa ab ac ae TClaim AClaim TSettles ASettles TComes AComes TPaper APaper TRooms ARooms TFalls AFalls G52.F B )
 have N53:=G53.fn Yw (zMD (k:=1) aa ab ac ae TClaim AClaim TSettles ASettles TComes AComes TPaper APaper TRooms ARooms TFalls AFalls G53.F B N46.mono N47.mono)
 have N54:=G54.fn Yw (zKp (k:=2) aa ab ac ae TClaim AClaim TSettles ASettles TComes AComes TPaper APaper TRooms ARooms TFalls AFalls G54.F B N45.mono N53.mono)
 have N55:=G55.fn Yw (zI8 (k:=1) aa ab ac ae TClaim AClaim TSettles ASettles TComes AComes TPaper APaper TRooms ARooms TFalls AFalls G55.F B N52.mono)
 have N56:=G56.fn Yw (zMG (k:=0) aa ab ac ae TClaim AClaim TSettles ASettles TComes AComes TPaper APaper TRooms ARooms TFalls AFalls G56.F B )
 have N57:=G57.fn Yw (zKs (k:=2) aa ab ac ae TClaim AClaim TSettles ASettles TComes AComes TPaper APaper TRooms ARooms TFalls AFalls G57.F B N55.mono N52.mono)
 have N58:=G58.fn Yw (zMF (k:=3) aa ab ac ae TClaim AClaim TSettles ASettles TComes AComes TPaper APaper TRooms ARooms TFalls AFalls G58.F B N56.mono N57.mono)
 have N59:=G59.fn Yw (zKt (k:=4) aa ab ac ae TClaim AClaim TSettles ASettles TComes AComes TPaper APaper TRooms ARooms TFalls AFalls G59.F B N46.mono N48.mono N58.mono N57.mono)
 have N60:=G60.fn Yw (zF9 (k:=1) aa ab ac ae TClaim AClaim TSettles ASettles TComes AComes TPaper APaper TRooms ARooms TFalls AFalls G60.F B N46.mono N47.mono N52.mono)
 have N61:=G61.fn Yw (zFZ (k:=2) aa ab ac ae TClaim AClaim TSettles ASettles TComes AComes TPaper APaper TRooms ARooms TFalls AFalls G61.F B N55.mono N50.mono)
 have N62:=G62.fn Yw (zGA (k:=1) aa ab ac ae TClaim AClaim TSettles ASettles TComes AComes TPaper APaper TRooms ARooms TFalls AFalls G62.F B N49.mono N50.mono)
 have N63:=G63.fn Yw (zGg (k:=3) aa ab ac ae TClaim AClaim TSettles ASettles TComes AComes TPaper APaper TRooms ARooms TFalls AFalls G63.F B N49.mono N61.mono)
 have N64:=G64.fn Yw (zKq (k:=5) aa ab ac ae TClaim AClaim TSettles ASettles TComes AComes TPaper APaper TRooms ARooms TFalls AFalls G64.F B N46.mono N59.mono N60.mono N63.mono N50.mono N49.mono N62.mono)
 have N65:=G65.fn Yw (zKr (k:=0) aa ab ac ae TClaim AClaim TSettles ASettles TComes AComes TPaper APaper TRooms ARooms TFalls AFalls G65.F B )
 have N66_0:=G66.fn (ps:=["_law_some","_law_cell"]) Yw (zG.no (k:=1) (sp:=(zJ (jM 0))) (Qr λ_ _ h=>h))
 have N66_1:=G66.fn Yw (Qb (k:=1) (j:=0) aa ab ac ae TClaim AClaim TSettles ASettles TComes AComes TPaper APaper TRooms ARooms TFalls AFalls G66.F B N65.mono N66_0.mono)
 have N66_2:=G66.fn Yw (Qb (k:=2) (j:=1) aa ab ac ae TClaim AClaim TSettles ASettles TComes AComes TPaper APaper TRooms ARooms TFalls AFalls G66.F B N65.mono N66_1.mono)
 have N66_3:=G66.fn Yw (Qb (k:=3) (j:=2) aa ab ac ae TClaim AClaim TSettles ASettles TComes AComes TPaper APaper TRooms ARooms TFalls AFalls G66.F B N65.mono N66_2.mono)
 have N66:=N66_3
 have N67:=G67.fn Yw (zF8 (k:=0) aa ab ac ae TClaim AClaim TSettles ASettles TComes AComes TPaper APaper TRooms ARooms TFalls AFalls G67.F B )
 have N68:=G68.fn Yw (zFY (k:=1) aa ab ac ae TClaim AClaim TSettles ASettles TComes AComes TPaper APaper TRooms ARooms TFalls AFalls G68.F B N67.mono)
 have N69:=G69.fn Yw (zIO (k:=1) aa ab ac ae TClaim AClaim TSettles ASettles TComes AComes TPaper APaper TRooms ARooms TFalls AFalls G69.F B N46.mono N47.mono)
 have N70:=G70.fn Yw (zI6 (k:=4) aa ab ac ae TClaim AClaim TSettles ASettles TComes AComes TPaper APaper TRooms ARooms TFalls AFalls G70.F B N66.mono)
 have N71:=G71.fn Yw (zMB (k:=1) aa ab ac ae TClaim AClaim TSettles ASettles TComes AComes TPaper APaper TRooms ARooms TFalls AFalls G71.F B N17.mono N16.mono)
 exact zRA (k:=10) aa ab ac ae TClaim AClaim TSettles ASettles TComes AComes TPaper APaper TRooms ARooms TFalls AFalls G72.F B N54.mono N51.mono N64.mono N45.mono N70.mono N69.mono N44.mono N39.mono N32.mono N31.mono N49.mono N68.mono N71.mono
def zMN (o:Obj):Bool:=match o.cls with
 | .type t=>!(t == "list")
 | _=>true
theorem qz {K:PySem.W.Frag} (h:K.all (λp=>zMN p.2)=true) (a:Addr) (o:Obj) (e:K.lookup a=some o):o.cls≠.type "list":=λz=>by
 have m:∃ b,(b,o)∈K:=by
  clear h
  induction K with
  | nil=>cases e
  | cons p K ih=>
   obtain ⟨b,o'⟩:=p
   rw [List.lookup_cons] at e
   cases q:a == b with
   | true=>rw [q] at e; cases e; exact ⟨b,List.mem_cons_self⟩
   | false=>rw [q] at e; obtain ⟨c,hc⟩:=ih e; exact ⟨c,List.mem_cons_of_mem _ hc⟩
 obtain ⟨b,hb⟩:=m
 have:=List.all_eq_true.mp h _ hb
 unfold zMN at this
 rw [z] at this
 exact absurd this (by decide)
theorem Qs {l:PySem.W.OpenLaw} {q:Program} {loose:List Str} {XP:(Str->Option Value)->Heap->Prop} {YP:World->Heap->Prop} {d:DefRec} {K:Params->PySem.W.Frag} (hn:l.most=some 63) (hdf:d.params.defaults=[])
  (hY:∀ (w:World) (h:Heap),YP w h->(K w.params).In h)
  (hL:∀ (p:Params) (a:Addr) (o:Obj),(K p).lookup a=some o->o.cls≠.type "list")
  (F:∀ (w:World) (mg:Str->Option Value) (fa:Addr) (h:Heap),(K w.params).In h->h.Ns mainGlobals mg->mg d.name=some (.ref fa)->
   ∃ fd:FuncData,(∀ (s:Shared) (u:Value),BindsTo s fd ⟨[u],[]⟩ [("_law_script",u)])/\∀ base:Heap,(K w.params).In base->base.Ns mainGlobals mg->zG l.prog w (K w.params) mg base zY 12 fa fd ["_law_script"] (zJ jN)) :
  PySem.W.WalkO q loose XP YP l.row.toRowW d [] (λf vs=>PySem.call f vs):=
 L2.zPB (n:=63) (k:=12) (x:="_law_script") (CX:=λ_=>zY) (sp:=λ_=>zJ jN) hn (by decide) hdf ⟨rfl,by decide,by decide⟩ hY F (λw H a ns _ _ hS=>⟨λ_=>False,[.scr ns],λd=>d=.bool true,λ_ z=>z.elim,.cons (.scr (Xg (λb o e=>(xy (λz=>z)).trans e) (hS.elim id λ⟨o,_,_,h1,h2,_⟩=>absurd h2 (hL w.params a o h1)))) .nil,⟨ns,rfl,rfl⟩,λd v H2 e _ h=>by subst e; cases h; rfl⟩) λ_ _ _ _ _ z=>z
end K86
open PySem PySem.W PyProof.Rows
set_option maxRecDepth 100000 in
set_option maxHeartbeats 0 in
theorem PySem.Challenge.cw_steadyhand_k86_whole_papers_of_rooms_tur_holds : PySem.Challenge.rw_steadyhand_k86_whole_papers_of_rooms_tur.Holds := by
 w_on; o_law
 refine holds_open (q:=H86.vw) (loose:=H86.lo) (Xt:=H86.xt) (XP:=XL H86.vw []) (Yf:=(kHook H86.KK H86.ks H86.ke).obs) (Ya:=(kHook H86.KK H86.ks H86.ke).val) (YP:=(kHook H86.KK H86.ks H86.ke).says) H86.left
  (kHook H86.KK H86.ks H86.ke).of (kHook H86.KK H86.ks H86.ke).keeps
  (λs e=>xl_of s (Bool.and_eq_true_iff.mp e).1) XL.keeps (by rfl) (by rfl) (by rfl)
  (λs e=>recFacts_of (Bool.and_eq_true_iff.mp e).2) (by rfl) (by assumption) (by decide +kernel)
  ⟨rfl,rfl,rfl,rfl,rfl,by decide +kernel⟩ ?hw ?hc
 case hw=>w_witness2
 rename_i sd
 clear sd
 k_fill
 refine K86.Qs (l:=PySem.Challenge.rw_steadyhand_k86_whole_papers_of_rooms_tur) rfl rfl (λw h Y=>PySem.W.kIn_of Y) (λp a o=>K86.qz (K:=H86.KK p) (by kernel_rfl) a o) ?F
 case F=>
  intro w mg fa h KX G hmg
  refine' K86.qy KX G hmg ?g_Mode ?g_Thing ?g_Claim ?g_Settles ?g_Comes ?g_Paper ?g_Rooms ?g_Falls ?_ ?_ ?_ ?_ ?_ ?_ ?_ ?_ ?_ ?_ ?_ ?_ ?_ ?_ ?_ ?_ ?_ ?_ ?_ ?_ ?_ ?_ ?_ ?_ ?_ ?_ ?_ ?_ ?_ ?_ ?_ ?_ ?_ ?_ ?_ ?_ ?_ ?_ ?_ ?_ ?_ ?_ ?_ ?_ ?_ ?_ ?_ ?_ ?_ ?_ ?_ ?_ ?_ ?_ ?_ ?_ ?_ ?_ ?_ ?_ ?_ ?_ ?_ ?_ ?_ ?_ ?_ ?_ ?_ ?_ ?_ ?_ ?_ ?_ ?_ ?_ ?_ ?_ ?_ ?_ ?_ ?_ ?_ ?_ ?_ ?_ ?_ ?_ ?_ ?_ ?_ ?_ ?_ ?_ ?_ ?_ ?_ ?_ ?_ ?_ ?_ ?_ ?_ ?_ ?_ ?_ ?_ ?_ ?_ ?_ ?_ ?_ ?_ ?_ ?_ ?_ ?_ ?_
  (case g_Mode=>refine' L2.Gc.mk ?a ?b ?c ?d ?e ?f ?g ?h ?i ?j ?k; (case a=>k_is); (case b=>k_is); (case c=>k_is); (case d=>k_is); (case e=>k_is); (case f=>k_is); (case g=>k_is); (case h=>k_is); (case i=>k_is); (case j=>k_is); (case k=>k_is))
  (case g_Thing=>refine' L2.Gc.mk ?a ?b ?c ?d ?e ?f ?g ?h ?i ?j ?k; (case a=>k_is); (case b=>k_is); (case c=>k_is); (case d=>k_is); (case e=>k_is); (case f=>k_is); (case g=>k_is); (case h=>k_is); (case i=>k_is); (case j=>k_is); (case k=>k_is))
  (case g_Claim=>refine' L2.Gc.mk ?a ?b ?c ?d ?e ?f ?g ?h ?i ?j ?k; (case a=>k_is); (case b=>k_is); (case c=>k_is); (case d=>k_is); (case e=>k_is); (case f=>k_is); (case g=>k_is); (case h=>k_is); (case i=>k_is); (case j=>k_is); (case k=>k_is))
  (case g_Settles=>refine' L2.Gc.mk ?a ?b ?c ?d ?e ?f ?g ?h ?i ?j ?k; (case a=>k_is); (case b=>k_is); (case c=>k_is); (case d=>k_is); (case e=>k_is); (case f=>k_is); (case g=>k_is); (case h=>k_is); (case i=>k_is); (case j=>k_is); (case k=>k_is))
  (case g_Comes=>refine' L2.Gc.mk ?a ?b ?c ?d ?e ?f ?g ?h ?i ?j ?k; (case a=>k_is); (case b=>k_is); (case c=>k_is); (case d=>k_is); (case e=>k_is); (case f=>k_is); (case g=>k_is); (case h=>k_is); (case i=>k_is); (case j=>k_is); (case k=>k_is))
  (case g_Paper=>refine' L2.Gc.mk ?a ?b ?c ?d ?e ?f ?g ?h ?i ?j ?k; (case a=>k_is); (case b=>k_is); (case c=>k_is); (case d=>k_is); (case e=>k_is); (case f=>k_is); (case g=>k_is); (case h=>k_is); (case i=>k_is); (case j=>k_is); (case k=>k_is))
  (case g_Rooms=>refine' L2.Gc.mk ?a ?b ?c ?d ?e ?f ?g ?h ?i ?j ?k; (case a=>k_is); (case b=>k_is); (case c=>k_is); (case d=>k_is); (case e=>k_is); (case f=>k_is); (case g=>k_is); (case h=>k_is); (case i=>k_is); (case j=>k_is); (case k=>k_is))
  (case g_Falls=>refine' L2.Gc.mk ?a ?b ?c ?d ?e ?f ?g ?h ?i ?j ?k; (case a=>k_is); (case b=>k_is); (case c=>k_is); (case d=>k_is); (case e=>k_is); (case f=>k_is); (case g=>k_is); (case h=>k_is); (case i=>k_is); (case j=>k_is); (case k=>k_is))
  any_goals first | (refine' L2.Gc.mk ?a ?b ?c ?d ?e ?f ?g ?h ?i ?j ?k; (case a=>k_is); (case b=>k_is); (case c=>k_is); (case d=>k_is); (case e=>k_is); (case f=>k_is); (case g=>k_is); (case h=>k_is); (case i=>k_is); (case j=>k_is); (case k=>k_is)) | (refine' L2.Y2 ?a ?l ?c ?k; (case a=>k_is); (case l=>k_is); (case c=>k_is); (case k=>k_is)) | (refine' L2.Y3 ?a ?i ?l ?c ?k; (case a=>k_is); (case i=>k_is); (case l=>k_is); (case c=>k_is); (case k=>k_is)) | (refine' L2.Y4 ?a ?l ?c ?k ?d; (case a=>k_is); (case l=>k_is); (case c=>k_is); (case k=>k_is); (case d=>k_is)) | (refine' L2.Y5 ?a ?z ?l ?c ?k ?d; (case a=>k_is); (case z=>k_is); (case l=>k_is); (case c=>k_is); (case k=>k_is); (case d=>k_is)) | k_is
#print axioms PySem.Challenge.cw_steadyhand_k86_whole_papers_of_rooms_tur_holds
