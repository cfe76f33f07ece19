import PyProof.Rows.All
import Wide.All
import OpenK.AllK
import Wide.FinOn
import Lean
import PyProof.EqAt
import PyProof.EqKinds
import PyProof.TupleCall
import PyProof.ZipIter
import PyProof.Draws
import PyProof.EnumStmt
import PyProof.EnumMake
import PyProof.CallType
import PyProof.Rows.CallKwBuiltin
import PyProof.EnumIter
import PySem.Challenge.RW_steadyhand_k82_whole_the_holder_wins
set_option Elab.async false
set_option linter.all false
set_option maxRecDepth 100000
set_option maxHeartbeats 0
namespace TT
open PySem PySem.W
def runT (tb:String->Option Builtin) (p:Program) (w:World) (k:Nat) (an:Option Value):Nat->SharedT->Thread->Option SharedT
 | 0,_,_=>none
 | j + 1,x,t=>match through t with
  | true=>some x
  | false=>match stepOk k an t with
   | false=>none
   | true=>match stepT (denote tb) p w x t with
    | none=>none
    | some y=>runT tb p w k an j y.1 y.2
theorem zKU {tb:String->Option Builtin} {p:Program} {w:World} {k:Nat} {an:Option Value}:∀ (j:Nat) (x y:SharedT) (t:Thread),runT tb p w k an j x t=some y->topRun tb p w k an j x.abs t=some y.abs
 | 0,_,_,_,e=>by cases e
 | j + 1,x,y,t,e=>by
  unfold runT at e
  unfold topRun
  cases e1:through t with
  | true=>
   rw [e1] at e
   cases e
   rfl
  | false=>
   rw [e1] at e
   cases e2:stepOk k an t with
   | false=>rw [e2] at e; cases e
   | true=>
    rw [e2] at e
    cases e3:stepT (denote tb) p w x t with
    | none=>rw [e3] at e; cases e
    | some z=>
     rw [e3] at e
     rw [stepT_spec e3]
     exact zKU j z.1 y z.2 e
theorem left_is {p q:Program} {lo:List Str} {xt:Shared->Bool} {α:Type} {Yf:Shared->α} {Ya:World->α} {N k n0:Nat} {an:Option Value} {tr:Params->BT} (op:∀ w:World,(fencedOpening treeTable p w N).map (fun s=>(s.heap,s.gens,s.drawn,s.toks))=some (boot_heap w.params,Array.mk [],boot_drawn,boot_toks))
  (et:∀ P:Params,absHeap (tr P) n0 (boot_heap P).life=boot_heap P) (z1:∀ P:Params,(boot_heap P).isNs mainGlobals=true) (z2:∀ P:Params,(boot_heap P).objs.size=k) (z3:∀ P:Params,(boot_heap P).nsMap mainGlobals "__annotations__" = an)
  (h:∀ (w:World) (os:OsState),(runT treeTable p w k an N ⟨tr w.params,n0,(boot_heap w.params).life,Array.mk [],boot_drawn,boot_toks,os⟩ (topStub p)).map (fun s=>((staticsOk (importedModules p.main.body) (boot_heap w.params) s.abs.heap && namesBound p s.abs.heap && gensDone s.abs && laidKept (boot_heap w.params) s.abs.heap),openSeen q lo (importedModules p.main.body) xt true s.abs,Yf s.abs))=some (true,openGood q lo,Ya w)) :
  LeftO p q lo xt Yf Ya N:=fun w=>by
 obtain ⟨⟨hp,gs,d,tk,os⟩,e,e'⟩:=Option.map_eq_some_iff.mp (op w)
 injection e' with a1 e'
 injection e' with a2 e'
 injection e' with a3 a4
 subst a1 a2 a3 a4
 obtain ⟨y,ey,eo⟩:=Option.map_eq_some_iff.mp (h w os)
 injection eo with l1 eo
 injection eo with l2 l3
 have r:=zKU _ _ _ _ ey
 have r':topRun treeTable p w k an N ⟨boot_heap w.params,Array.mk [],boot_drawn,boot_toks,os⟩ (topStub p)=some y.abs:=by
  rw [<- r]
  unfold SharedT.abs
  rw [et]
 have f:topFrom treeTable p w N ⟨boot_heap w.params,Array.mk [],boot_drawn,boot_toks,os⟩=some y.abs:=by
  unfold topFrom
  show (match (boot_heap w.params).isNs mainGlobals && true with | true=>_ | false=>_)=_
  rw [z1,z2,z3,r']
  show (match (_ && _ && _ && _) with | true=>_ | false=>_)=_
  rw [l1]
 unfold openEnds
 rw [e]
 show (topFrom treeTable p w N _).map _=_
 rw [f]
 exact congrArg some (Prod.ext l2 l3)
end TT
namespace H82
open PySem PySem.W
set_option maxRecDepth 100000
noncomputable def hT (i:Nat):Stmt:=PySem.Challenge.pw_steadyhand_k82_whole_the_holder_wins.main.body.getD i (.Pass ⟨0,0,0,0⟩)
noncomputable def hI (i j:Nat):Stmt:=match hT i with
 | .ClassDef _ _ _ b _ _ _ _ _ _ _=>b.getD j (.Pass ⟨0,0,0,0⟩)
 | s=>s
noncomputable def hA:Stmt->Arguments
 | .FunctionDef _ a _ _ _ _ _ _ _ _=>a
 | _=>⟨[],[],none,[],[],none,[]⟩
noncomputable def hB:Stmt->List Stmt
 | .FunctionDef _ _ b _ _ _ _ _ _ _=>b
 | _=>[]
noncomputable def hC:Stmt->Scope
 | .FunctionDef _ _ _ _ _ _ c _ _ _=>c
 | _=>{ kind:=.function,names:=[],isGenerator:=false,isCoroutine:=false }
noncomputable abbrev hS (s:String) (n:Nat):Value:=.str (Str.ofString s) n
noncomputable abbrev hE (P:Params) (s:String) (n:Nat) (v:Value):DictEntry:=⟨PyData.keyHash P (Str.ofString s),hS s n,v⟩
noncomputable abbrev hU (x:Array Value):Obj:={ cls:=.type "tuple",data:=.seq x }
noncomputable abbrev hD (s:String) (a:Nat) (s2:String) (b c:Nat) (i j f:Int) (r1 r2:Nat) (u v t r:Value) (y z:Int) (d:Nat):Obj:={ cls:=.type "code",data:=.fields #[hS s a,hS s2 b,hS "/claim/cut.py" c,.int i 0,.int j 0,.int 0 0,.int 0 0,.int f 0,.ref r1,.bool true,.int 181 0,.ref r2,u,v,t,r,.int y 0,.int z 0,hS "/claim/cut.py" d] }
noncomputable abbrev hF (n q:String) (s:Stmt) (d k:Value) (m:String) (j c:Nat):Obj:={ cls:=.type "function",data:=.func { name:=n,qualname:=q,params:=hA s,body:=.stmts (hB s),scope:=hC s,globals:=3,closure:=[],defaults:=d,kwdefaults:=k,pyModule:=hS m j,code:=.ref c } }
noncomputable def KK:Params->Frag:=fun P=>
 (nat_lit 2,{ cls:=.none,data:=.dict #[] })::(nat_lit 3,{ cls:=.type "dict",data:=.dict #[hE P "__name__" 165 (hS "law_steadyhand_k82_whole_the_holder_wins" 666),hE P "__doc__" 166 (.none),hE P "__package__" 167 (.none),hE P "__loader__" 168 (.builtin "__main__.__loader__#opaque"),hE P "__spec__" 169 (.none),hE P "__annotations__" 170 (.ref 6),hE P "__builtins__" 171 (.ref 4),hE P "__file__" 173 (hS "/claim/cut.py" 172),hE P "__cached__" 174 (.none),hE P "_wall" 193 (.ref 21),hE P "SteadyError" 213 (.ref 31),hE P "NoNumber" 229 (.ref 44),hE P "BadThing" 245 (.ref 56),hE P "TooMany" 261 (.ref 68),hE P "NotPlain" 277 (.ref 80),hE P "is_whole" 286 (.ref 89),hE P "common_divisor" 297 (.ref 96),hE P "fraction" 307 (.ref 104),hE P "under" 315 (.ref 111),hE P "is_numbers" 323 (.ref 116),hE P "is_table" 329 (.ref 121),hE P "copied" 336 (.ref 127),hE P "unit" 343 (.ref 133),hE P "mixed" 349 (.ref 138),hE P "paired" 355 (.ref 143),hE P "added_up" 361 (.ref 148),hE P "is_row" 369 (.ref 153),hE P "is_room" 375 (.ref 158),hE P "single" 385 (.ref 165),hE P "raw_sum" 397 (.ref 172),hE P "divided_sum" 408 (.ref 179),hE P "holds" 417 (.ref 186),hE P "lies_in" 423 (.ref 191),hE P "direction" 429 (.ref 196),hE P "tidied" 435 (.ref 201),hE P "bounded" 441 (.ref 206),hE P "reach" 454 (.ref 213),hE P "worst_pushes" 460 (.ref 218),hE P "without_pushes" 468 (.ref 225),hE P "MOST_NUMBERS" 472 (.int 3 471),hE P "MOST_PUSHES" 474 (.int 6 473),hE P "MOST_MODES" 476 (.int 40 475),hE P "Mode" 515 (.ref 242),hE P "Thing" 576 (.ref 291),hE P "is_sound" 582 (.ref 300),hE P "is_push" 589 (.ref 307),hE P "is_mode" 598 (.ref 314),hE P "ask_plain" 605 (.ref 321),hE P "MOST_ROWS" 609 (.int 60 608),hE P "held_rooms" 622 (.ref 328),hE P "counted" 629 (.ref 335),hE P "steering_rows" 643 (.ref 342),hE P "without_steering" 649 (.ref 347),hE P "holder" 665 (.ref 354),hE P "_law_cell_at" 675 (.ref 361),hE P "_law_stream" 687 (.ref 368),hE P "_law_divisor" 695 (.ref 375),hE P "_law_lowest" 704 (.ref 382),hE P "_law_plus" 712 (.ref 389),hE P "_law_along" 723 (.ref 396),hE P "_law_holds" 732 (.ref 403),hE P "_law_lies" 738 (.ref 408),hE P "_law_number" 746 (.ref 415),hE P "_law_mode" 752 (.ref 420),hE P "_law_thing" 768 (.ref 427),hE P "_law_made" 774 (.ref 432),hE P "_law_box" 787 (.ref 439),hE P "_law_rows" 793 (.ref 444),hE P "_law_point" 808 (.ref 451),hE P "_law_behind" 827 (.ref 458),hE P "_law_safe" 833 (.ref 463),hE P "_law_game" 839 (.ref 468),hE P "_law_near" 845 (.ref 473),hE P "_law_rooms" 857 (.ref 480),hE P "_law_right_steering" 867 (.ref 487),hE P "law" 886 (.ref 494)] 76 })::(nat_lit 15,hU #[])::(nat_lit 17,hU #[hS "k" 190])::(nat_lit 18,hU #[])::(nat_lit 20,hD "_wall" 187 "_wall" 188 189 1 1 3 15 16 .none (.ref 17) (.ref 18) (.ref 19) 191 1 192)::(nat_lit 21,hF "_wall" "_wall" (hT 0) .none .none "__main__" 164 20)::(nat_lit 22,hU #[.type "ValueError"])::(nat_lit 29,hU #[])::(nat_lit 30,{ cls:=.type "dict",data:=.dict #[hE P "__module__" 203 (hS "steadyhand.errors" 194),hE P "__firstlineno__" 207 (.int 5 206),hE P "__static_attributes__" 208 (.ref 29),hE P "__weakref__" 210 (.ref 32),hE P "__doc__" 211 (.none)] 3 })::(nat_lit 31,{ cls:=.type "type",data:=.cls { name:="SteadyError",bases:=[.type "ValueError"],mro:=[.ref 31,.type "ValueError",.type "Exception",.type "BaseException",.type "object"],ns:=30,qualname:="SteadyError",subclasses:=[.ref 44,.ref 56,.ref 68,.ref 80] },slots:=#[some (.ref 22),none,some (hS "SteadyError" 196),some (hS "SteadyError" 204),some (.builtin "ValueError.__new__"),some (.bool true)] })::(nat_lit 32,{ cls:=.type "getset_descriptor",data:=.fields #[hS "__weakref__" 209,.ref 31,.builtin "ExceptionGroup.__weakref__",.none] })::(nat_lit 35,hU #[.ref 31])::(nat_lit 42,hU #[])::(nat_lit 43,{ cls:=.type "dict",data:=.dict #[hE P "__module__" 221 (hS "steadyhand.errors" 194),hE P "__firstlineno__" 225 (.int 7 224),hE P "__static_attributes__" 226 (.ref 42),hE P "__doc__" 227 (.none)] 2 })::(nat_lit 44,{ cls:=.type "type",data:=.cls { name:="NoNumber",bases:=[.ref 31],mro:=[.ref 44,.ref 31,.type "ValueError",.type "Exception",.type "BaseException",.type "object"],ns:=43,qualname:="NoNumber" },slots:=#[some (.ref 35),none,some (hS "NoNumber" 214),some (hS "NoNumber" 222),some (.builtin "ValueError.__new__"),some (.bool true)] })::(nat_lit 47,hU #[.ref 31])::(nat_lit 54,hU #[])::(nat_lit 55,{ cls:=.type "dict",data:=.dict #[hE P "__module__" 237 (hS "steadyhand.errors" 194),hE P "__firstlineno__" 241 (.int 9 240),hE P "__static_attributes__" 242 (.ref 54),hE P "__doc__" 243 (.none)] 2 })::(nat_lit 56,{ cls:=.type "type",data:=.cls { name:="BadThing",bases:=[.ref 31],mro:=[.ref 56,.ref 31,.type "ValueError",.type "Exception",.type "BaseException",.type "object"],ns:=55,qualname:="BadThing" },slots:=#[some (.ref 47),none,some (hS "BadThing" 230),some (hS "BadThing" 238),some (.builtin "ValueError.__new__"),some (.bool true)] })::(nat_lit 59,hU #[.ref 31])::(nat_lit 66,hU #[])::(nat_lit 67,{ cls:=.type "dict",data:=.dict #[hE P "__module__" 253 (hS "steadyhand.errors" 194),hE P "__firstlineno__" 257 (.int 11 256),hE P "__static_attributes__" 258 (.ref 66),hE P "__doc__" 259 (.none)] 2 })::(nat_lit 68,{ cls:=.type "type",data:=.cls { name:="TooMany",bases:=[.ref 31],mro:=[.ref 68,.ref 31,.type "ValueError",.type "Exception",.type "BaseException",.type "object"],ns:=67,qualname:="TooMany" },slots:=#[some (.ref 59),none,some (hS "TooMany" 246),some (hS "TooMany" 254),some (.builtin "ValueError.__new__"),some (.bool true)] })::(nat_lit 71,hU #[.ref 31])::(nat_lit 78,hU #[])::(nat_lit 79,{ cls:=.type "dict",data:=.dict #[hE P "__module__" 269 (hS "steadyhand.errors" 194),hE P "__firstlineno__" 273 (.int 13 272),hE P "__static_attributes__" 274 (.ref 78),hE P "__doc__" 275 (.none)] 2 })::(nat_lit 80,{ cls:=.type "type",data:=.cls { name:="NotPlain",bases:=[.ref 31],mro:=[.ref 80,.ref 31,.type "ValueError",.type "Exception",.type "BaseException",.type "object"],ns:=79,qualname:="NotPlain" },slots:=#[some (.ref 71),none,some (hS "NotPlain" 262),some (hS "NotPlain" 270),some (.builtin "ValueError.__new__"),some (.bool true)] })::(nat_lit 83,hU #[])::(nat_lit 85,hU #[hS "thing" 283])::(nat_lit 86,hU #[])::(nat_lit 88,hD "is_whole" 280 "is_whole" 281 282 16 1 3 83 84 .none (.ref 85) (.ref 86) (.ref 87) 284 16 285)::(nat_lit 89,hF "is_whole" "is_whole" (hT 8) .none .none "steadyhand.fractions" 278 88)::(nat_lit 90,hU #[])::(nat_lit 92,hU #[hS "numbers" 290,hS "common" 291,hS "number" 292,hS "rest" 293,hS "left" 294])::(nat_lit 93,hU #[])::(nat_lit 95,hD "common_divisor" 287 "common_divisor" 288 289 18 1 3 90 91 .none (.ref 92) (.ref 93) (.ref 94) 295 18 296)::(nat_lit 96,hF "common_divisor" "common_divisor" (hT 9) .none .none "steadyhand.fractions" 278 95)::(nat_lit 97,hU #[.int 1 298])::(nat_lit 98,hU #[])::(nat_lit 100,hU #[hS "top" 302,hS "bottom" 303,hS "common" 304])::(nat_lit 101,hU #[])::(nat_lit 103,hD "fraction" 299 "fraction" 300 301 27 2 3 98 99 .none (.ref 100) (.ref 101) (.ref 102) 305 27 306)::(nat_lit 104,hF "fraction" "fraction" (hT 10) (.ref 97) .none "steadyhand.fractions" 278 103)::(nat_lit 105,hU #[])::(nat_lit 107,hU #[hS "one" 311,hS "other" 312])::(nat_lit 108,hU #[])::(nat_lit 110,hD "under" 308 "under" 309 310 36 2 3 105 106 .none (.ref 107) (.ref 108) (.ref 109) 313 36 314)::(nat_lit 111,hF "under" "under" (hT 11) .none .none "steadyhand.fractions" 278 110)::(nat_lit 112,hU #[])::(nat_lit 115,hD "is_numbers" 318 "is_numbers" 319 320 39 2 3 112 113 .none .none .none (.ref 114) 321 39 322)::(nat_lit 116,hF "is_numbers" "is_numbers" (hT 13) .none .none "steadyhand.tables" 316 115)::(nat_lit 117,hU #[])::(nat_lit 120,hD "is_table" 324 "is_table" 325 326 41 3 3 117 118 .none .none .none (.ref 119) 327 41 328)::(nat_lit 121,hF "is_table" "is_table" (hT 14) .none .none "steadyhand.tables" 316 120)::(nat_lit 122,hU #[.int 5 330])::(nat_lit 123,hU #[])::(nat_lit 126,hD "copied" 331 "copied" 332 333 43 2 3 123 124 .none .none .none (.ref 125) 334 43 335)::(nat_lit 127,hF "copied" "copied" (hT 15) (.ref 122) .none "steadyhand.tables" 316 126)::(nat_lit 128,hU #[.int 1 337])::(nat_lit 129,hU #[])::(nat_lit 132,hD "unit" 338 "unit" 339 340 51 3 3 129 130 .none .none .none (.ref 131) 341 51 342)::(nat_lit 133,hF "unit" "unit" (hT 16) (.ref 128) .none "steadyhand.tables" 316 132)::(nat_lit 134,hU #[])::(nat_lit 137,hD "mixed" 344 "mixed" 345 346 53 4 3 134 135 .none .none .none (.ref 136) 347 53 348)::(nat_lit 138,hF "mixed" "mixed" (hT 17) .none .none "steadyhand.tables" 316 137)::(nat_lit 139,hU #[])::(nat_lit 142,hD "paired" 350 "paired" 351 352 55 2 3 139 140 .none .none .none (.ref 141) 353 55 354)::(nat_lit 143,hF "paired" "paired" (hT 18) .none .none "steadyhand.tables" 316 142)::(nat_lit 144,hU #[])::(nat_lit 147,hD "added_up" 356 "added_up" 357 358 57 3 3 144 145 .none .none .none (.ref 146) 359 57 360)::(nat_lit 148,hF "added_up" "added_up" (hT 19) .none .none "steadyhand.tables" 316 147)::(nat_lit 149,hU #[])::(nat_lit 152,hD "is_row" 364 "is_row" 365 366 60 2 3 149 150 .none .none .none (.ref 151) 367 60 368)::(nat_lit 153,hF "is_row" "is_row" (hT 21) .none .none "steadyhand.rows" 362 152)::(nat_lit 154,hU #[])::(nat_lit 157,hD "is_room" 370 "is_room" 371 372 62 2 3 154 155 .none .none .none (.ref 156) 373 62 374)::(nat_lit 158,hF "is_room" "is_room" (hT 22) .none .none "steadyhand.rows" 362 157)::(nat_lit 159,hU #[])::(nat_lit 161,hU #[hS "place" 379,hS "many" 380,hS "number" 381,hS "bound" 382])::(nat_lit 162,hU #[])::(nat_lit 164,hD "single" 376 "single" 377 378 64 4 3 159 160 .none (.ref 161) (.ref 162) (.ref 163) 383 64 384)::(nat_lit 165,hF "single" "single" (hT 23) .none .none "steadyhand.rows" 362 164)::(nat_lit 166,hU #[])::(nat_lit 168,hU #[hS "numbers" 389,hS "point" 390,hS "top" 391,hS "bottom" 392,hS "number" 393,hS "part" 394])::(nat_lit 169,hU #[])::(nat_lit 171,hD "raw_sum" 386 "raw_sum" 387 388 66 2 3 166 167 .none (.ref 168) (.ref 169) (.ref 170) 395 66 396)::(nat_lit 172,hF "raw_sum" "raw_sum" (hT 24) .none .none "steadyhand.rows" 362 171)::(nat_lit 173,hU #[])::(nat_lit 175,hU #[hS "numbers" 401,hS "point" 402,hS "add" 403,hS "divisor" 404,hS "total" 405])::(nat_lit 176,hU #[])::(nat_lit 178,hD "divided_sum" 398 "divided_sum" 399 400 73 4 3 173 174 .none (.ref 175) (.ref 176) (.ref 177) 406 73 407)::(nat_lit 179,hF "divided_sum" "divided_sum" (hT 25) .none .none "steadyhand.rows" 362 178)::(nat_lit 180,hU #[])::(nat_lit 182,hU #[hS "row" 412,hS "point" 413,hS "total" 414])::(nat_lit 183,hU #[])::(nat_lit 185,hD "holds" 409 "holds" 410 411 76 2 3 180 181 .none (.ref 182) (.ref 183) (.ref 184) 415 76 416)::(nat_lit 186,hF "holds" "holds" (hT 26) .none .none "steadyhand.rows" 362 185)::(nat_lit 187,hU #[])::(nat_lit 190,hD "lies_in" 418 "lies_in" 419 420 79 2 3 187 188 .none .none .none (.ref 189) 421 79 422)::(nat_lit 191,hF "lies_in" "lies_in" (hT 27) .none .none "steadyhand.rows" 362 190)::(nat_lit 192,hU #[])::(nat_lit 195,hD "direction" 424 "direction" 425 426 81 1 3 192 193 .none .none .none (.ref 194) 427 81 428)::(nat_lit 196,hF "direction" "direction" (hT 28) .none .none "steadyhand.rows" 362 195)::(nat_lit 197,hU #[])::(nat_lit 200,hD "tidied" 430 "tidied" 431 432 86 1 3 197 198 .none .none .none (.ref 199) 433 86 434)::(nat_lit 201,hF "tidied" "tidied" (hT 29) .none .none "steadyhand.rows" 362 200)::(nat_lit 202,hU #[])::(nat_lit 205,hD "bounded" 436 "bounded" 437 438 99 2 3 202 203 .none .none .none (.ref 204) 439 99 440)::(nat_lit 206,hF "bounded" "bounded" (hT 30) .none .none "steadyhand.rows" 362 205)::(nat_lit 207,hU #[])::(nat_lit 209,hU #[hS "thing" 447,hS "mode" 448,hS "row" 449,hS "numbers" 450,hS "ahead" 451])::(nat_lit 210,hU #[])::(nat_lit 212,hD "reach" 444 "reach" 445 446 102 3 3 207 208 .none (.ref 209) (.ref 210) (.ref 211) 452 102 453)::(nat_lit 213,hF "reach" "reach" (hT 32) .none .none "steadyhand.reach" 442 212)::(nat_lit 214,hU #[])::(nat_lit 217,hD "worst_pushes" 455 "worst_pushes" 456 457 106 2 3 214 215 .none .none .none (.ref 216) 458 106 459)::(nat_lit 218,hF "worst_pushes" "worst_pushes" (hT 33) .none .none "steadyhand.reach" 442 217)::(nat_lit 219,hU #[])::(nat_lit 221,hU #[hS "thing" 464,hS "row" 465])::(nat_lit 222,hU #[])::(nat_lit 224,hD "without_pushes" 461 "without_pushes" 462 463 108 2 3 219 220 .none (.ref 221) (.ref 222) (.ref 223) 466 108 467)::(nat_lit 225,hF "without_pushes" "without_pushes" (hT 34) .none .none "steadyhand.reach" 442 224)::(nat_lit 233,hU #[])::(nat_lit 235,hU #[hS "self" 492,hS "rows" 493,hS "nexts" 494,hS "steer" 495,hS "push" 496,hS "add" 497,hS "divisor" 498])::(nat_lit 236,hU #[])::(nat_lit 238,hD "__init__" 489 "Mode.__init__" 490 491 116 7 3 233 234 .none (.ref 235) (.ref 236) (.ref 237) 499 116 500)::(nat_lit 239,hF "__init__" "Mode.__init__" (hI 39 0) .none .none "steadyhand.things" 469 238)::(nat_lit 240,hU #[hS "add" 502,hS "divisor" 503,hS "nexts" 504,hS "push" 505,hS "rows" 506,hS "steer" 507])::(nat_lit 241,{ cls:=.type "dict",data:=.dict #[hE P "__module__" 484 (hS "steadyhand.things" 469),hE P "__firstlineno__" 488 (.int 114 487),hE P "__init__" 501 (.ref 239),hE P "__static_attributes__" 508 (.ref 240),hE P "__dict__" 510 (.ref 243),hE P "__weakref__" 512 (.ref 244),hE P "__doc__" 513 (.none)] 4 })::(nat_lit 242,{ cls:=.type "type",data:=.cls { name:="Mode",bases:=[.type "object"],mro:=[.ref 242,.type "object"],ns:=241,qualname:="Mode" },slots:=#[none,none,some (hS "Mode" 477),some (hS "Mode" 485),some (.builtin "object.__new__"),some (.bool true)] })::(nat_lit 243,{ cls:=.type "getset_descriptor",data:=.fields #[hS "__dict__" 509,.ref 242,.builtin "function.__dict__",.builtin "function.__dict__#set"] })::(nat_lit 244,{ cls:=.type "getset_descriptor",data:=.fields #[hS "__weakref__" 511,.ref 242,.builtin "ExceptionGroup.__weakref__",.none] })::(nat_lit 254,hU #[])::(nat_lit 256,hU #[hS "self" 531,hS "many" 532,hS "pushes" 533,hS "modes" 534])::(nat_lit 257,hU #[])::(nat_lit 259,hD "__init__" 528 "Thing.__init__" 529 530 125 4 3 254 255 .none (.ref 256) (.ref 257) (.ref 258) 535 125 536)::(nat_lit 260,hF "__init__" "Thing.__init__" (hI 40 0) .none .none "steadyhand.things" 469 259)::(nat_lit 261,hU #[])::(nat_lit 263,hU #[hS "self" 541])::(nat_lit 264,hU #[])::(nat_lit 266,hD "pushes" 538 "Thing.pushes" 539 540 134 1 3 261 262 .none (.ref 263) (.ref 264) (.ref 265) 542 134 543)::(nat_lit 267,hF "pushes" "Thing.pushes" (hI 40 1) .none .none "steadyhand.things" 469 266)::(nat_lit 268,hU #[])::(nat_lit 270,hU #[hS "self" 548])::(nat_lit 271,hU #[])::(nat_lit 273,hD "modes" 545 "Thing.modes" 546 547 137 1 3 268 269 .none (.ref 270) (.ref 271) (.ref 272) 549 137 550)::(nat_lit 274,hF "modes" "Thing.modes" (hI 40 2) .none .none "steadyhand.things" 469 273)::(nat_lit 275,hU #[])::(nat_lit 277,hU #[hS "self" 555])::(nat_lit 278,hU #[])::(nat_lit 280,hD "is_closed" 552 "Thing.is_closed" 553 554 140 1 3 275 276 .none (.ref 277) (.ref 278) (.ref 279) 556 140 557)::(nat_lit 281,hF "is_closed" "Thing.is_closed" (hI 40 3) .none .none "steadyhand.things" 469 280)::(nat_lit 282,hU #[])::(nat_lit 284,hU #[hS "self" 562])::(nat_lit 285,hU #[])::(nat_lit 287,hD "is_plain" 559 "Thing.is_plain" 560 561 143 1 3 282 283 .none (.ref 284) (.ref 285) (.ref 286) 563 143 564)::(nat_lit 288,hF "is_plain" "Thing.is_plain" (hI 40 4) .none .none "steadyhand.things" 469 287)::(nat_lit 289,hU #[hS "kept_modes" 566,hS "kept_pushes" 567,hS "many" 568])::(nat_lit 290,{ cls:=.type "dict",data:=.dict #[hE P "__module__" 523 (hS "steadyhand.things" 469),hE P "__firstlineno__" 527 (.int 123 526),hE P "__init__" 537 (.ref 260),hE P "pushes" 544 (.ref 267),hE P "modes" 551 (.ref 274),hE P "is_closed" 558 (.ref 281),hE P "is_plain" 565 (.ref 288),hE P "__static_attributes__" 569 (.ref 289),hE P "__dict__" 571 (.ref 292),hE P "__weakref__" 573 (.ref 293),hE P "__doc__" 574 (.none)] 4 })::(nat_lit 291,{ cls:=.type "type",data:=.cls { name:="Thing",bases:=[.type "object"],mro:=[.ref 291,.type "object"],ns:=290,qualname:="Thing" },slots:=#[none,none,some (hS "Thing" 516),some (hS "Thing" 524),some (.builtin "object.__new__"),some (.bool true)] })::(nat_lit 292,{ cls:=.type "getset_descriptor",data:=.fields #[hS "__dict__" 570,.ref 291,.builtin "function.__dict__",.builtin "function.__dict__#set"] })::(nat_lit 293,{ cls:=.type "getset_descriptor",data:=.fields #[hS "__weakref__" 572,.ref 291,.builtin "ExceptionGroup.__weakref__",.none] })::(nat_lit 296,hU #[])::(nat_lit 299,hD "is_sound" 577 "is_sound" 578 579 145 3 3 296 297 .none .none .none (.ref 298) 580 145 581)::(nat_lit 300,hF "is_sound" "is_sound" (hT 41) .none .none "steadyhand.things" 469 299)::(nat_lit 301,hU #[])::(nat_lit 303,hU #[hS "value" 586])::(nat_lit 304,hU #[])::(nat_lit 306,hD "is_push" 583 "is_push" 584 585 153 1 3 301 302 .none (.ref 303) (.ref 304) (.ref 305) 587 153 588)::(nat_lit 307,hF "is_push" "is_push" (hT 42) .none .none "steadyhand.things" 469 306)::(nat_lit 308,hU #[])::(nat_lit 310,hU #[hS "value" 593,hS "many" 594,hS "wide" 595])::(nat_lit 311,hU #[])::(nat_lit 313,hD "is_mode" 590 "is_mode" 591 592 157 3 3 308 309 .none (.ref 310) (.ref 311) (.ref 312) 596 157 597)::(nat_lit 314,hF "is_mode" "is_mode" (hT 43) .none .none "steadyhand.things" 469 313)::(nat_lit 315,hU #[])::(nat_lit 317,hU #[hS "thing" 602])::(nat_lit 318,hU #[])::(nat_lit 320,hD "ask_plain" 599 "ask_plain" 600 601 165 1 3 315 316 .none (.ref 317) (.ref 318) (.ref 319) 603 165 604)::(nat_lit 321,hF "ask_plain" "ask_plain" (hT 44) .none .none "steadyhand.things" 469 320)::(nat_lit 322,hU #[])::(nat_lit 324,hU #[hS "thing" 613,hS "safe" 614,hS "low" 615,hS "high" 616,hS "turns" 617,hS "rooms" 618,hS "turn" 619])::(nat_lit 325,hU #[])::(nat_lit 327,hD "held_rooms" 610 "held_rooms" 611 612 170 5 3 322 323 .none (.ref 324) (.ref 325) (.ref 326) 620 170 621)::(nat_lit 328,hF "held_rooms" "held_rooms" (hT 47) .none .none "steadyhand.games" 606 327)::(nat_lit 329,hU #[])::(nat_lit 331,hU #[hS "room" 626])::(nat_lit 332,hU #[])::(nat_lit 334,hD "counted" 623 "counted" 624 625 176 1 3 329 330 .none (.ref 331) (.ref 332) (.ref 333) 627 176 628)::(nat_lit 335,hF "counted" "counted" (hT 48) .none .none "steadyhand.games" 606 334)::(nat_lit 336,hU #[])::(nat_lit 338,hU #[hS "thing" 633,hS "room" 634,hS "low" 635,hS "high" 636,hS "mode" 637,hS "told" 638,hS "row" 639,hS "ahead" 640])::(nat_lit 339,hU #[])::(nat_lit 341,hD "steering_rows" 630 "steering_rows" 631 632 180 4 3 336 337 .none (.ref 338) (.ref 339) (.ref 340) 641 180 642)::(nat_lit 342,hF "steering_rows" "steering_rows" (hT 49) .none .none "steadyhand.games" 606 341)::(nat_lit 343,hU #[])::(nat_lit 346,hD "without_steering" 644 "without_steering" 645 646 187 1 3 343 344 .none .none .none (.ref 345) 647 187 648)::(nat_lit 347,hF "without_steering" "without_steering" (hT 50) .none .none "steadyhand.games" 606 346)::(nat_lit 348,hU #[])::(nat_lit 350,hU #[hS "thing" 653,hS "safe" 654,hS "low" 655,hS "high" 656,hS "turns" 657,hS "point" 658,hS "rooms" 659,hS "steering" 660,hS "row" 661,hS "bound" 662])::(nat_lit 351,hU #[])::(nat_lit 353,hD "holder" 650 "holder" 651 652 196 6 3 348 349 .none (.ref 350) (.ref 351) (.ref 352) 663 196 664)::(nat_lit 354,hF "holder" "holder" (hT 51) .none .none "steadyhand.games" 606 353)::(nat_lit 355,hU #[])::(nat_lit 357,hU #[hS "_law_script" 671,hS "_law_k" 672])::(nat_lit 358,hU #[])::(nat_lit 360,hD "_law_cell_at" 668 "_law_cell_at" 669 670 208 2 3 355 356 .none (.ref 357) (.ref 358) (.ref 359) 673 208 674)::(nat_lit 361,hF "_law_cell_at" "_law_cell_at" (hT 53) .none .none "law_steadyhand_k82_whole_the_holder_wins" 666 360)::(nat_lit 362,hU #[])::(nat_lit 364,hU #[hS "_law_cell" 679,hS "_law_many" 680,hS "_law_found" 681,hS "_law_rest" 682,hS "_law_k" 683,hS "_law_number_here" 684])::(nat_lit 365,hU #[])::(nat_lit 367,hD "_law_stream" 676 "_law_stream" 677 678 212 2 3 362 363 .none (.ref 364) (.ref 365) (.ref 366) 685 212 686)::(nat_lit 368,hF "_law_stream" "_law_stream" (hT 54) .none .none "law_steadyhand_k82_whole_the_holder_wins" 666 367)::(nat_lit 369,hU #[])::(nat_lit 371,hU #[hS "_law_one" 691,hS "_law_other" 692])::(nat_lit 372,hU #[])::(nat_lit 374,hD "_law_divisor" 688 "_law_divisor" 689 690 225 2 3 369 370 .none (.ref 371) (.ref 372) (.ref 373) 693 225 694)::(nat_lit 375,hF "_law_divisor" "_law_divisor" (hT 55) .none .none "law_steadyhand_k82_whole_the_holder_wins" 666 374)::(nat_lit 376,hU #[])::(nat_lit 378,hU #[hS "_law_top" 699,hS "_law_bottom" 700,hS "_law_share" 701])::(nat_lit 379,hU #[])::(nat_lit 381,hD "_law_lowest" 696 "_law_lowest" 697 698 229 2 3 376 377 .none (.ref 378) (.ref 379) (.ref 380) 702 229 703)::(nat_lit 382,hF "_law_lowest" "_law_lowest" (hT 56) .none .none "law_steadyhand_k82_whole_the_holder_wins" 666 381)::(nat_lit 383,hU #[])::(nat_lit 385,hU #[hS "_law_one" 708,hS "_law_other" 709])::(nat_lit 386,hU #[])::(nat_lit 388,hD "_law_plus" 705 "_law_plus" 706 707 232 2 3 383 384 .none (.ref 385) (.ref 386) (.ref 387) 710 232 711)::(nat_lit 389,hF "_law_plus" "_law_plus" (hT 57) .none .none "law_steadyhand_k82_whole_the_holder_wins" 666 388)::(nat_lit 390,hU #[])::(nat_lit 392,hU #[hS "_law_numbers" 716,hS "_law_values" 717,hS "_law_found" 718,hS "_law_number_here" 719,hS "_law_value" 720])::(nat_lit 393,hU #[])::(nat_lit 395,hD "_law_along" 713 "_law_along" 714 715 234 2 3 390 391 .none (.ref 392) (.ref 393) (.ref 394) 721 234 722)::(nat_lit 396,hF "_law_along" "_law_along" (hT 58) .none .none "law_steadyhand_k82_whole_the_holder_wins" 666 395)::(nat_lit 397,hU #[])::(nat_lit 399,hU #[hS "_law_row" 727,hS "_law_point_here" 728,hS "_law_value" 729])::(nat_lit 400,hU #[])::(nat_lit 402,hD "_law_holds" 724 "_law_holds" 725 726 239 2 3 397 398 .none (.ref 399) (.ref 400) (.ref 401) 730 239 731)::(nat_lit 403,hF "_law_holds" "_law_holds" (hT 59) .none .none "law_steadyhand_k82_whole_the_holder_wins" 666 402)::(nat_lit 404,hU #[])::(nat_lit 407,hD "_law_lies" 733 "_law_lies" 734 735 242 2 3 404 405 .none .none .none (.ref 406) 736 242 737)::(nat_lit 408,hF "_law_lies" "_law_lies" (hT 60) .none .none "law_steadyhand_k82_whole_the_holder_wins" 666 407)::(nat_lit 409,hU #[])::(nat_lit 411,hU #[hS "_law_x" 742,hS "_law_far" 743])::(nat_lit 412,hU #[])::(nat_lit 414,hD "_law_number" 739 "_law_number" 740 741 244 2 3 409 410 .none (.ref 411) (.ref 412) (.ref 413) 744 244 745)::(nat_lit 415,hF "_law_number" "_law_number" (hT 61) .none .none "law_steadyhand_k82_whole_the_holder_wins" 666 414)::(nat_lit 416,hU #[])::(nat_lit 419,hD "_law_mode" 747 "_law_mode" 748 749 246 5 3 416 417 .none .none .none (.ref 418) 750 246 751)::(nat_lit 420,hF "_law_mode" "_law_mode" (hT 62) .none .none "law_steadyhand_k82_whole_the_holder_wins" 666 419)::(nat_lit 421,hU #[])::(nat_lit 423,hU #[hS "_law_script" 756,hS "_law_first" 757,hS "_law_second" 758,hS "_law_unit" 759,hS "_law_many" 760,hS "_law_pushes" 761,hS "_law_k" 762,hS "_law_x" 763,hS "_law_modes" 764,hS "_law_cell" 765])::(nat_lit 424,hU #[])::(nat_lit 426,hD "_law_thing" 753 "_law_thing" 754 755 260 1 3 421 422 .none (.ref 423) (.ref 424) (.ref 425) 766 260 767)::(nat_lit 427,hF "_law_thing" "_law_thing" (hT 63) .none .none "law_steadyhand_k82_whole_the_holder_wins" 666 426)::(nat_lit 428,hU #[])::(nat_lit 431,hD "_law_made" 769 "_law_made" 770 771 274 1 3 428 429 .none .none .none (.ref 430) 772 274 773)::(nat_lit 432,hF "_law_made" "_law_made" (hT 64) .none .none "law_steadyhand_k82_whole_the_holder_wins" 666 431)::(nat_lit 433,hU #[])::(nat_lit 435,hU #[hS "_law_cell" 778,hS "_law_many" 779,hS "_law_unit" 780,hS "_law_xs" 781,hS "_law_box_here" 782,hS "_law_i" 783,hS "_law_low" 784])::(nat_lit 436,hU #[])::(nat_lit 438,hD "_law_box" 775 "_law_box" 776 777 281 3 3 433 434 .none (.ref 435) (.ref 436) (.ref 437) 785 281 786)::(nat_lit 439,hF "_law_box" "_law_box" (hT 65) .none .none "law_steadyhand_k82_whole_the_holder_wins" 666 438)::(nat_lit 440,hU #[])::(nat_lit 443,hD "_law_rows" 788 "_law_rows" 789 790 288 1 3 440 441 .none .none .none (.ref 442) 791 288 792)::(nat_lit 444,hF "_law_rows" "_law_rows" (hT 66) .none .none "law_steadyhand_k82_whole_the_holder_wins" 666 443)::(nat_lit 445,hU #[])::(nat_lit 447,hU #[hS "_law_cell" 797,hS "_law_box_here" 798,hS "_law_xs" 799,hS "_law_parts" 800,hS "_law_point_here" 801,hS "_law_k" 802,hS "_law_low" 803,hS "_law_high" 804,hS "_law_share" 805])::(nat_lit 448,hU #[])::(nat_lit 450,hD "_law_point" 794 "_law_point" 795 796 295 2 3 445 446 .none (.ref 447) (.ref 448) (.ref 449) 806 295 807)::(nat_lit 451,hF "_law_point" "_law_point" (hT 67) .none .none "law_steadyhand_k82_whole_the_holder_wins" 666 450)::(nat_lit 452,hU #[])::(nat_lit 454,hU #[hS "_law_mode_here" 812,hS "_law_point_here" 813,hS "_law_steering" 814,hS "_law_pushes" 815,hS "_law_rows_here" 816,hS "_law_nexts" 817,hS "_law_steer" 818,hS "_law_push" 819,hS "_law_add" 820,hS "_law_divisor_here" 821,hS "_law_found" 822,hS "_law_i" 823,hS "_law_value" 824])::(nat_lit 455,hU #[])::(nat_lit 457,hD "_law_behind" 809 "_law_behind" 810 811 304 4 3 452 453 .none (.ref 454) (.ref 455) (.ref 456) 825 304 826)::(nat_lit 458,hF "_law_behind" "_law_behind" (hT 68) .none .none "law_steadyhand_k82_whole_the_holder_wins" 666 457)::(nat_lit 459,hU #[])::(nat_lit 462,hD "_law_safe" 828 "_law_safe" 829 830 312 2 3 459 460 .none .none .none (.ref 461) 831 312 832)::(nat_lit 463,hF "_law_safe" "_law_safe" (hT 69) .none .none "law_steadyhand_k82_whole_the_holder_wins" 666 462)::(nat_lit 464,hU #[])::(nat_lit 467,hD "_law_game" 834 "_law_game" 835 836 321 1 3 464 465 .none .none .none (.ref 466) 837 321 838)::(nat_lit 468,hF "_law_game" "_law_game" (hT 70) .none .none "law_steadyhand_k82_whole_the_holder_wins" 666 467)::(nat_lit 469,hU #[])::(nat_lit 472,hD "_law_near" 840 "_law_near" 841 842 330 3 3 469 470 .none .none .none (.ref 471) 843 330 844)::(nat_lit 473,hF "_law_near" "_law_near" (hT 71) .none .none "law_steadyhand_k82_whole_the_holder_wins" 666 472)::(nat_lit 474,hU #[])::(nat_lit 476,hU #[hS "_law_thing_here" 849,hS "_law_safe_here" 850,hS "_law_low" 851,hS "_law_high" 852,hS "_law_turns" 853,hS "_law_found" 854])::(nat_lit 477,hU #[])::(nat_lit 479,hD "_law_rooms" 846 "_law_rooms" 847 848 343 5 3 474 475 .none (.ref 476) (.ref 477) (.ref 478) 855 343 856)::(nat_lit 480,hF "_law_rooms" "_law_rooms" (hT 72) .none .none "law_steadyhand_k82_whole_the_holder_wins" 666 479)::(nat_lit 481,hU #[])::(nat_lit 483,hU #[hS "_law_found" 861,hS "_law_low" 862,hS "_law_high" 863,hS "_law_part" 864])::(nat_lit 484,hU #[])::(nat_lit 486,hD "_law_right_steering" 858 "_law_right_steering" 859 860 350 3 3 481 482 .none (.ref 483) (.ref 484) (.ref 485) 865 350 866)::(nat_lit 487,hF "_law_right_steering" "_law_right_steering" (hT 73) .none .none "law_steadyhand_k82_whole_the_holder_wins" 666 486)::(nat_lit 488,hU #[])::(nat_lit 490,hU #[hS "_law_script" 871,hS "_law_spec" 872,hS "_law_safe_here" 873,hS "_law_low" 874,hS "_law_high" 875,hS "_law_turns" 876,hS "_law_thing_here" 877,hS "_law_rooms_here" 878,hS "_law_point_here" 879,hS "_law_turn" 880,hS "_law_left" 881,hS "_law_steering" 882,hS "_law_drawn" 883])::(nat_lit 491,hU #[])::(nat_lit 493,hD "law" 868 "law" 869 870 357 1 3 488 489 .none (.ref 490) (.ref 491) (.ref 492) 884 357 885)::(nat_lit 494,hF "law" "law" (hT 74) .none .none "law_steadyhand_k82_whole_the_holder_wins" 666 493) :: []
noncomputable def ks:List Addr:=[2,3,15,17,18,20,21,22,29,30,31,32,35,42,43,44,47,54,55,56,59,66,67,68,71,78,79,80,83,85,86,88,89,90,92,93,95,96,97,98,100,101,103,104,105,107,108,110,111,112,115,116,117,120,121,122,123,126,127,128,129,132,133,134,137,138,139,142,143,144,147,148,149,152,153,154,157,158,159,161,162,164,165,166,168,169,171,172,173,175,176,178,179,180,182,183,185,186,187,190,191,192,195,196,197,200,201,202,205,206,207,209,210,212,213,214,217,218,219,221,222,224,225,233,235,236,238,239,240,241,242,243,244,254,256,257,259,260,261,263,264,266,267,268,270,271,273,274,275,277,278,280,281,282,284,285,287,288,289,290,291,292,293,296,299,300,301,303,304,306,307,308,310,311,313,314,315,317,318,320,321,322,324,325,327,328,329,331,332,334,335,336,338,339,341,342,343,346,347,348,350,351,353,354,355,357,358,360,361,362,364,365,367,368,369,371,372,374,375,376,378,379,381,382,383,385,386,388,389,390,392,393,395,396,397,399,400,402,403,404,407,408,409,411,412,414,415,416,419,420,421,423,424,426,427,428,431,432,433,435,436,438,439,440,443,444,445,447,448,450,451,452,454,455,457,458,459,462,463,464,467,468,469,472,473,474,476,477,479,480,481,483,484,486,487,488,490,491,493,494]
theorem ke:∀ P:Params,ks=(KK P).map (·.1):=fun _=>by
 kernel_rfl
noncomputable def vw:Program:={ PySem.Challenge.pw_steadyhand_k82_whole_the_holder_wins with main:={ PySem.Challenge.pw_steadyhand_k82_whole_the_holder_wins.main with body:=[hT 0,hT 2,hT 3,hT 4,hT 5,hT 6,hT 8,hT 9,hT 11,hT 13,hT 14,hT 17,hT 18,hT 19,hT 21,hT 22,hT 23,hT 24,hT 25,hT 26,hT 27,hT 28,hT 29,hT 30,hT 32,hT 33,hT 34,hT 36,hT 37,hT 38,hT 39,hT 40,hT 41,hT 42,hT 43,hT 44,hT 46,hT 47,hT 48,hT 49,hT 50,hT 51,hT 53,hT 54,hT 55,hT 56,hT 57,hT 58,hT 59,hT 60,hT 61,hT 62,hT 63,hT 64,hT 65,hT 66,hT 67,hT 68,hT 69,hT 70,hT 71,hT 72,hT 73,hT 74] } }
noncomputable def lo:List Str:=[Str.ofString "fraction",Str.ofString "copied",Str.ofString "unit"]
noncomputable abbrev rr:RowW:=(OpenLaw.row PySem.Challenge.rw_steadyhand_k82_whole_the_holder_wins).toRowW
noncomputable abbrev xt:Shared->Bool:=fun s=>xlAt vw [] s && recOk rr.records s
noncomputable def bt:Params->BT:=fun P=>(.node (boot_o_0 P) (.node (boot_o_1 P) (.node (boot_o_3 P) (.node (boot_o_7 P) .nil .nil) .nil) (.node (boot_o_5 P) (.node (boot_o_9 P) .nil .nil) .nil)) (.node (boot_o_2 P) (.node (boot_o_4 P) (.node (boot_o_8 P) .nil .nil) .nil) (.node (boot_o_6 P) (.node (boot_o_10 P) .nil .nil) .nil)))
noncomputable def lhs (T:Params->BT) (h:Params->Heap) (d:Drawn) (k:Nat) (w:World) (os:OsState):=(TT.runT treeTable PySem.Challenge.pw_steadyhand_k82_whole_the_holder_wins w 11 (some (.ref 6)) 6948 ⟨T w.params,11,(h w.params).life,Array.mk [],d,k,os⟩ (topStub PySem.Challenge.pw_steadyhand_k82_whole_the_holder_wins)).map (fun s=>((staticsOk (importedModules PySem.Challenge.pw_steadyhand_k82_whole_the_holder_wins.main.body) (h w.params) s.abs.heap && namesBound PySem.Challenge.pw_steadyhand_k82_whole_the_holder_wins s.abs.heap && gensDone s.abs && laidKept (h w.params) s.abs.heap),openSeen vw lo (importedModules PySem.Challenge.pw_steadyhand_k82_whole_the_holder_wins.main.body) xt true s.abs,ks.map s.abs.heap.get?))
noncomputable def rhs (w:World) (_:OsState):=some (true,openGood vw lo,(KK w.params).map fun p=>some p.2)
lay_quick lhs rhs
theorem same (w:World) (os:OsState):PySem.W.Fast.tw16422528203115054946 bt boot_heap boot_drawn boot_toks w os=PySem.W.Fast.tw9453220893233407145 w os:=by
 kernel_rfl
theorem left:LeftO rr.prog vw lo xt (kHook KK ks ke).obs (kHook KK ks ke).val 6948:=
 TT.left_is (boot_open (by kernel_rfl) (by decide) (fun _=>by kernel_rfl)) (fun _=>by kernel_rfl) (fun _=>by kernel_rfl) (fun _=>by kernel_rfl) (fun _=>by kernel_rfl)
  fun w os=>(congrArg (fun f=>f bt boot_heap boot_drawn boot_toks w os) PySem.W.Fast.te16422528203115054946).trans ((same w os).trans (congrFun (congrFun PySem.W.Fast.te9453220893233407145 w) os).symm)
end H82
namespace L2
open PySem PySem.Spec PyProof.Rows
abbrev Key:=Sum Int Str
def zJs:Key->Value->Bool
 | .inl k,v=>Value.isInt k v
 | .inr x,v=>Value.isStrOf x v
def keyH (w:World):Key->Int
 | .inl k=>hashInt k
 | .inr x=>hashStr w x
theorem zBi:∀ {k:Key} {v:Value},zJs k v=true->(∃ i t,k=Sum.inl i/\v=Value.int i t)\/(∃ x t,k=Sum.inr x/\v=Value.str x t)
 | .inl i,v,h=>by
  obtain ⟨t,e⟩:=Value.isInt_shape (k:=i) (v:=v) h
  exact .inl ⟨i,t,rfl,e⟩
 | .inr x,v,h=>by
  obtain ⟨t,e⟩:=Value.isStrOf_shape (x:=x) (v:=v) h
  exact .inr ⟨x,t,rfl,e⟩
theorem zK5 (i:Int) (t:Tok):zJs (.inl i) (.int i t)=true:=by simp [zJs,Value.isInt]
theorem zK4 (x:Str) (t:Tok):zJs (.inr x) (.str x t)=true:=by simp [zJs,Value.isStrOf]
theorem zOK (a b:Int):decide ((Sum.inl a:Key)=Sum.inl b)=(a == b):=by
 by_cases e:a=b
 ·subst e; simp
 ·have h:¬ (Sum.inl a:Key)=Sum.inl b:=fun q=>e (Sum.inl.inj q)
  rw [decide_eq_false h]
  exact (beq_eq_false_iff_ne.mpr e).symm
theorem zOH (a b:Str):decide ((Sum.inr a:Key)=Sum.inr b)=decide (a=b):=by
 by_cases e:a=b
 ·subst e; simp
 ·have h:¬ (Sum.inr a:Key)=Sum.inr b:=fun q=>e (Sum.inr.inj q)
  rw [decide_eq_false h,decide_eq_false e]
theorem zOJ (a:Int) (b:Str):decide ((Sum.inl a:Key)=Sum.inr b)=false:=decide_eq_false (fun q=>nomatch q)
theorem zOI (a:Str) (b:Int):decide ((Sum.inr a:Key)=Sum.inl b)=false:=decide_eq_false (fun q=>nomatch q)
def zCS (prog:Program) (w:World):PySem.KeyKind prog w Key where
 is:=zJs
 hash:=keyH w
 inj:=fun v a b ha hb=>by
  rcases zBi ha with ⟨i,t,rfl,rfl⟩ | ⟨x,t,rfl,rfl⟩
  ·rcases zBi hb with ⟨j,u,rfl,e⟩ | ⟨y,u,rfl,e⟩
   ·injection e with e1 _; rw [e1]
   ·exact nomatch e
  ·rcases zBi hb with ⟨j,u,rfl,e⟩ | ⟨y,u,rfl,e⟩
   ·exact nomatch e
   ·injection e with e1 _; rw [e1]
 byValue:=fun k v h=>by
  rcases zBi h with ⟨i,t,rfl,rfl⟩ | ⟨x,t,rfl,rfl⟩ <;> rfl
 pyHash:=fun hv h=>by
  rcases zBi hv with ⟨i,t,rfl,rfl⟩ | ⟨x,t,rfl,rfl⟩
  ·exact wpAny_pyHash_int h
  ·exact wpAny_pyHash_str h
 eqBool:=fun hu hv h=>by
  rcases zBi hu with ⟨i,t,rfl,rfl⟩ | ⟨x,t,rfl,rfl⟩
  ·rcases zBi hv with ⟨j,u,rfl,rfl⟩ | ⟨y,u,rfl,rfl⟩
   ·rw [zOK] at h; exact wpAny_eqBool_int h
   ·rw [zOJ] at h; exact SeqAt.EqAt.int_str i t y u _ _ _ _ h
  ·rcases zBi hv with ⟨j,u,rfl,rfl⟩ | ⟨y,u,rfl,rfl⟩
   ·rw [zOI] at h; exact SeqAt.EqAt.str_int x t j u _ _ _ _ h
   ·rw [zOH] at h; exact wpAny_eqBool_str h
 «strs»:=fun k x t v h=>by
  rcases zBi h with ⟨i,u,rfl,e⟩ | ⟨y,u,rfl,e⟩
  ·exact nomatch e
  ·injection e with e1 _
   subst e1
   cases v <;> rfl
theorem zIQ (prog:Program) (w:World) (i:Int) (t:Tok):(zCS prog w).is (.inl i) (.int i t)=true:=zK5 i t
theorem zIP (prog:Program) (w:World) (x:Str) (t:Tok):(zCS prog w).is (.inr x) (.str x t)=true:=zK4 x t
end L2
namespace L2
open PySem PySem.Spec PyProof.Rows
inductive V where
 | non | bl (b:Bool) | int (i:Int) | str (x:Str) | byt (b:Array UInt8) | flt (b:UInt64) | ref (a:Addr) | ty (n:String)
 deriving DecidableEq
def RelV:V->Value->Prop
 | .non,u=>u=Value.none
 | .bl b,u=>u=Value.bool b
 | .int i,u=>∃ t,u=Value.int i t
 | .str x,u=>∃ t,u=Value.str x t
 | .byt b,u=>∃ t,u=Value.bytes b t
 | .flt b,u=>∃ t,u=Value.float b t
 | .ref a,u=>u=Value.ref a
 | .ty n,u=>u=Value.type n
abbrev Vals:List V->List Value->Prop:=Paired RelV
theorem Vals.length {xs:List V} {us:List Value} (r:Vals xs us):xs.length=us.length:=Paired.length r
theorem Vals.get:∀ {xs:List V} {us:List Value} {i:Nat} {x:V},Vals xs us->xs[i]? = some x->∃ u,us[i]? = some u/\RelV x u
 | _,_,_,_,.nil,e=>by simp at e
 | _,_,0,_,.cons r _,e=>by simp at e; subst e; exact ⟨_,rfl,r⟩
 | _,_,i + 1,x,.cons _ t,e=>by
  obtain ⟨u,h1,h2⟩:=Vals.get (i:=i) (x:=x) t (by simpa using e)
  exact ⟨u,by simpa using h1,h2⟩
theorem Vals.append:∀ {xs ys:List V} {us ws:List Value},Vals xs us->Vals ys ws->Vals (xs++ys) (us++ws)
 | _,_,_,_,.nil,s=>s
 | _,_,_,_,.cons r t,s=>.cons r (Vals.append t s)
theorem Vals.take:∀ {xs:List V} {us:List Value} (n:Nat),Vals xs us->Vals (xs.take n) (us.take n)
 | _,_,0,_=>.nil
 | _,_,_ + 1,.nil=>.nil
 | _,_,n + 1,.cons r t=>.cons r (Vals.take n t)
theorem Vals.drop:∀ {xs:List V} {us:List Value} (n:Nat),Vals xs us->Vals (xs.drop n) (us.drop n)
 | _,_,0,r=>r
 | _,_,_ + 1,.nil=>.nil
 | _,_,n + 1,.cons _ t=>Vals.drop n t
def RelO:Option V->Option Value->Prop
 | some v,some u=>RelV v u
 | none,none=>True
 | _,_=>False
def KV {κ:Type}:List (κ × V)->List (κ × Value)->Prop:=Paired fun (p:κ × V) (q:κ × Value)=>p.1=q.1/\RelV p.2 q.2
def kV:Key->V
 | .inl i=>.int i
 | .inr x=>.str x
inductive HO where
 | lst (xs:List V)
 | tup (xs:List V)
 | dK (kvs:List (Key × V)) | dT (kvs:List (List Key × V))
 | set (S:Int->Bool) (n:Nat)
 | ins (C dx:Addr) (fs:List (Str × V))
 | own (x:Addr)
 | xd (fs:List (Str × V))
 | met (f x:Addr)
 | rng (lo hi:Int)
 | frz (o:Obj) (u:HO)
 | tbl (ps:Array Value)
 | ext (φ:Heap->Prop)
abbrev Hp:=Addr->Option HO
def upd (H:Hp) (a:Addr) (o:HO):Hp:=fun b=>if b=a then some o else H b
theorem zAF {H:Hp} {a:Addr} {o:HO}:upd H a o a=some o:=by unfold upd; rw [if_pos rfl]
theorem zAW {H:Hp} {a b:Addr} {o:HO} (h:b≠a):upd H a o b=H b:=by unfold upd; rw [if_neg h]
theorem zKC {H:Hp} {a:Addr} {o u:HO}:upd (upd H a o) a u=upd H a u:=by
 funext b; unfold upd; split <;> rfl
theorem zKx {H:Hp} {a b:Addr} {o u:HO} (h:H a=some o) (h':H b=some u) (d:o≠u):a≠b:=by
 intro e; subst e; rw [h] at h'; exact d (Option.some.inj h')
theorem zAo {H:Hp} {a b:Addr} {o:HO} (h:H a=some o) (h':H b=none):a≠b:=by
 intro e; subst e; rw [h] at h'; cases h'
section
variable (P:Program) (w:World)
def zB5 (H:Hp) (h:Heap) (a:Addr):HO->Prop
 | .lst xs=>xs.length<=sizeLine/\∃ (its:List Value) (n:Nat),Vals xs its/\h.get? a=some { cls:=.type "list",data:=.seq its.toArray n }
 | .tup xs=>xs.length<=sizeLine/\∃ its:List Value,Vals xs its/\IsTup h a its.toArray
 | .dK kvs=>kvs.length<=sizeLine/\(a == sysModules)=false/\∃ vs,KV kvs vs/\h.DictOf (zCS P w) a vs
 | .dT kvs=>kvs.length<=sizeLine/\(a == sysModules)=false/\∃ xs:List (List Key × Addr × Value),
   Paired (fun (p:List Key × V) (q:List Key × Addr × Value)=>p.1=q.1/\H q.2.1=some (.tup (p.1.map kV))/\RelV p.2 q.2.2) kvs xs∧
   ∃ o es ep,h.get? a=some o/\o.ExactDict/\o.data=.dict es ep/\es.toList=xs.map (entryOfKey (tupleKind (zCS P w)))/\(xs.map (·.1)).Nodup
 | .set S n=>h.SetOf (intKind P w) a S n
 | .ins C dx fs=>H dx=some (.own a)/\fs.length<=1000/\dx≠a/\h.get? a=some (PySem.W.instObj C dx)∧
   ∃ mA,h.Ns1 dx mA/\(∀ f,RelO (fs.lookup f) (mA f))/\PySem.Within mA (fs.map (·.1))
 | .own _=>∃ o,h.get? a=some o
 | .xd fs=>∃ mA,h.Ns1 a mA/\∀ f,RelO (fs.lookup f) (mA f)
 | .rng lo hi=>∃ t u v,h.get? a=some { cls:=.type "range",data:=.fields #[.int lo t,.int hi u,.int 1 v] }
 | .frz o u=>h.get? a=some o/\zB5 H h a u
 | .tbl ps=>h.get? a=some { cls:=.none,data:=.fields ps }
 | .met f x=>h.get? a=some (PySem.W.methodObj (.ref f) (.ref x))
 | .ext φ=>φ h/\(∃ o,h.get? a=some o)/\∀ h1 h2:Heap,φ h1->(∀ o,h1.get? a=some o->h2.get? a=some o)->φ h2
def HOk (H:Hp) (h:Heap):Prop:=∀ a o,H a=some o->zB5 P w H h a o
end
section
variable {P:Program} {w:World} {H H':Hp} {h h':Heap} {a:Addr} {o:HO}
theorem zB5.lt (x:zB5 P w H h a o):a < h.objs.size:=by
 cases o with
 | lst xs=>obtain ⟨_,_,_,_,e⟩:=x; exact Heap.lt_size e
 | tup xs=>obtain ⟨_,_,_,p⟩:=x; exact p.lt
 | dK kvs=>obtain ⟨_,_,_,_,o,_,_,e,_⟩:=x; exact Heap.lt_size e
 | dT kvs=>obtain ⟨_,_,_,_,o,_,_,e,_⟩:=x; exact Heap.lt_size e
 | set S n=>obtain ⟨o,_,_,_,e,_⟩:=x; exact Heap.lt_size e
 | ins C dx fs=>obtain ⟨_,_,_,e,_⟩:=x; exact Heap.lt_size e
 | own y=>obtain ⟨_,e⟩:=x; exact Heap.lt_size e
 | xd fs=>obtain ⟨_,⟨_,_,_,e,_⟩,_⟩:=x; exact Heap.lt_size e
 | rng lo hi=>obtain ⟨_,_,_,e⟩:=x; exact Heap.lt_size e
 | frz ob u=>obtain ⟨e,_⟩:=x; exact Heap.lt_size e
 | tbl ps=>exact Heap.lt_size (show h.get? a=some _ from x)
 | met f y=>exact Heap.lt_size (show h.get? a=some _ from x)
 | ext φ=>obtain ⟨_,⟨_,e⟩,_⟩:=x; exact Heap.lt_size e
theorem Paired.mapP {α β:Type} {F G:α->β->Prop}:∀ {l₁:List α} {l₂:List β},Paired F l₁ l₂->(∀ a b,F a b->G a b)->Paired G l₁ l₂
 | _,_,.nil,_=>.nil
 | _,_,.cons r t,f=>.cons (f _ _ r) (Paired.mapP t f)
theorem zB5.stay (x:zB5 P w H h a o) (k:∀ b u,(b=a\/H b=some (.own a))->h.get? b=some u->h'.get? b=some u)
  (ho:∀ b,H b=some (.own a)->H' b=some (.own a)) (ht:∀ b xs,H b=some (.tup xs)->H' b=some (.tup xs)):zB5 P w H' h' a o:=by
 induction o with
 | lst xs=>obtain ⟨z,its,n,r,e⟩:=x; exact ⟨z,its,n,r,k _ _ (.inl rfl) e⟩
 | tup xs=>obtain ⟨z,its,r,ob,e,c⟩:=x; exact ⟨z,its,r,ob,k _ _ (.inl rfl) e,c⟩
 | dK kvs=>obtain ⟨z,y,vs,r,ob,es,ep,e,c⟩:=x; exact ⟨z,y,vs,r,ob,es,ep,k _ _ (.inl rfl) e,c⟩
 | dT kvs=>
  obtain ⟨z,y,xs,r,ob,es,ep,e,c⟩:=x
  exact ⟨z,y,xs,Paired.mapP r fun p q z=>⟨z.1,ht _ _ z.2.1,z.2.2⟩,ob,es,ep,k _ _ (.inl rfl) e,c⟩
 | set S n=>obtain ⟨ob,es,ep,t,e,c⟩:=x; exact ⟨ob,es,ep,t,k _ _ (.inl rfl) e,c⟩
 | ins C dx fs=>
  obtain ⟨d,z,ne,e,mA,⟨od,es,ep,e2,c⟩,r⟩:=x
  exact ⟨ho _ d,z,ne,k _ _ (.inl rfl) e,mA,⟨od,es,ep,k _ _ (.inr d) e2,c⟩,r⟩
 | own y=>obtain ⟨ob,e⟩:=x; exact ⟨ob,k _ _ (.inl rfl) e⟩
 | xd fs=>obtain ⟨mA,⟨od,es,ep,e,c⟩,r⟩:=x; exact ⟨mA,⟨od,es,ep,k _ _ (.inl rfl) e,c⟩,r⟩
 | rng lo hi=>obtain ⟨t,u,v,e⟩:=x; exact ⟨t,u,v,k _ _ (.inl rfl) e⟩
 | frz ob u ih=>obtain ⟨e,q⟩:=x; exact ⟨k _ _ (.inl rfl) e,ih q⟩
 | tbl ps=>
  have e:h.get? a=some { cls:=.none,data:=.fields ps }:=x
  show h'.get? a=some { cls:=.none,data:=.fields ps }
  exact k a _ (.inl rfl) e
 | met f y=>
  have e:h.get? a=some (PySem.W.methodObj (.ref f) (.ref y)):=x
  show h'.get? a=some (PySem.W.methodObj (.ref f) (.ref y))
  exact k a _ (.inl rfl) e
 | ext φ=>obtain ⟨p,⟨o,e⟩,st⟩:=x; exact ⟨st _ _ p fun o q=>k _ _ (.inl rfl) q,⟨o,k _ _ (.inl rfl) e⟩,st⟩
theorem HOk.lt (x:HOk P w H h) (e:H a=some o):a < h.objs.size:=(x a o e).lt
theorem HOk.fresh (x:HOk P w H h) (e:h.objs.size<=a):H a=none:=by
 cases q:H a with
 | none=>rfl
 | some u=>exact absurd (Nat.lt_of_lt_of_le (x.lt q) e) (Nat.lt_irrefl _)
theorem HOk.kept (x:HOk P w H h) (k:∀ b u,h.get? b=some u->h'.get? b=some u):HOk P w H h':=fun a o e=>
 (x a o e).stay (fun b u _ q=>k b u q) (fun _ q=>q) fun _ _ q=>q
theorem HOk.laid (x:HOk P w H h) (k:∀ b u,h.get? b=some u->h'.get? b=some u) (hp:h.objs.size<=a) (new:zB5 P w (upd H a o) h' a o):HOk P w (upd H a o) h':=fun b u e=>by
 have hn:=x.fresh hp
 by_cases hb:b=a
 ·subst hb; rw [zAF] at e; cases e; exact new
 ·rw [zAW hb] at e
  exact (x b u e).stay (fun c v _ q=>k c v q) (fun c q=>by rw [zAW (zAo q hn)]; exact q) fun c xs q=>by rw [zAW (zAo q hn)]; exact q
end
def Rd (H:Hp) (a:Addr) (u:HO):Prop:=H a=some u\/∃ o,H a=some (.frz o u)
theorem Rd.ok {P:Program} {w:World} {H:Hp} {h:Heap} {a:Addr} {u:HO} (r:Rd H a u) (x:HOk P w H h):zB5 P w H h a u:=by
 rcases r with r | ⟨o,r⟩
 ·exact x a u r
 ·obtain ⟨_,q⟩:=x a _ r
  exact q
def Mut:Option HO->Prop
 | some (.lst _)=>True
 | some (.dK _)=>True
 | some (.dT _)=>True
 | some (.set _ _)=>True
 | some (.ins _ _ _)=>True
 | some (.ext _)=>True
 | _=>False
section
variable {P:Program} {w:World} {H:Hp} {h h':Heap} {x e:Addr} {o':HO}
theorem HOk.write (ok:HOk P w H h) (mu:Mut (H x)) (he:e=x\/H e=some (.own x)) (k:∀ b u,b≠e->h.get? b=some u->h'.get? b=some u) (heo:∃ u,h'.get? e=some u)
  (new:zB5 P w (upd H x o') h' x o'):HOk P w (upd H x o') h':=fun b u q=>by
 have nown:∀ c y,H c=some (.own y)->c≠x:=fun c y r z=>by subst z; rw [r] at mu; exact mu
 have ntup:∀ c xs,H c=some (.tup xs)->c≠x:=fun c xs r z=>by subst z; rw [r] at mu; exact mu
 by_cases hb:b=x
 ·subst hb; rw [zAF] at q; cases q; exact new
 ·rw [zAW hb] at q
  by_cases hbe:b=e
  ·have q':H b=some (.own x):=by
    rcases he with z | z
    ·exact absurd (hbe.trans z) hb
    ·rw [hbe]; exact z
   rw [q] at q'; cases q'
   obtain ⟨v,hv⟩:=heo
   exact ⟨v,by rw [hbe]; exact hv⟩
  ·refine (ok b u q).stay (fun c v hc r=>k c v ?_ r) (fun c r=>by rw [zAW (nown c b r)]; exact r) fun c xs r=>by rw [zAW (ntup c xs r)]; exact r
   rcases hc with rfl | hc
   ·exact hbe
   ·rintro rfl
    rcases he with z | z
    ·exact nown c b hc z
    ·rw [hc] at z; cases z; exact hb rfl
end
structure Un (fs ex:List Addr) (H H':Hp) (h h':Heap):Prop where
 keep:∀ b o,h.get? b=some o->H b=none->b∉fs->b∉ex->h'.get? b=some o
 slot:∀ b o,h.get? b=some o->H b=none->b∈fs->b∉ex->∃ sl,h'.get? b=some { o with slots:=sl }
 free:∀ b o,h.get? b=some o->H b=none->b∉ex->H' b=none
 there:∀ b o,h.get? b=some o->b∉ex->∃ o',h'.get? b=some o'
 tups:∀ b xs,H b=some (.tup xs)->H' b=some (.tup xs)
 frzs:∀ b o u,H b=some (.frz o u)->H' b=some (.frz o u)
 tbls:∀ b ps,H b=some (.tbl ps)->∃ more,H' b=some (.tbl (ps++more))
section
variable {fs fs' ex ex':List Addr} {H H1 H2:Hp} {h h1 h2 h':Heap} {a x e:Addr} {o:HO}
theorem Un.any (u:Un fs ex H H1 h h1) {b:Addr} {ob:Obj} (q:h.get? b=some ob) (n:H b=none) (hx:b∉ex):∃ sl,h1.get? b=some { ob with slots:=sl }:=by
 by_cases hb:b∈fs
 ·exact u.slot b ob q n hb hx
 ·exact ⟨ob.slots,u.keep b ob q n hb hx⟩
theorem Un.trans (a:Un fs ex H H1 h h1) (b:Un fs ex H1 H2 h1 h2):Un fs ex H H2 h h2 where
 keep:=fun c ob q n hc hx=>b.keep c ob (a.keep c ob q n hc hx) (a.free c ob q n hx) hc hx
 slot:=fun c ob q n hc hx=>by
  obtain ⟨sl,e1⟩:=a.slot c ob q n hc hx
  obtain ⟨sl',e2⟩:=b.slot c _ e1 (a.free c ob q n hx) hc hx
  exact ⟨sl',e2⟩
 free:=fun c ob q n hx=>by
  obtain ⟨o',e1⟩:=a.there c ob q hx
  exact b.free c o' e1 (a.free c ob q n hx) hx
 there:=fun c ob q hx=>by
  obtain ⟨o',e1⟩:=a.there c ob q hx
  exact b.there c o' e1 hx
 tups:=fun c xs q=>b.tups c xs (a.tups c xs q)
 frzs:=fun c ob xs q=>b.frzs c ob xs (a.frzs c ob xs q)
 tbls:=fun c ps q=>by
  obtain ⟨m1,e1⟩:=a.tbls c ps q
  obtain ⟨m2,e2⟩:=b.tbls c _ e1
  exact ⟨m1++m2,by rw [e2,Array.append_assoc]⟩
theorem Un.kept (k:∀ b u,h.get? b=some u->h'.get? b=some u):Un fs ex H H h h':=
 ⟨fun b ob q _ _ _=>k b ob q,fun b ob q _ _ _=>⟨ob.slots,k b ob q⟩,fun _ _ _ n _=>n,fun b ob q _=>⟨ob,k b ob q⟩,fun _ _ q=>q,fun _ _ _ q=>q,fun _ ps q=>⟨#[],by rw [q]; simp⟩⟩
theorem Un.refl:Un fs ex H H h h:=Un.kept fun _ _ q=>q
theorem Un.laid (k:∀ b u,h.get? b=some u->h'.get? b=some u) (hp:h.objs.size<=a) (hn:H a=none):Un fs ex H (upd H a o) h h' where
 keep:=fun b u q _ _ _=>k b u q
 slot:=fun b u q _ _ _=>⟨u.slots,k b u q⟩
 free:=fun b u q n _=>by rw [zAW (Nat.ne_of_lt (Nat.lt_of_lt_of_le (Heap.lt_size q) hp))]; exact n
 there:=fun b u q _=>⟨u,k b u q⟩
 tups:=fun b xs q=>by rw [zAW (zAo q hn)]; exact q
 frzs:=fun b u xs q=>by rw [zAW (zAo q hn)]; exact q
 tbls:=fun b ps q=>⟨#[],by rw [zAW (zAo q hn),q]; simp⟩
theorem Un.write (mu:Mut (H x)) (he:e=x\/H e=some (.own x)) (k:∀ b u,b≠e->h.get? b=some u->h'.get? b=some u) (heo:∃ u,h'.get? e=some u):Un fs ex H (upd H x o) h h':=by
 have hx:∀ b,H b=none->b≠x:=fun b n z=>by subst z; rw [n] at mu; exact mu
 have hb:∀ b,H b=none->b≠e:=fun b n z=>by
  subst z
  rcases he with r | r
  ·exact hx b n r
  ·rw [n] at r; cases r
 have hm:∀ b u,H b=some u->¬ Mut (some u)->b≠x:=fun b u q nm z=>by subst z; rw [q] at mu; exact nm mu
 refine ⟨fun b u q n _ _=>k b u (hb b n) q,fun b u q n _ _=>⟨u.slots,k b u (hb b n) q⟩,fun b u q n _=>by rw [zAW (hx b n)]; exact n,fun b u q _=>?_,
  fun b xs q=>by rw [zAW (hm b _ q fun z=>z)]; exact q,fun b u xs q=>by rw [zAW (hm b _ q fun z=>z)]; exact q,fun b ps q=>⟨#[],by rw [zAW (hm b _ q fun z=>z),q]; simp⟩⟩
 by_cases hbe:b=e
 ·subst hbe; exact heo
 ·exact ⟨u,k b u hbe q⟩
theorem Un.mono (u:Un fs ex H H1 h h1) (hs:∀ b∈fs,b∈fs') (hx:∀ b∈ex,b∈ex'):Un fs' ex' H H1 h h1:=
 ⟨fun b ob q n hb he=>u.keep b ob q n (fun z=>hb (hs b z)) fun z=>he (hx b z),fun _ _ q n _ he=>u.any q n fun z=>he (hx _ z),fun b ob q n he=>u.free b ob q n fun z=>he (hx b z),fun b ob q he=>u.there b ob q fun z=>he (hx b z),u.tups,u.frzs,u.tbls⟩
end
def trk (h:Heap) (H:Hp):List Addr:=(List.range h.objs.size).filter fun a=>(H a).isSome
def hidT (h:Heap) (H:Hp):Heap:=PySem.W.hideAll h (trk h H)
theorem zLD (h:Heap) (H:Hp):(hidT h H).objs.size=h.objs.size:=PySem.W.hideAll_size _ _
theorem zMI {h:Heap} {H:Hp} {b:Addr} {o:Obj} (e:h.get? b=some o) (n:H b=none):(hidT h H).get? b=some o:=
 PySem.W.hideAll_get _ e fun hm=>by
  have q:(H b).isSome=true:=(List.mem_filter.mp hm).2
  rw [n] at q; simp at q
theorem zM8 {h:Heap} {H:Hp} {b:Addr} {o:Obj} (e:(hidT h H).get? b=some o):h.get? b=some o/\H b=none:=by
 have e':h.get? b=some o:=PySem.W.of_hideAll (trk h H) e
 refine ⟨e',?_⟩
 cases q:H b with
 | none=>rfl
 | some x=>
  have hm:b∈trk h H:=List.mem_filter.mpr ⟨List.mem_range.mpr (Heap.lt_size e'),by simp [q]⟩
  have z:(hidT h H).get? b=none:=PySem.W.hideAll_none (trk h H) hm
  rw [z] at e; cases e
def zNa (g h:Heap) (L:Addr):List (Addr × Obj):=(List.range h.objs.size).filterMap fun a=>if a=L\/(g.get? a).isSome=true then none else (h.get? a).map fun o=>(a,o)
def rest (g h:Heap) (L d:Addr):List (Addr × Obj):=(zNa g h L).filter fun p=>decide (p.1≠d)
end L2
namespace L2
open PySem PySem.Spec PyProof.Rows
structure Mod (K:PySem.W.Frag) (mg:Str->Option Value) (base:Heap):Prop where
 kin:K.In base
 glob:base.Ns mainGlobals mg
 blt:∃ mb,base.Ns builtinsNs mb/\∀ x:Str,x≠"__name__"->mb x=bootBuiltins x
 nolimit:base.NoLimit
structure Cx where
 prog:Program
 w:World
 K:PySem.W.Frag
 mg:Str->Option Value
 base:Heap
 A:Around
 N:List Str
 s₀:Shared
 H₀:Hp
 env:Env
 outer:List Env
 stack:List Env
 ex:List Addr
 fn:Str->Bool
 calm:Bool
 pn:List (Addr × Obj)
 xe:Value->Shared->Prop
def frs (l:List Env):List Addr:=l.filterMap (·.frame)
abbrev Cx.fs (X:Cx):List Addr:=frs X.outer
def Vis (sc:Scope) (x:Str):Prop:=sc.names.lookup x=some .local\/sc.names.lookup x=some .cell\/sc.names.lookup x=some .free
def Loc (sc:Scope) (x:Str):Prop:=sc.names.lookup x=some .local\/sc.names.lookup x=some .cell
def Look (env:Env) (h:Heap) (m:Str->Option Value) (x:Str) (u:Value):Prop:=
 (env.kindOf x=some .local/\m x=some u)\/((env.kindOf x=some .cell\/env.kindOf x=some .free)/\∃ c,env.cells.lookup x=some c/\h.IsCell c (some u))
structure Cx.Ok (X:Cx):Prop where
 mod:Mod X.K X.mg X.base
 kind:X.env.scope.kind=.function
 glob:X.env.globals=mainGlobals
 blt:X.env.builtins=builtinsNs
 above:X.s₀.heap.objs.size<=X.env.locals
 inj:∀ x y c,X.env.cells.lookup x=some c->X.env.cells.lookup y=some c->x=y
 has:∀ x,(X.env.kindOf x=some .cell\/X.env.kindOf x=some .free)->∃ c,X.env.cells.lookup x=some c
 cab:∀ x c,X.fn x=true->X.env.cells.lookup x=some c->X.s₀.heap.objs.size<=c
 hd:X.calm=true->X.A.handled=none
 frames:X.A.frames=some X.stack
 stk:X.stack=X.outer\/(X.stack=X.env :: X.outer/\X.env.frame=some X.env.locals)
 exf:∀ b∈X.ex,b≠X.env.locals/\∀ x c,X.env.cells.lookup x=some c->c≠b
 bs:∀ b o,X.base.get? b=some o->X.s₀.heap.get? b=some o/\X.H₀ b=none
 bsz:X.base.objs.size<=X.s₀.heap.objs.size
 noex:∀ b o,X.base.get? b=some o->b∉X.ex
 exfs:∀ b∈X.ex,b∉X.fs
 funs:X.s₀.heap.FunFrames X.base X.outer
 frf:∀ b∈X.fs,X.H₀ b=none
structure Inv (X:Cx) (pins:List (Addr × Obj)) (σ:List (Option V)) (H:Hp) (s:Shared):Prop where
 ok:X.Ok
 os:s.os=X.s₀.os
 bare:AllBare s.gens
 base:Un X.fs X.ex X.H₀ H X.s₀.heap s.heap
 loc:∃ m,s.heap.Ns X.env.locals m/\∀ (i:Nat) (x:Str) (v:V),X.N[i]? = some x->σ[i]? = some (some v)->Vis X.env.scope x->∃ u,RelV v u/\Look X.env s.heap m x u
 cell:∀ x c,X.env.cells.lookup x=some c->∃ v,s.heap.IsCell c v
 free:H X.env.locals=none
 freeC:∀ x c,X.env.cells.lookup x=some c->H c=none
 pin:∀ p∈X.pn++pins,s.heap.get? p.1=some p.2/\H p.1=none/\p.1≠X.env.locals/\p.1∉X.fs/\∀ v,p.2.data≠.cell v
 hok:HOk X.prog X.w H s.heap
 len:σ.length=X.N.length
section
variable {X:Cx} {pins:List (Addr × Obj)} {σ:List (Option V)} {H H':Hp} {s:Shared} {h':Heap}
theorem Cx.Ok.nofr (ok:X.Ok) {b:Addr} {o:Obj} (e:X.base.get? b=some o):b∉X.fs:=fun hb=>by
 have:=(ok.funs.mem hb).1
 rw [e] at this; cases this
theorem Inv.bs (I:Inv X pins σ H s):∀ b o,X.base.get? b=some o->s.heap.get? b=some o/\H b=none:=fun b o e=>
 ⟨I.base.keep b o (I.ok.bs b o e).1 (I.ok.bs b o e).2 (I.ok.nofr e) (I.ok.noex b o e),I.base.free b o (I.ok.bs b o e).1 (I.ok.bs b o e).2 (I.ok.noex b o e)⟩
theorem Inv.bk (I:Inv X pins σ H s):∀ b o,X.base.get? b=some o->s.heap.get? b=some o:=fun b o e=>(I.bs b o e).1
theorem Inv.mod (I:Inv X pins σ H s):Mod X.K X.mg X.base:=I.ok.mod
theorem Inv.kIn (I:Inv X pins σ H s):X.K.In s.heap:=I.ok.mod.kin.keeps I.bk
theorem Inv.lt (I:Inv X pins σ H s):X.env.locals < s.heap.objs.size:=let ⟨_,hn,_⟩:=I.loc; hn.lt
theorem Inv.sz (I:Inv X pins σ H s):X.s₀.heap.objs.size<=s.heap.objs.size:=Nat.le_trans I.ok.above (Nat.le_of_lt I.lt)
theorem Inv.nofs (I:Inv X pins σ H s) {a:Addr} (h:s.heap.objs.size<=a):a∉X.fs:=fun hb=>by
 obtain ⟨_,o,ho,_⟩:=I.ok.funs.mem hb
 exact absurd (Nat.lt_of_lt_of_le (Heap.lt_size ho) (Nat.le_trans I.sz h)) (Nat.lt_irrefl _)
theorem Inv.cne (I:Inv X pins σ H s):∀ x c,X.env.cells.lookup x=some c->c≠X.env.locals:=fun x c e z=>by
 obtain ⟨v,o,ho,hd⟩:=I.cell x c e
 obtain ⟨m,⟨o',es,ep,ho',hd',_⟩,_⟩:=I.loc
 rw [z,ho'] at ho; cases ho; rw [hd'] at hd; cases hd
theorem Inv.funs (I:Inv X pins σ H s):s.heap.FunFrames X.base X.outer:=by
 have all:∀ (l:List Env),(∀ b∈frs l,b∈X.fs)->X.s₀.heap.FunFrames X.base l->s.heap.FunFrames X.base l:=by
  intro l
  induction l with
  | nil=>intro _ _; trivial
  | cons env r ih=>
   intro hs hl
   obtain ⟨hk,⟨L,o,hf,hn,ho,hd⟩,hr⟩:=hl
   have hL:L∈X.fs:=hs L (by unfold frs; rw [List.filterMap_cons,hf]; exact List.mem_cons_self)
   obtain ⟨sl,e⟩:=I.base.slot L o ho (I.ok.frf L hL) hL fun z=>I.ok.exfs L z hL
   exact ⟨hk,⟨L,_,hf,hn,e,hd⟩,ih (fun b hb=>hs b (by unfold frs; rw [List.filterMap_cons,hf]; exact List.mem_cons_of_mem _ hb)) hr⟩
 exact all X.outer (fun _ hb=>hb) I.ok.funs
theorem Inv.stack (I:Inv X pins σ H s):s.heap.FunFrames X.base X.stack:=by
 rcases I.ok.stk with e | ⟨e,hf⟩
 ·rw [e]; exact I.funs
 ·rw [e]
  obtain ⟨m,hn,_⟩:=I.loc
  refine .cons (by rw [I.ok.kind]; decide) hf hn ?_ I.funs
  exact Heap.get?_none_of_le (Nat.le_trans I.ok.bsz I.ok.above)
theorem Inv.stkSub (I:Inv X pins σ H s):∀ b∈frs X.stack,b∈X.env.locals :: X.fs:=fun b hb=>by
 rcases I.ok.stk with e | ⟨e,hf⟩
 ·rw [e] at hb; exact List.mem_cons_of_mem _ hb
 ·rw [e] at hb
  unfold frs at hb
  rw [List.filterMap_cons,hf] at hb
  exact hb
theorem Inv.stkFree (I:Inv X pins σ H s):∀ b∈frs X.stack,H b=none:=fun b hb=>by
 rcases List.mem_cons.mp (I.stkSub b hb) with e | hb
 ·rw [e]; exact I.free
 ·obtain ⟨_,o,ho,_⟩:=I.ok.funs.mem hb
  exact I.base.free b o ho (I.ok.frf b hb) fun z=>I.ok.exfs b z hb
theorem Inv.step {g':Array GenState} {t':Nat} {d':Drawn} {ch:List Addr} (I:Inv X pins σ H s)
  (hch:∀ b∈ch,(b∈X.ex\/X.s₀.heap.objs.size<=b)/\b≠X.env.locals/\(∀ x c,X.env.cells.lookup x=some c->c≠b)/\∀ p∈X.pn++pins,p.1≠b)
  (keep:∀ b o,b≠X.env.locals->b∉X.fs->b∉ch->s.heap.get? b=some o->H b=none->h'.get? b=some o)
  (slot:∀ b o,b≠X.env.locals->b∈X.fs->b∉ch->s.heap.get? b=some o->H b=none->∃ sl,h'.get? b=some { o with slots:=sl }) (free:∀ b o,b∉ch->s.heap.get? b=some o->H b=none->H' b=none)
  (there:∀ b o,b∉ch->s.heap.get? b=some o->∃ o',h'.get? b=some o')
  (tups:∀ b xs,H b=some (.tup xs)->H' b=some (.tup xs)) (frzs:∀ b o u,H b=some (.frz o u)->H' b=some (.frz o u)) (tbls:∀ b ps,H b=some (.tbl ps)->∃ more,H' b=some (.tbl (ps++more)))
  (ns:∀ m,s.heap.Ns X.env.locals m->h'.Ns X.env.locals m) (hok:HOk X.prog X.w H' h') (hg:AllBare g') :
  Inv X pins σ H' { s with heap:=h',gens:=g',drawn:=d',toks:=t' }:=by
 have neL:∀ b o,X.s₀.heap.get? b=some o->b≠X.env.locals:=fun b o e=>Nat.ne_of_lt (Nat.lt_of_lt_of_le (Heap.lt_size e) I.ok.above)
 have neC:∀ b o,X.s₀.heap.get? b=some o->b∉X.ex->b∉ch:=fun b o e hx hb=>by
  rcases (hch b hb).1 with z | z
  ·exact hx z
  ·exact absurd (Nat.lt_of_lt_of_le (Heap.lt_size e) z) (Nat.lt_irrefl _)
 have cellK:∀ x c,X.env.cells.lookup x=some c->∀ v,s.heap.IsCell c v->h'.IsCell c v:=fun x c e v ⟨o,ho,hd⟩=>by
  have nch:c∉ch:=fun z=>(hch c z).2.2.1 x c e rfl
  by_cases hc:c∈X.fs
  ·obtain ⟨sl,q⟩:=slot c o (I.cne x c e) hc nch ho (I.freeC x c e)
   exact ⟨_,q,hd⟩
  ·exact ⟨o,keep c o (I.cne x c e) hc nch ho (I.freeC x c e),hd⟩
 refine ⟨I.ok,I.os,hg,⟨fun b o e n hb hx=>?_,fun b o e n hb hx=>?_,fun b o e n hx=>?_,fun b o e hx=>?_,fun b xs e=>tups b xs (I.base.tups b xs e),fun b o xs e=>frzs b o xs (I.base.frzs b o xs e),fun b ps e=>?_⟩,?_,fun x c e=>?_,?_,fun x c e=>?_,fun p hp=>?_,hok,I.len⟩
 ·exact keep b o (neL b o e) hb (neC b o e hx) (I.base.keep b o e n hb hx) (I.base.free b o e n hx)
 ·obtain ⟨sl,e1⟩:=I.base.slot b o e n hb hx
  obtain ⟨sl',e2⟩:=slot b _ (neL b o e) hb (neC b o e hx) e1 (I.base.free b o e n hx)
  exact ⟨sl',e2⟩
 ·obtain ⟨o',e1⟩:=I.base.there b o e hx
  exact free b o' (neC b o e hx) e1 (I.base.free b o e n hx)
 ·obtain ⟨o',e1⟩:=I.base.there b o e hx
  exact there b o' (neC b o e hx) e1
 ·obtain ⟨m1,e1⟩:=I.base.tbls b ps e
  obtain ⟨m2,e2⟩:=tbls b _ e1
  exact ⟨m1++m2,by rw [e2,Array.append_assoc]⟩
 ·obtain ⟨m,hn,hl⟩:=I.loc
  refine ⟨m,ns m hn,fun i x v e1 e2 e3=>?_⟩
  obtain ⟨u,r,l⟩:=hl i x v e1 e2 e3
  refine ⟨u,r,?_⟩
  rcases l with l | ⟨k,c,e,z⟩
  ·exact .inl l
  ·exact .inr ⟨k,c,e,cellK x c e _ z⟩
 ·obtain ⟨v,z⟩:=I.cell x c e
  exact ⟨v,cellK x c e v z⟩
 ·obtain ⟨m,⟨o,_,_,ho,_⟩,_⟩:=I.loc
  exact free _ o (fun z=>(hch _ z).2.1 rfl) ho I.free
 ·obtain ⟨v,o,ho,hd⟩:=I.cell x c e
  exact free c o (fun z=>(hch c z).2.2.1 x c e rfl) ho (I.freeC x c e)
 ·obtain ⟨e,n,ne,nf,d⟩:=I.pin p hp
  have nch:p.1∉ch:=fun z=>(hch p.1 z).2.2.2 p hp rfl
  exact ⟨keep p.1 p.2 ne nf nch e n,free p.1 p.2 nch e n,ne,nf,d⟩
theorem Inv.un {t':Nat} (I:Inv X pins σ H s) (u:Un X.fs [] H H' s.heap h') (hok:HOk X.prog X.w H' h'):Inv X pins σ H' { s with heap:=h',toks:=t' }:=by
 obtain ⟨m,⟨o,es,ep,ho,r⟩,_⟩:=id I.loc
 obtain ⟨sl,hL⟩:=u.any ho I.free (by simp)
 exact I.step (g':=s.gens) (d':=s.drawn) (ch:=[]) (fun _ z=>nomatch z) (fun b o _ hb _ e n=>u.keep b o e n hb (by simp)) (fun b o _ hb _ e n=>u.slot b o e n hb (by simp)) (fun b o _ e n=>u.free b o e n (by simp)) (fun b o _ e=>u.there b o e (by simp)) u.tups u.frzs u.tbls (fun m' hm=>by
  obtain ⟨o',es',ep',ho',r'⟩:=hm
  rw [ho] at ho'; cases ho'
  exact ⟨_,es',ep',hL,r'⟩) hok I.bare
theorem Inv.call {g':Array GenState} {t':Nat} {d':Drawn} {ch:List Addr} (I:Inv X pins σ H s) (u:Un (frs X.stack) ch H H' s.heap h') (hok:HOk X.prog X.w H' h') (hg:AllBare g')
  (hch:∀ b∈ch,(b∈X.ex\/X.s₀.heap.objs.size<=b)/\b≠X.env.locals/\(∀ x c,X.env.cells.lookup x=some c->c≠b)/\∀ p∈X.pn++pins,p.1≠b) :
  Inv X pins σ H' { s with heap:=h',gens:=g',drawn:=d',toks:=t' }:=by
 obtain ⟨m,⟨o,es,ep,ho,r⟩,_⟩:=id I.loc
 obtain ⟨sl,hL⟩:=u.any ho I.free fun z=>(hch _ z).2.1 rfl
 exact I.step (ch:=ch) hch (fun b o hL hb hc e n=>u.keep b o e n (fun z=>(List.mem_cons.mp (I.stkSub b z)).elim hL hb) hc) (fun b o _ _ hc e n=>u.any e n hc) (fun b o hc e n=>u.free b o e n hc) (fun b o hc e=>u.there b o e hc) u.tups u.frzs u.tbls (fun m' hm=>by
  obtain ⟨o',es',ep',ho',r'⟩:=hm
  rw [ho] at ho'; cases ho'
  exact ⟨_,es',ep',hL,r'⟩) hok hg
theorem Inv.turned {t':Nat} {it:Addr} (I:Inv X pins σ H s) (k:∀ b o,b≠it->s.heap.get? b=some o->h'.get? b=some o) (hn:H it=none) (hL:it≠X.env.locals)
  (h1:it∈X.ex\/X.s₀.heap.objs.size<=it) (h2:∀ x c,X.env.cells.lookup x=some c->c≠it) (h3:∀ p∈X.pn++pins,p.1≠it):Inv X pins σ H { s with heap:=h',toks:=t' }:=by
 have nit:∀ b u,H b=some u->b≠it:=fun b u e z=>by rw [z,hn] at e; cases e
 refine I.step (g':=s.gens) (d':=s.drawn) (ch:=[it]) (fun b hb=>?_) (fun b o _ _ hc e _=>k b o (fun z=>hc (by simp [z])) e) (fun b o _ _ hc e _=>⟨o.slots,k b o (fun z=>hc (by simp [z])) e⟩) (fun _ _ _ _ n=>n)
  (fun b o hc e=>⟨o,k b o (fun z=>hc (by simp [z])) e⟩) (fun _ _ e=>e) (fun _ _ _ e=>e) (fun b ps e=>⟨#[],by rw [e]; simp⟩) (fun m hm=>?_) (fun b u e=>?_) I.bare
 ·have e:b=it:=by simpa using hb
  subst e
  exact ⟨h1,hL,h2,h3⟩
 ·obtain ⟨o,es,ep,ho,r⟩:=hm
  exact ⟨o,es,ep,k _ o (Ne.symm hL) ho,r⟩
 ·refine (I.hok b u e).stay (fun c v hc q=>k c v ?_ q) (fun _ q=>q) fun _ _ q=>q
  rcases hc with z | z
  ·rw [z]; exact nit b u e
  ·exact nit c _ z
theorem Inv.tok (I:Inv X pins σ H s) (t:Nat):Inv X pins σ H { s with toks:=t }:=I.un (h':=s.heap) (t':=t) Un.refl I.hok
theorem Inv.kept {t':Nat} (I:Inv X pins σ H s) (k:∀ b u,s.heap.get? b=some u->h'.get? b=some u):Inv X pins σ H { s with heap:=h',toks:=t' }:=I.un (Un.kept k) (I.hok.kept k)
theorem Inv.laid {a:Addr} {o:HO} {t':Nat} (I:Inv X pins σ H s) (k:∀ b u,s.heap.get? b=some u->h'.get? b=some u) (hp:s.heap.objs.size<=a) (new:zB5 X.prog X.w (upd H a o) h' a o) :
  Inv X pins σ (upd H a o) { s with heap:=h',toks:=t' }:=I.un (Un.laid k hp (I.hok.fresh hp)) (I.hok.laid k hp new)
theorem Inv.write {x e:Addr} {o:HO} {t':Nat} (I:Inv X pins σ H s) (mu:Mut (H x)) (he:e=x\/H e=some (.own x)) (k:∀ b u,b≠e->s.heap.get? b=some u->h'.get? b=some u) (heo:∃ u,h'.get? e=some u)
  (new:zB5 X.prog X.w (upd H x o) h' x o):Inv X pins σ (upd H x o) { s with heap:=h',toks:=t' }:=I.un (Un.write mu he k heo) (I.hok.write mu he k heo new)
theorem Inv.pins_of {pins':List (Addr × Obj)} (I:Inv X pins σ H s) (h:∀ p∈pins',s.heap.get? p.1=some p.2/\H p.1=none/\p.1≠X.env.locals/\p.1∉X.fs/\∀ v,p.2.data≠.cell v):Inv X pins' σ H s:=
 ⟨I.ok,I.os,I.bare,I.base,I.loc,I.cell,I.free,I.freeC,fun p hp=>(List.mem_append.mp hp).elim (fun z=>I.pin p (List.mem_append_left _ z)) (h p),I.hok,I.len⟩
theorem zI0 {N:List Str} (hN:N.Nodup) {i j:Nat} {x:Str} (a:N[i]? = some x) (b:N[j]? = some x):i=j:=by
 obtain ⟨h1,e1⟩:=List.getElem?_eq_some_iff.mp a
 obtain ⟨h2,e2⟩:=List.getElem?_eq_some_iff.mp b
 exact (List.getElem_inj hN).mp (e1.trans e2.symm)
theorem zFx {M:Model} {A:Around} {E:Value->Shared->Prop} {i:Nat} {x:Str} {v:V} {u:Value} {Q:Unit->Shared->Prop} (I:Inv X pins σ H s) (hN:X.N.Nodup) (hi:X.N[i]? = some x) (hx:Loc X.env.scope x) (r:RelV v u)
  (h:∀ s',Inv X pins (σ.set i (some v)) H s'->(∃ a,Heap.SameBut a s.heap s'.heap/\(a=X.env.locals\/X.env.cells.lookup x=some a))->Q () s') (hf:X.fn x=true\/X.env.scope.names.lookup x=some .local:=by first | exact .inl rfl | exact .inr rfl | assumption):wpAny M A (storeName X.env x u) Q E s:=by
 obtain ⟨m,hn,hl⟩:=id I.loc
 have hcls:(X.env.scope.kind == .class || (X.env.scope.kind == .module && X.env.locals != X.env.globals))=false:=by rw [I.ok.kind]; rfl
 have hiσ:i < σ.length:=by rw [I.len]; exact (List.getElem?_eq_some_iff.mp hi).1
 have cne:=I.cne
 have tracked:∀ {a:Addr} {h':Heap},(∃ o,s.heap.get? a=some o/\H a=none)->Heap.SameBut a s.heap h'->HOk X.prog X.w H h':=fun {a h'} ha hs b ob e=>by
  obtain ⟨_,_,hfree⟩:=ha
  refine (I.hok b ob e).stay (fun c w' hc q=>(hs.2 c ?_).trans q) (fun _ q=>q) fun _ _ q=>q
  rintro rfl
  rcases hc with rfl | hc
  ·rw [hfree] at e; cases e
  ·rw [hfree] at hc; cases hc
 rcases hx with hk | hk
 ·refine wpAny_storeName_local hk hn (fun h' hn' hs=>?_) hcls
  obtain ⟨oL,_,_,hoL,_⟩:=id hn
  refine h _ ⟨I.ok,I.os,I.bare,⟨fun b o e n hb hx=>?_,fun b o e n hb hx=>?_,I.base.free,fun b o e hx=>?_,I.base.tups,I.base.frzs,I.base.tbls⟩,⟨_,hn',fun j y v' e1 e2 e3=>?_⟩,fun y c e=>?_,I.free,I.freeC,fun p hp=>?_,tracked ⟨oL,hoL,I.free⟩ hs,by simpa using I.len⟩ ⟨_,hs,.inl rfl⟩
  ·exact (hs.2 b (Nat.ne_of_lt (Nat.lt_of_lt_of_le (Heap.lt_size e) I.ok.above))).trans (I.base.keep b o e n hb hx)
  ·obtain ⟨sl,e1⟩:=I.base.slot b o e n hb hx
   exact ⟨sl,(hs.2 b (Nat.ne_of_lt (Nat.lt_of_lt_of_le (Heap.lt_size e) I.ok.above))).trans e1⟩
  ·obtain ⟨o',e1⟩:=I.base.there b o e hx
   exact ⟨o',(hs.2 b (Nat.ne_of_lt (Nat.lt_of_lt_of_le (Heap.lt_size e) I.ok.above))).trans e1⟩
  ·by_cases hj:j=i
   ·subst hj
    rw [hi] at e1; cases e1
    rw [List.getElem?_set_self hiσ] at e2
    cases e2
    exact ⟨u,r,.inl ⟨hk,by simp⟩⟩
   ·rw [List.getElem?_set_ne (Ne.symm hj)] at e2
    obtain ⟨u',r',q⟩:=hl j y v' e1 e2 e3
    refine ⟨u',r',?_⟩
    rcases q with ⟨k,e⟩ | ⟨k,c,e,z⟩
    ·refine .inl ⟨k,?_⟩
     have:y≠x:=fun e=>hj (zI0 hN e1 (e ▸ hi))
     simp [this,e]
    ·exact .inr ⟨k,c,e,z.sameBut hs (cne y c e)⟩
  ·obtain ⟨w',z⟩:=I.cell y c e
   exact ⟨w',z.sameBut hs (cne y c e)⟩
  ·obtain ⟨e,n,ne,nf,d⟩:=I.pin p hp
   exact ⟨(hs.2 p.1 ne).trans e,n,ne,nf,d⟩
 ·have hfn:X.fn x=true:=by
   rcases hf with z | z
   ·exact z
   ·rw [z] at hk; cases hk
  obtain ⟨c,hc⟩:=I.ok.has x (.inl hk)
  obtain ⟨w',z⟩:=I.cell x c hc
  refine wpAny_storeName_cell I.ok.kind hk hc z (fun h' hc' hs=>?_)
  obtain ⟨oc,hoc,hocd⟩:=id z
  refine h { s with heap:=h' } ⟨I.ok,I.os,I.bare,⟨fun b o e n hb hx=>?_,fun b o e n hb hx=>?_,I.base.free,fun b o e hx=>?_,I.base.tups,I.base.frzs,I.base.tbls⟩,⟨m,hn.sameBut hs (Ne.symm (cne x c hc)),fun j y v' e1 e2 e3=>?_⟩,fun y c' e=>?_,I.free,I.freeC,fun p hp=>?_,tracked ⟨oc,hoc,I.freeC x c hc⟩ hs,by simpa using I.len⟩ ⟨c,hs,.inr hc⟩
  ·exact (hs.2 b (Nat.ne_of_lt (Nat.lt_of_lt_of_le (Heap.lt_size e) (I.ok.cab x c hfn hc)))).trans (I.base.keep b o e n hb hx)
  ·obtain ⟨sl,e1⟩:=I.base.slot b o e n hb hx
   exact ⟨sl,(hs.2 b (Nat.ne_of_lt (Nat.lt_of_lt_of_le (Heap.lt_size e) (I.ok.cab x c hfn hc)))).trans e1⟩
  ·obtain ⟨o',e1⟩:=I.base.there b o e hx
   exact ⟨o',(hs.2 b (Nat.ne_of_lt (Nat.lt_of_lt_of_le (Heap.lt_size e) (I.ok.cab x c hfn hc)))).trans e1⟩
  ·by_cases hj:j=i
   ·subst hj
    rw [hi] at e1; cases e1
    rw [List.getElem?_set_self hiσ] at e2
    cases e2
    exact ⟨u,r,.inr ⟨.inl hk,c,hc,hc'⟩⟩
   ·rw [List.getElem?_set_ne (Ne.symm hj)] at e2
    obtain ⟨u',r',q⟩:=hl j y v' e1 e2 e3
    refine ⟨u',r',?_⟩
    rcases q with q | ⟨k,c',e,z'⟩
    ·exact .inl q
    ·refine .inr ⟨k,c',e,z'.sameBut hs ?_⟩
     rintro rfl
     exact hj (zI0 hN e1 (I.ok.inj _ _ _ e hc ▸ hi))
  ·by_cases hcc:c'=c
   ·subst hcc; exact ⟨_,hc'⟩
   ·obtain ⟨w2,z2⟩:=I.cell y c' e
    exact ⟨w2,z2.sameBut hs hcc⟩
  ·obtain ⟨e,n,ne,nf,d⟩:=I.pin p hp
   refine ⟨(hs.2 p.1 ?_).trans e,n,ne,nf,d⟩
   intro q
   rw [q,hoc] at e
   have q':oc=p.2:=Option.some.inj e
   exact d w' (by rw [<- q']; exact hocd)
theorem zEX {M:Model} {A:Around} {E:Value->Shared->Prop} {i:Nat} {x:Str} {v:V} {u:Value} {Q:Unit->Shared->Prop} (I:Inv X pins σ H s) (hN:X.N.Nodup) (hi:X.N[i]? = some x) (hx:Loc X.env.scope x) (r:RelV v u)
  (h:∀ s',Inv X pins (σ.set i (some v)) H s'->Q () s') (hf:X.fn x=true\/X.env.scope.names.lookup x=some .local:=by first | exact .inl rfl | exact .inr rfl | assumption):wpAny M A (storeName X.env x u) Q E s:=
 zFx I hN hi hx r (fun s' I' _=>h s' I') hf
theorem Inv.call' {s':Shared} {ch:List Addr} (I:Inv X pins σ H s) (ho:s'.os=s.os) (u:Un (frs X.stack) ch H H' s.heap s'.heap) (hok:HOk X.prog X.w H' s'.heap) (hg:AllBare s'.gens)
  (hch:∀ b∈ch,(b∈X.ex\/X.s₀.heap.objs.size<=b)/\b≠X.env.locals/\(∀ x c,X.env.cells.lookup x=some c->c≠b)/\∀ p∈X.pn++pins,p.1≠b):Inv X pins σ H' s':=by
 obtain ⟨h',g',d',t',o'⟩:=s'
 have e:o'=s.os:=ho
 subst e
 exact I.call (g':=g') (t':=t') (d':=d') u hok hg hch
end
abbrev XK:=Value->Option Addr->Hp->Prop
abbrev St:=List (Option V)
abbrev VK:=V->Hp->Prop
abbrev TE:=St->Hp->VK->Prop
abbrev TT:=St->Hp->(Bool->Hp->Prop)->Prop
abbrev TA:=St->Hp->(List V->Hp->Prop)->Prop
structure Ends where
 nx:St->Hp->Prop
 rt:VK
 bk:St->Hp->Prop:=fun _ _=>False
 ct:St->Hp->Prop:=fun _ _=>False
abbrev TS:=Ends->St->Hp->Prop
def EP (X:Cx) (pins:List (Addr × Obj)) (σ:St) (Q:VK) (u:Value) (s':Shared):Prop:=∃ v H',Inv X pins σ H' s'/\RelV v u/\Q v H'
def TP (X:Cx) (pins:List (Addr × Obj)) (σ:St) (Q:Bool->Hp->Prop) (b:Bool) (s':Shared):Prop:=∃ H',Inv X pins σ H' s'/\Q b H'
def AP (X:Cx) (pins:List (Addr × Obj)) (σ:St) (Q:List V->Hp->Prop) (us:List Value) (s':Shared):Prop:=∃ vs H',Inv X pins σ H' s'/\Vals vs us/\Q vs H'
def SP (X:Cx) (pins:List (Addr × Obj)) (D:Ends) (f:Flow) (s':Shared):Prop:=
 match f with
 | .next=>∃ σ' H',Inv X pins σ' H' s'/\D.nx σ' H'
 | .brk=>∃ σ' H',Inv X pins σ' H' s'/\D.bk σ' H'
 | .cont=>∃ σ' H',Inv X pins σ' H' s'/\D.ct σ' H'
 | .ret u=>∃ v σ' H',Inv X pins σ' H' s'/\RelV v u/\D.rt v H'
def PE (X:Cx) (e:Expr) (t:TE):Prop:=
 ∀ (pins:List (Addr × Obj)) (s:Shared) (σ:St) (H:Hp) (Q:VK),Inv X pins σ H s->t σ H Q->wpAny (model X.prog X.w) X.A (eval e X.env) (EP X pins σ Q) X.xe s
def PT (X:Cx) (e:Expr) (t:TT):Prop:=
 ∀ (pins:List (Addr × Obj)) (s:Shared) (σ:St) (H:Hp) (Q:Bool->Hp->Prop),Inv X pins σ H s->t σ H Q->wpAny (model X.prog X.w) X.A (isTrue e X.env (eval e X.env)) (TP X pins σ Q) X.xe s
def PW (X:Cx) (e:Expr) (t:TT):Prop:=
 ∀ (whole:Sem Value) (pins:List (Addr × Obj)) (s:Shared) (σ:St) (H:Hp) (Q:Bool->Hp->Prop),Inv X pins σ H s->t σ H Q->wpAny (model X.prog X.w) X.A (isTrue e X.env whole) (TP X pins σ Q) X.xe s
theorem PW.pt {X:Cx} {e:Expr} {t:TT} (h:PW X e t):PT X e t:=h _
def PA (X:Cx) (es:List Expr) (t:TA):Prop:=
 ∀ (pos:Pos) (pins:List (Addr × Obj)) (s:Shared) (σ:St) (H:Hp) (Q:List V->Hp->Prop),Inv X pins σ H s->t σ H Q->wpAny (model X.prog X.w) X.A (spliced (backTo pos (starEach es X.env))) (AP X pins σ Q) X.xe s
def PS (X:Cx) (st:Stmt) (t:TS):Prop:=
 ∀ (pins:List (Addr × Obj)) (s:Shared) (σ:St) (H:Hp) (D:Ends),Inv X pins σ H s->t D σ H->wpAny (model X.prog X.w) X.A (exec st X.env) (SP X pins D) X.xe s
def PSs (X:Cx) (st:List Stmt) (t:TS):Prop:=
 ∀ (pins:List (Addr × Obj)) (s:Shared) (σ:St) (H:Hp) (D:Ends),Inv X pins σ H s->t D σ H->wpAny (model X.prog X.w) X.A (execs st X.env) (SP X pins D) X.xe s
theorem thn {α:Type} {t:Sem α} {Q Q':α->Shared->Prop} {M:Model} {A:Around} {E:Value->Shared->Prop} {s:Shared} (h:wpAny M A t Q E s) (hQ:∀ a s,Q a s->Q' a s):wpAny M A t Q' E s:=wpAny_mono h hQ fun _ _ x=>x
end L2
namespace L2
open PySem PySem.Spec PyProof.Rows
section
variable {X:Cx}
def tVar (i:Nat):TE:=fun σ H Q=>∃ v,σ[i]? = some (some v)/\Q v H
def tC (v:V):TE:=fun _ H Q=>Q v H
theorem zN5 {i:Nat} {x:Str} {pos:Pos} (hN:X.N[i]? = some x) (hv:Vis X.env.scope x) (hd:(x == ("__debug__" : Str))=false:=by decide) (hcd:(x == ("__classdict__" : Str))=false:=by decide):PE X (.Name x pos) (tVar i):=by
 intro pins s σ H Q I h
 obtain ⟨v,e,h⟩:=h
 obtain ⟨m,hn,hl⟩:=I.loc
 obtain ⟨u,r,l⟩:=hl i x v hN e hv
 have fin:EP X pins σ Q u s:=⟨v,H,I,r,h⟩
 rcases l with ⟨hk,hm⟩ | ⟨hk,c,hc,hcell⟩
 ·exact wpAny_Name (wpAny_loadName_local I.ok.kind hk hn hm fin) hd
 ·rcases hk with hk | hk
  ·exact wpAny_Name (wpAny_loadName_cell I.ok.kind hk hc hcell fin) hd
  ·exact wpAny_Name (wpAny_loadName_free I.ok.kind hk hc hcell fin hcd) hd
theorem zAE {i j pos}:PE X (.Constant (.int i) j pos) (tC (.int i)):=fun _ _ _ H _ I h=>wpAny_Constant_int ⟨.int i,H,I.tok _,⟨_,rfl⟩,h⟩
theorem zFU {b j pos}:PE X (.Constant (.bool b) j pos) (tC (.bl b)):=fun _ _ _ H _ I h=>Constant_bool ⟨.bl b,H,I,rfl,h⟩
theorem zHZ {j pos}:PE X (.Constant .none j pos) (tC .non):=fun _ _ _ H _ I h=>Constant_none ⟨.non,H,I,rfl,h⟩
theorem zMe {x j pos}:PE X (.Constant (.str x) j pos) (tC (.str x)):=fun _ _ _ H _ I h=>Calls.Constant_str ⟨.str x,H,I.tok _,⟨_,rfl⟩,h⟩
def Gl (X:Cx) (x:Str):Prop:=X.env.kindOf x=some .globalImplicit
theorem zFG {E:Value->Shared->Prop} {pins:List (Addr × Obj)} {s:Shared} {σ:St} {H:Hp} {x:Str} {u:Value} {pos:Pos} {Q:Value->Shared->Prop} (I:Inv X pins σ H s) (hg:Gl X x) (hm:X.mg x=some u) (h:Q u s)
  (hd:(x == ("__debug__" : Str))=false:=by decide):wpAny (model X.prog X.w) X.A (eval (.Name x pos) X.env) Q E s:=
 Calls.Name_function_global I.ok.kind hg (Calls.loadGlobal_global (by rw [I.ok.glob]; exact I.mod.glob.keeps I.bk) hm h) hd
theorem zHg {E:Value->Shared->Prop} {pins:List (Addr × Obj)} {s:Shared} {σ:St} {H:Hp} {x:Str} {u:Value} {pos:Pos} {Q:Value->Shared->Prop} (I:Inv X pins σ H s) (hg:Gl X x) (hm:X.mg x=none) (hv:bootBuiltins x=some u) (h:Q u s)
  (hn:x≠"__name__":=by decide) (hd:(x == ("__debug__" : Str))=false:=by decide):wpAny (model X.prog X.w) X.A (eval (.Name x pos) X.env) Q E s:=by
 obtain ⟨mb,h1,h2⟩:=I.mod.blt
 exact Calls.Name_function_global I.ok.kind hg (Calls.loadGlobal_builtin (by rw [I.ok.glob]; exact I.mod.glob.keeps I.bk) hm (by rw [I.ok.blt]; exact h1.keeps I.bk) ((h2 x hn).trans hv) h) hd
theorem zKb {x:Str} {v:V} {u:Value} {pos:Pos} (hg:Gl X x) (hm:X.mg x=some u) (r:RelV v u) (hd:(x == ("__debug__" : Str))=false:=by decide):PE X (.Name x pos) (tC v):=
 fun _ _ _ H _ I h=>zFG I hg hm ⟨v,H,I,r,h⟩ hd
theorem zBr {x:Str} {v:V} {u:Value} {pos:Pos} (hg:Gl X x) (hm:X.mg x=none) (hv:bootBuiltins x=some u) (r:RelV v u) (hn:x≠"__name__":=by decide) (hd:(x == ("__debug__" : Str))=false:=by decide):PE X (.Name x pos) (tC v):=
 fun _ _ _ H _ I h=>zHg I hg hm hv ⟨v,H,I,r,h⟩ hn hd
variable {a b:Expr} {ta tb:TE} {pos:Pos}
def PC (X:Cx) (op:CmpOp) (a b:Expr) (t:TE):Prop:=
 ∀ (pins:List (Addr × Obj)) (s:Shared) (σ:St) (H:Hp) (Q:VK),Inv X pins σ H s->t σ H Q->
  wpAny (model X.prog X.w) X.A (eval a X.env) (fun v s₁=>wpAny (model X.prog X.w) X.A (eval b X.env) (fun u s₂=>wpAny (model X.prog X.w) X.A (compareOp op v u) (EP X pins σ Q) X.xe s₂) X.xe s₁) X.xe s
def tB (t:TE):TT:=fun σ H Q=>t σ H fun x H1=>∃ c,x=.bl c/\Q c H1
theorem zNx {op:CmpOp} {t:TE} (h:PC X op a b t) (h1:behindInMarks op b=false:=by first | exact nobehind _ (by decide) (by decide) | rfl):PT X (.Compare a [op] [b] pos) (tB t):=by
 intro pins s σ H Q I hw
 refine wpAny_isTrue_Compare1 (thn (h pins s σ H _ I hw) fun v s1 h1=>thn h1 fun u s2 h2=>thn h2 fun c s3 ⟨x,H1,I1,r1,q1⟩=>?_) h1
 obtain ⟨d,rfl,q⟩:=q1
 cases r1
 exact wpAny_truthy_bool ⟨H1,I1,q⟩
theorem zBF {e:Expr} {t:TE} (h:PE X e t) (he:∀ whole,isTrue e X.env whole=(do let v <- whole; standAt e.pos; holding [v] (truthy v)):=by intro _; rfl):PT X e (tB t):=by
 intro pins s σ H Q I hw
 refine isTrue_plain (thn (h pins s σ H _ I hw) fun v s1 ⟨x,H1,I1,r1,q1⟩=>?_) (he _)
 obtain ⟨d,rfl,q⟩:=q1
 cases r1
 exact wpAny_truthy_bool ⟨H1,I1,q⟩
variable {tA tB':TT} {rest:List Expr}
def tOr (t u:TT):TT:=fun σ H Q=>t σ H fun c H1=>if c=true then Q true H1 else u σ H1 Q
def tNot (t:TT):TT:=fun σ H Q=>t σ H fun c H1=>Q (!c) H1
theorem zDX (ha:PT X a tA):PW X (.BoolOp .Or [a] pos) tA:=by
 intro wh pins s σ H Q I h
 refine isTrue_or (thn (ha pins s σ H Q I h) fun c s1 e=>?_)
 cases c with
 | false=>exact isTrue_or_nil e
 | true=>exact e
theorem zEk (ha:PT X a tA) (hb:PW X (.BoolOp .Or (b :: rest) pos) tB'):PW X (.BoolOp .Or (a :: b :: rest) pos) (tOr tA tB'):=by
 intro wh pins s σ H Q I h
 refine isTrue_or (thn (ha pins s σ H _ I h) fun c s1 ⟨H1,I1,q1⟩=>?_)
 cases c with
 | true=>exact ⟨H1,I1,q1⟩
 | false=>exact hb wh pins s1 σ H1 Q I1 q1
theorem zB9 (ha:PT X a tA):PT X (.UnaryOp .Not a pos) (tNot tA):=by
 intro pins s σ H Q I h
 exact isTrue_not (ha pins s σ H (fun c H1=>Q (!c) H1) I h)
def tAndV (ta tb:TE):TE:=fun σ H Q=>ta σ H fun x H1=>∃ c,x=.bl c/\if c=true then tb σ H1 Q else Q (.bl false) H1
def tNotV (ta:TE):TE:=fun σ H Q=>ta σ H fun x H1=>∃ c,x=.bl c/\Q (.bl (!c)) H1
theorem zEn {op} {t:TE} (h:PE X a t):PE X (.BoolOp op [a] pos) t:=fun pins s σ H Q I hw=>BoolOp_one (h pins s σ H Q I hw)
theorem zDZ (ha:PE X a ta) (hb:PE X (.BoolOp .And (b :: rest) pos) tb):PE X (.BoolOp .And (a :: b :: rest) pos) (tAndV ta tb):=by
 intro pins s σ H Q I h
 refine BoolOp_and (thn (ha pins s σ H _ I h) fun v s1 ⟨x,H1,I1,r1,q1⟩=>?_)
 obtain ⟨c,rfl,q1⟩:=q1
 cases r1
 refine wpAny_truthy_bool ?_
 cases c with
 | true=>exact hb pins s1 σ H1 Q I1 q1
 | false=>exact ⟨.bl false,H1,I1,rfl,q1⟩
theorem zN6 (ha:PE X a ta):PE X (.UnaryOp .Not a pos) (tNotV ta):=by
 intro pins s σ H Q I h
 refine UnaryOp_ (thn (ha pins s σ H _ I h) fun v s1 ⟨x,H1,I1,r1,q1⟩=>?_)
 obtain ⟨c,rfl,q1⟩:=q1
 cases r1
 exact not_of (wpAny_truthy_bool ⟨.bl (!c),H1,I1,rfl,q1⟩)
def tIf (t:TT) (ta tb:TE):TE:=fun σ H Q=>t σ H fun c H1=>if c=true then ta σ H1 Q else tb σ H1 Q
theorem zIy {c:Expr} (hc:PT X c tA) (ha:PE X a ta) (hb:PE X b tb):PE X (.IfExp c a b pos) (tIf tA ta tb):=by
 intro pins s σ H Q I h
 refine wpAny_IfExp (thn (hc pins s σ H _ I h) fun d s1 ⟨H1,I1,q1⟩=>?_)
 cases d with
 | true=>exact ha pins s1 σ H1 Q I1 q1
 | false=>exact hb pins s1 σ H1 Q I1 q1
end
end L2
namespace L2
open PySem PySem.Spec PyProof.Rows
def SqL (K:PySem.W.Frag) (H:Hp) (a:Addr) (xs:List V):Prop:=
 Rd H a (.lst xs)∨
  ∃ (o:Obj) (its:Array Value) (n:Nat),K.lookup a=some o/\o.cls=.type "list"/\o.dict=none/\o.data=.seq its n/\its.size<=sizeLine/\Vals xs its.toList
def SqT (K:PySem.W.Frag) (H:Hp) (a:Addr) (xs:List V):Prop:=
 Rd H a (.tup xs)∨
  ∃ (o:Obj) (its:Array Value) (n:Nat),K.lookup a=some o/\o.cls=.type "tuple"/\o.data=.seq its n/\its.size<=sizeLine/\Vals xs its.toList
def absV:Value->Option V
 | .none=>some .non
 | .bool b=>some (.bl b)
 | .int i _=>some (.int i)
 | .str x _=>some (.str x)
 | .bytes b _=>some (.byt b)
 | .float b _=>some (.flt b)
 | .ref a=>some (.ref a)
 | .type n=>some (.ty n)
 | _=>none
theorem RelV.abs {x:V} {u:Value} (r:RelV x u):absV u=some x:=by
 cases x with
 | non=>cases r; rfl
 | bl _=>cases r; rfl
 | int _=>obtain ⟨t,rfl⟩:=r; rfl
 | str _=>obtain ⟨t,rfl⟩:=r; rfl
 | byt _=>obtain ⟨t,rfl⟩:=r; rfl
 | flt _=>obtain ⟨t,rfl⟩:=r; rfl
 | ref _=>cases r; rfl
 | ty _=>cases r; rfl
theorem RelV.inj {x y:V} {u:Value} (r:RelV x u) (q:RelV y u):x=y:=Option.some.inj (r.abs.symm.trans q.abs)
theorem Vals.inj:∀ {xs ys:List V} {us:List Value},Vals xs us->Vals ys us->xs=ys
 | _,_,_,.nil,.nil=>rfl
 | _,_,_,.cons r t,.cons r' t'=>by rw [r.inj r',Vals.inj t t']
section
variable {X:Cx} {pins:List (Addr × Obj)} {σ:St} {H:Hp} {s:Shared} {a:Addr} {xs ys:List V}
theorem SqL.of {K:PySem.W.Frag} (h:H a=some (.lst xs)):SqL K H a xs:=.inl (.inl h)
theorem SqT.of {K:PySem.W.Frag} (h:H a=some (.tup xs)):SqT K H a xs:=.inl (.inl h)
theorem Inv.list (I:Inv X pins σ H s) (h:SqL X.K H a xs):∃ its:List Value,Vals xs its/\PlainL s.heap a its.toArray/\xs.length<=sizeLine:=by
 rcases h with h | ⟨o,its,n,hk,hc,hd,hs,hz,r⟩
 ·obtain ⟨z,its,n,r,e⟩:=h.ok I.hok
  exact ⟨its,r,⟨_,n,e,rfl,rfl,rfl⟩,z⟩
 ·refine ⟨its.toList,r,⟨o,n,I.kIn a o hk,hc,hd,by simpa using hs⟩,?_⟩
  have e:=r.length
  simp only [Array.length_toList] at e
  omega
theorem Inv.tuple (I:Inv X pins σ H s) (h:SqT X.K H a xs):∃ its:List Value,Vals xs its/\IsTup s.heap a its.toArray/\xs.length<=sizeLine:=by
 rcases h with h | ⟨o,its,n,hk,hc,hs,hz,r⟩
 ·obtain ⟨z,its,r,p⟩:=h.ok I.hok
  exact ⟨its,r,p,z⟩
 ·refine ⟨its.toList,r,⟨o,I.kIn a o hk,hc,n,by simpa using hs⟩,?_⟩
  have e:=r.length
  simp only [Array.length_toList] at e
  omega
theorem Inv.list_inj (I:Inv X pins σ H s) (h:SqL X.K H a xs) (h':SqL X.K H a ys):xs=ys:=by
 obtain ⟨its,r,⟨o,n,e,_,_,d⟩,_⟩:=I.list h
 obtain ⟨its',r',⟨o',n',e',_,_,d'⟩,_⟩:=I.list h'
 rw [e] at e'; cases e'
 rw [d] at d'
 injection d' with d1 _
 have:its=its':=by simpa using congrArg Array.toList d1
 subst this
 exact r.inj r'
theorem Inv.tuple_inj (I:Inv X pins σ H s) (h:SqT X.K H a xs) (h':SqT X.K H a ys):xs=ys:=by
 obtain ⟨its,r,⟨o,e,_,n,d⟩,_⟩:=I.tuple h
 obtain ⟨its',r',⟨o',e',_,n',d'⟩,_⟩:=I.tuple h'
 rw [e] at e'; cases e'
 rw [d] at d'
 injection d' with d1 _
 have:its=its':=by simpa using congrArg Array.toList d1
 subst this
 exact r.inj r'
end
abbrev Cx.wish (X:Cx) (E:Value->Shared->Prop):Cx:={ X with xe:=E }
abbrev Cx.nox (X:Cx):Cx:=X.wish fun _ _=>False
theorem Cx.Ok.wish {X:Cx} (ok:X.Ok) (E:Value->Shared->Prop):(X.wish E).Ok:=
 ⟨ok.mod,ok.kind,ok.glob,ok.blt,ok.above,ok.inj,ok.has,ok.cab,ok.hd,ok.frames,ok.stk,ok.exf,ok.bs,ok.bsz,ok.noex,ok.exfs,ok.funs,ok.frf⟩
theorem Cx.Ok.unwish {X:Cx} {E:Value->Shared->Prop} (ok:(X.wish E).Ok):X.Ok:=
 ⟨ok.mod,ok.kind,ok.glob,ok.blt,ok.above,ok.inj,ok.has,ok.cab,ok.hd,ok.frames,ok.stk,ok.exf,ok.bs,ok.bsz,ok.noex,ok.exfs,ok.funs,ok.frf⟩
section
variable {X:Cx} {pins:List (Addr × Obj)} {σ:St} {H:Hp} {s:Shared} {E:Value->Shared->Prop}
theorem Inv.wish (I:Inv X pins σ H s) (E:Value->Shared->Prop):Inv (X.wish E) pins σ H s:=⟨I.ok.wish E,I.os,I.bare,I.base,I.loc,I.cell,I.free,I.freeC,I.pin,I.hok,I.len⟩
theorem Inv.unwish (I:Inv (X.wish E) pins σ H s):Inv X pins σ H s:=⟨I.ok.unwish,I.os,I.bare,I.base,I.loc,I.cell,I.free,I.freeC,I.pin,I.hok,I.len⟩
theorem SP.unwish {D:Ends} {f:Flow} {s':Shared} (h:SP (X.wish E) pins D f s'):SP X pins D f s':=by
 cases f with
 | next=>obtain ⟨σ',H',I,q⟩:=h; exact ⟨σ',H',I.unwish,q⟩
 | brk=>obtain ⟨σ',H',I,q⟩:=h; exact ⟨σ',H',I.unwish,q⟩
 | cont=>obtain ⟨σ',H',I,q⟩:=h; exact ⟨σ',H',I.unwish,q⟩
 | ret u=>obtain ⟨v,σ',H',I,r,q⟩:=h; exact ⟨v,σ',H',I.unwish,r,q⟩
theorem PSs.nox {st:List Stmt} {t:TS} (h:PSs X.nox st t):PSs X st t:=fun pins s σ H D I hw=>
 wpAny_mono (h pins s σ H D (I.wish _) hw) (fun _ _ q=>q.unwish) fun _ _ z=>False.elim z
end
section
variable {X:Cx} {st:Stmt} {rest:List Stmt} {t u:TS} {e:Expr} {te:TE} {pos:Pos}
def tNext:TS:=fun D σ H=>D.nx σ H
def tSeq (t u:TS):TS:=fun D σ H=>t { D with nx:=u D } σ H
theorem zAj:PSs X [] tNext:=fun _ _ σ H _ I h=>wpAny_execs_nil ⟨σ,H,I,h⟩
theorem zAD (h1:PS X st t) (h2:PSs X rest u):PSs X (st :: rest) (tSeq t u):=by
 intro pins s σ H D I h
 refine wpAny_execs_cons (thn (h1 pins s σ H { D with nx:=u D } I h) fun f s1 q=>?_)
 cases f with
 | next=>
  obtain ⟨σ',H',I',q⟩:=q
  exact h2 pins s1 σ' H' D I' q
 | ret v=>exact q
 | brk=>exact q
 | cont=>exact q
theorem zAH (h1:PS X st t):PSs X [st] t:=by
 intro pins s σ H D I h
 refine wpAny_execs_cons (thn (h1 pins s σ H D I h) fun f s1 q=>?_)
 cases f with
 | next=>exact wpAny_execs_nil q
 | ret v=>exact q
 | brk=>exact q
 | cont=>exact q
theorem Inv.quiet {pins:List (Addr × Obj)} {σ:St} {H:Hp} {s:Shared} (I:Inv X pins σ H s):interactive X.env=false:=by simp [interactive,I.ok.kind]
def tDrop (te:TE):TS:=fun D σ H=>te σ H fun _ H1=>D.nx σ H1
theorem zBe (he:PE X e te) (hs:swapsWith e none pos.line X.env=pure false:=by rfl):PS X (.Expr e pos) (tDrop te):=by
 intro pins s σ H D I h
 exact wpAny_Expr_any (thn (he pins s σ H _ I h) fun v s1 ⟨x,H1,I1,r1,q1⟩=>⟨σ,H1,I1,q1⟩) I.quiet hs
def tRet (te:TE):TS:=fun D σ H=>te σ H D.rt
theorem zAU (he:PE X e te):PS X (.Return (some e) pos) (tRet te):=by
 intro pins s σ H D I h
 exact wpAny_Return_some (thn (he pins s σ H _ I h) fun v s1 ⟨x,H1,I1,r1,q1⟩=>⟨x,σ,H1,I1,r1,q1⟩)
def tIfS (c:TT) (t u:TS):TS:=fun D σ H=>c σ H fun b H1=>if b=true then t D σ H1 else u D σ H1
theorem zBc {c:Expr} {a b:List Stmt} {tc:TT} (hc:PT X c tc) (ha:PSs X a t) (hb:PSs X b u):PS X (.If c a b pos) (tIfS tc t u):=by
 intro pins s σ H D I h
 refine wpAny_If (thn (hc pins s σ H _ I h) fun d s1 ⟨H1,I1,q1⟩=>?_)
 cases d with
 | true=>exact ha pins s1 σ H1 D I1 q1
 | false=>exact hb pins s1 σ H1 D I1 q1
def zNi:TS:=fun _ _ _=>False
theorem zFq:PS X st zNi:=fun _ _ _ _ _ _ h=>h.elim
end
abbrev TG:=V->St->Hp->(St->Hp->Prop)->Prop
abbrev TGs:=List V->St->Hp->(St->Hp->Prop)->Prop
def PG (X:Cx) (target:Expr) (t:TG):Prop:=
 ∀ (pins:List (Addr × Obj)) (s:Shared) (σ:St) (H:Hp) (v:V) (u:Value) (Q:St->Hp->Prop),Inv X pins σ H s->RelV v u->t v σ H Q->
  wpAny (model X.prog X.w) X.A (assign target X.env u) (fun _ s'=>∃ σ' H',Inv X pins σ' H' s'/\Q σ' H') X.xe s
def PGs (X:Cx) (ts:List Expr) (t:TGs):Prop:=
 ∀ (pins:List (Addr × Obj)) (s:Shared) (σ:St) (H:Hp) (vs:List V) (us:List Value) (Q:St->Hp->Prop),Inv X pins σ H s->Vals vs us->t vs σ H Q->
  wpAny (model X.prog X.w) X.A (assignInOrder ((assignEach ts X.env).map (·.2)) us) (fun _ s'=>∃ σ' H',Inv X pins σ' H' s'/\Q σ' H') X.xe s
section
variable {X:Cx} {pos:Pos}
def zEu (i:Nat):TG:=fun v σ H Q=>Q (σ.set i (some v)) H
theorem zAJ {i:Nat} {x:Str} (hN:X.N.Nodup) (hi:X.N[i]? = some x) (hx:Loc X.env.scope x) (hf:X.fn x=true\/X.env.scope.names.lookup x=some .local:=by first | exact .inl rfl | exact .inr rfl | assumption):PG X (.Name x pos) (zEu i):=by
 intro pins s σ H v u Q I r h
 exact wpAny_assign_Name (zEX I hN hi hx r (fun s' I'=>⟨_,H,I',h⟩) hf)
def gNil:TGs:=fun vs σ H Q=>vs=[]/\Q σ H
def zGJ (t:TG) (u:TGs):TGs:=fun vs σ H Q=>∃ v r,vs=v :: r/\t v σ H fun σ' H'=>u r σ' H' Q
theorem zCQ:PGs X [] gNil:=by
 intro pins s σ H vs us Q I r h
 obtain ⟨e,h⟩:=h
 subst e
 cases r
 exact assignInOrder_nil ⟨σ,H,I,h⟩
theorem zAY {e:Expr} {es:List Expr} {t:TG} {u:TGs} (h1:PG X e t) (h2:PGs X es u)
  (hs:(assignEach (e :: es) X.env).map (·.2)=assign e X.env :: (assignEach es X.env).map (·.2):=by rfl):PGs X (e :: es) (zGJ t u):=by
 intro pins s σ H vs us Q I r h
 obtain ⟨v,vr,e1,h⟩:=h
 subst e1
 cases r with
 | cons r rr=>
  rw [hs]
  refine assignInOrder_cons (thn (h1 pins s σ H _ _ _ I r h) fun _ s1 ⟨σ1,H1,I1,q1⟩=>?_)
  exact h2 pins s1 σ1 H1 _ _ Q I1 rr q1
def gTup (K:PySem.W.Frag) (n:Nat) (t:TGs):TG:=fun v σ H Q=>∃ a xs,v=.ref a/\SqT K H a xs/\xs.length=n/\t xs σ H Q
theorem zDD {es:List Expr} {k:Nat} {t:TGs} {n:Nat} (hc:X.calm=true) (h:PGs X es t)
  (hn:(assignEach es X.env).length=n:=by rfl) (hst:(assignEach es X.env).findIdx? (·.1)=none:=by rfl):PG X (.Tuple es k pos) (gTup X.K n t):=by
 intro pins s σ H v u Q I r hw
 obtain ⟨a,xs,e1,hq,hl,hw⟩:=hw
 subst e1
 cases r
 obtain ⟨its,rv,ht,hz⟩:=I.tuple hq
 refine assign_Tuple_tuple (I.ok.hd hc) ht (by simp [hn,<- hl,rv.length]) hst fun h' hx=>?_
 have I1:Inv X pins σ H { s with heap:=h' }:=I.kept (t':=s.toks) fun b o e=>hx b o (Nat.ne_of_lt (Heap.lt_size e)) e
 exact h pins _ σ H xs _ Q I1 (by simpa using rv) hw
def tAsg (te:TE) (g:TG):TS:=fun D σ H=>te σ H fun x H1=>g x σ H1 D.nx
theorem zGi {tg e:Expr} {te:TE} {g:TG} (he:PE X e te) (hg:PG X tg g) (hs:swapsWithSole [tg] e pos.line X.env=pure false:=by rfl) (hw:swappedStores [tg] e X.env=pure none:=by rfl)
  (h1:(assignEach [tg] X.env).map (·.2)=[assign tg X.env]:=by rfl):PS X (.Assign [tg] e pos) (tAsg te g):=by
 intro pins s σ H D I h
 refine wpAny_Assign_stores (thn (he pins s σ H _ I h) fun v s1 ⟨x,H1,I1,r1,q1⟩=>?_) hs hw
 rw [h1]
 exact thn (hg pins s1 σ H1 x v _ I1 r1 q1) fun _ s2 q=>q
theorem zAR {i:Nat} {x:Str} {e:Expr} {te:TE} {pos':Pos} (hN:X.N.Nodup) (hi:X.N[i]? = some x) (hx:Loc X.env.scope x) (he:PE X e te) (hs:swapsWith e (some (.Name x pos')) pos.line X.env=pure false:=by rfl) (hf:X.fn x=true\/X.env.scope.names.lookup x=some .local:=by first | exact .inl rfl | exact .inr rfl | assumption) :
  PS X (.Assign [.Name x pos'] e pos) (tAsg te (zEu i)):=by
 intro pins s σ H D I h
 refine wpAny_Assign_Name (thn (he pins s σ H _ I h) fun v s1 ⟨y,H1,I1,r1,q1⟩=>?_) hs
 exact zEX I1 hN hi hx r1 (fun s2 I2=>⟨_,H1,I2,q1⟩) hf
def tPar (i j:Nat) (ta:TA):TS:=fun D σ H=>ta σ H fun vs H1=>∃ v w,vs=[v,w]/\D.nx ((σ.set i (some v)).set j (some w)) H1
theorem zNz {i j:Nat} {x y:Str} {a b:Expr} {ta:TA} {px py pt:Pos} {kt k2 pt2} (hc:X.calm=true) (hN:X.N.Nodup) (hi:X.N[i]? = some x) (hj:X.N[j]? = some y) (hij:i≠j)
  (hx:X.env.scope.names.lookup x=some .local) (hy:X.env.scope.names.lookup y=some .local) (ha:PA X [a,b] ta)
  (hw:swappedStores [.Tuple [.Name x px,.Name y py] kt pt] (.Tuple [a,b] k2 pt2) X.env=pure (some [x,y]))
  (hs:swapsWithSole [.Tuple [.Name x px,.Name y py] kt pt] (.Tuple [a,b] k2 pt2) pos.line X.env=pure false:=by rfl) :
  PS X (.Assign [.Tuple [.Name x px,.Name y py] kt pt] (.Tuple [a,b] k2 pt2) pos) (tPar i j ta):=by
 intro pins s σ H D I h
 rw [exec_Assign_arm]
 refine wpAny_bind (wpAny_standAt ?_)
 rw [hs]
 refine wpAny_bind (wpAny_pure ?_)
 rw [if_neg (by decide)]
 refine wpAny_bind (Tuple_ (thn (ha _ pins s σ H _ I h) fun us s1 ⟨vs,H1,I1,r1,q1⟩=>?_))
 obtain ⟨v,w,e1,q1⟩:=q1
 subst e1
 obtain ⟨u1,u2,rfl,rv,rw'⟩:∃ u1 u2,us=[u1,u2]/\RelV v u1/\RelV w u2:=by
  cases r1 with
  | cons p q=>
   cases q with
   | cons p' q'=>
    cases q'
    exact ⟨_,_,rfl,p,p'⟩
 refine wpAny_newObj_type ?_ (by show 2<=sizeLine; decide)
 have I2:Inv X pins σ H1 { s1 with heap:=s1.heap.push { cls:=.type "tuple",data:=.seq [u1,u2].toArray } }:=I1.kept (t':=s1.toks) fun b o e=>Heap.get?_push_of_some _ e
 rw [hw]
 refine wpAny_bind (wpAny_pure ?_)
 show wpAny (model X.prog X.w) X.A (do rule "assign.swapped-stores"; let items <- unpackItems (.ref s1.heap.objs.size) 2 none; assignInOrder [fun v=>bindName X.env y v,fun v=>bindName X.env x v] items.reverse; pure Flow.next) _ _ _
 refine wpAny_bind (wpAny_rule (wpAny_bind (unpackItems_tuple (items:=#[u1,u2]) (I.ok.hd hc) (IsTup.new s1.heap _) fun h' hx'=>?_)))
 have I3:=I2.kept (h':=h') (t':=s1.toks) fun b o e=>hx' b o (Nat.ne_of_lt (Heap.lt_size e)) e
 show wpAny _ _ (assignInOrder [fun v=>bindName X.env y v,fun v=>bindName X.env x v] [u2,u1] >>= fun _=>pure Flow.next) _ _ _
 refine wpAny_bind (assignInOrder_cons (wpAny_bindName (zEX I3 hN hj (.inl hy) rw' (fun s2 I4=>?_) (.inr hy))))
 refine assignInOrder_cons (wpAny_bindName (zEX I4 hN hi (.inl hx) rv (fun s3 I5=>assignInOrder_nil (wpAny_pure ?_)) (.inr hx)))
 rw [List.set_comm _ _ (Ne.symm hij)] at I5
 exact ⟨_,H1,I5,q1⟩
end
section
variable {X:Cx} {pos:Pos}
def zMX (c:TT) (tb:TS):TS:=fun D σ H=>∃ W:Nat->St->Hp->Prop,(∃ m,W m σ H)/\∀ m σ H,W m σ H->
 c σ H fun b H1=>if b=true then ∃ N:St->Hp->Prop,(∀ σ' H',N σ' H'->∃ m',m' < m/\W m' σ' H')/\tb { D with nx:=N,ct:=N,bk:=D.nx } σ H1 else D.nx σ H1
theorem zIv {c:Expr} {body:List Stmt} {tc:TT} {tb:TS} (hp:PassesOwn (model X.prog X.w) X.A X.env X.xe) (hc:PT X c tc) (hb:PSs X body tb):PS X (.While c body [] pos) (zMX tc tb):=by
 intro pins s σ H D I h
 obtain ⟨W,⟨m0,w0⟩,turn⟩:=h
 refine wpAny_While (codeAny_whileLoop (fun n s'=>∃ σ' H',Inv X pins σ' H' s'/\W n σ' H') ?_ m0 ⟨σ,H,I,w0⟩)
 rintro n s1 ⟨σ1,H1,I1,w1⟩
 refine wpAny_passesOwn hp (thn (hc pins s1 σ1 H1 _ I1 (turn n σ1 H1 w1)) fun b s2 ⟨H2,I2,q2⟩=>?_)
 cases b with
 | true=>
  obtain ⟨N,hN,q2⟩:=q2
  rw [if_pos rfl]
  refine wpAny_passesOwn hp (thn (hb pins s2 σ1 H2 _ I2 q2) fun f s3 q3=>?_)
  cases f with
  | next=>
   obtain ⟨σ3,H3,I3,n3⟩:=q3
   obtain ⟨m',hm,w3⟩:=hN σ3 H3 n3
   exact ⟨m',hm,σ3,H3,I3,w3⟩
  | cont=>
   obtain ⟨σ3,H3,I3,n3⟩:=q3
   obtain ⟨m',hm,w3⟩:=hN σ3 H3 n3
   exact ⟨m',hm,σ3,H3,I3,w3⟩
  | brk=>exact q3
  | ret v=>exact q3
 | false=>
  rw [if_neg Bool.false_ne_true]
  exact wpAny_execs_nil ⟨σ1,H2,I2,q2⟩
end
structure It where
 go:Nat->Hp->Prop
 yld:Nat->Hp->V->Hp->Prop
 stop:Nat->Hp->Prop
def FpOk (X:Cx) (pins:List (Addr × Obj)) (H:Hp) (b:Addr):Prop:=
 H b=none/\b≠X.env.locals/\b∉X.fs/\(b∈X.ex\/X.s₀.heap.objs.size<=b)/\(∀ x c,X.env.cells.lookup x=some c->c≠b)/\∀ p∈X.pn++pins,p.1≠b
theorem Inv.fpOk {X:Cx} {pins:List (Addr × Obj)} {σ:St} {H H':Hp} {s:Shared} {b:Addr} (I:Inv X pins σ H s) (hb:s.heap.objs.size<=b) (hn:H' b=none):FpOk X pins H' b:=by
 refine ⟨hn,Nat.ne_of_gt (Nat.lt_of_lt_of_le I.lt hb),I.nofs hb,.inr (Nat.le_trans I.sz hb),fun x c e z=>?_,fun p hp z=>?_⟩
 ·obtain ⟨v,q⟩:=I.cell x c e
  exact absurd (Nat.lt_of_lt_of_le q.lt (by rw [z]; exact hb)) (Nat.lt_irrefl _)
 ·exact absurd (Nat.lt_of_lt_of_le (Heap.lt_size (I.pin p hp).1) (by rw [z]; exact hb)) (Nat.lt_irrefl _)
structure Turn (P:Program) (w:World) (K:PySem.W.Frag) (tg:Expr) (J:It) (fp:List Addr) (it:Addr) (tn:Nat->Heap->Prop):Prop where
 mem:it∈fp
 obj:∀ i h,tn i h->∀ b∈fp,∃ o,h.get? b=some o/\∀ v,o.data≠.cell v
 keep:∀ i h h',tn i h->(∀ b∈fp,∀ o,h.get? b=some o->h'.get? b=some o)->tn i h'
 item:∀ (X:Cx),X.prog=P->X.w=w->X.K=K->X.calm=true->∀ (i:Nat) (pins:List (Addr × Obj)) (s:Shared) (σ:St) (H:Hp) (E:Value->Shared->Prop),Inv X pins σ H s->(∀ b∈fp,FpOk X pins H b)->tn i s.heap->J.go i H->
  wpAny (model P w) X.A (pyNext (.ref it)) (fun r s1=>∃ u,r=some u∧
   wpAny (model P w) X.A (letOwnedTupleGo tg (.ref it) u) (fun _ s2=>∃ x H',Inv X pins σ H' s2/\RelV x u/\J.yld i H x H'/\tn (i + 1) s2.heap/\∀ b∈fp,H' b=none) E s1) E s
 done:∀ (X:Cx),X.prog=P->X.w=w->X.K=K->X.calm=true->∀ (i:Nat) (pins:List (Addr × Obj)) (s:Shared) (σ:St) (H:Hp) (E:Value->Shared->Prop),Inv X pins σ H s->(∀ b∈fp,FpOk X pins H b)->tn i s.heap->J.stop i H->
  wpAny (model P w) X.A (pyNext (.ref it)) (fun r s1=>r=none/\Inv X pins σ H s1) E s
 self:∀ (A:Around) (i:Nat) (s:Shared) (Q:Value->Shared->Prop) (E:Value->Shared->Prop),tn i s.heap->Q (.ref it) s->wpAny (model P w) A (pyIter (.ref it)) Q E s
abbrev TI:=St->Hp->(It->Hp->Prop)->Prop
def PIE (X:Cx) (pins:List (Addr × Obj)) (σ:St) (tg:Expr) (R:It->Hp->Prop) (itv:Value) (s2:Shared):Prop:=
 ∃ (it:Addr) (fp:List Addr) (tn:Nat->Heap->Prop) (J:It) (H':Hp),itv=.ref it/\Inv X pins σ H' s2/\Turn X.prog X.w X.K tg J fp it tn/\tn 0 s2.heap/\(∀ b∈fp,FpOk X pins H' b)/\R J H'
def PI (X:Cx) (tg iter:Expr) (wi:TI):Prop:=
 ∀ (pins:List (Addr × Obj)) (s:Shared) (σ:St) (H:Hp) (R:It->Hp->Prop),Inv X pins σ H s->wi σ H R->
  wpAny (model X.prog X.w) X.A (eval iter X.env) (fun v s1=>wpAny (model X.prog X.w) X.A (pyIter v) (PIE X pins σ tg R) X.xe s1) X.xe s
theorem zNJ {M:Model} {A:Around} {E:Value->Shared->Prop} {s:Shared} {tg:Expr} {it:Addr} {u:Value} {o:Obj} {n:String} {vs:Array Value} {Q:Unit->Shared->Prop} (ho:s.heap.get? it=some o) (hc:o.cls=.type n) (hd:o.data=.fields vs)
  (hn:["enumerate","zip","dict_itemiterator","dict_reverseitemiterator","odict_iterator","itertools.zip_longest","itertools.pairwise"].contains n=false) (hQ:Q () s):wpAny M A (letOwnedTupleGo tg (.ref it) u) Q E s:=by
 unfold letOwnedTupleGo
 cases tg <;> first
  | exact wpAny_pure hQ
  | (cases u <;> first
    | exact wpAny_pure hQ
    | (refine wpAny_bind (wpAny_load ho ?_)
       rw [hc,hd]
       show wpAny M A (if (["enumerate","zip","dict_itemiterator","dict_reverseitemiterator","odict_iterator","itertools.zip_longest","itertools.pairwise"].contains n && vs[0]? == some (rawInt _))=true then _ else _) Q E s
       rw [if_neg (by intro h; rw [hn,Bool.false_and] at h; cases h)]
       exact wpAny_pure hQ))
def Itl (K:PySem.W.Frag) (a:Addr):It:=
 ⟨fun i H=>∃ xs x,SqL K H a xs/\xs[i]? = some x,fun i H x H'=>H'=H/\∀ xs,SqL K H a xs->xs[i]? = some x,fun i H=>∃ xs,SqL K H a xs/\xs.length<=i⟩
def Itt (K:PySem.W.Frag) (a:Addr):It:=
 ⟨fun i H=>∃ xs x,SqT K H a xs/\xs[i]? = some x,fun i H x H'=>H'=H/\∀ xs,SqT K H a xs->xs[i]? = some x,fun i H=>∃ xs,SqT K H a xs/\xs.length<=i⟩
def Itr (lo:Int) (n:Nat):It:=⟨fun i _=>i < n,fun i H x H'=>H'=H/\x=.int (lo + i),fun i _=>n<=i⟩
theorem zKE {P:Program} {w:World} {K:PySem.W.Frag} {tg:Expr} (a it:Addr):Turn P w K tg (Itl K a) [it] it (fun i h=>h.IsListIter it a i) where
 mem:=by simp
 obj:=fun i h st b hb=>by
  have e:b=it:=by simpa using hb
  subst e
  obtain ⟨o,e,c,d⟩:=st
  exact ⟨o,e,fun v z=>by rw [d] at z; cases z⟩
 keep:=fun i h h' st k=>st.at fun o e=>k it (by simp) o e
 item:=by
  intro X hP hw hK hc i pins s σ H E I hf st hg
  subst hP hw hK
  obtain ⟨xs,x,hq,hx⟩:=hg
  obtain ⟨its,rv,p,hz⟩:=I.list hq
  obtain ⟨u,hu,ru⟩:=rv.get hx
  obtain ⟨f0,f1,f2,f3,f4,f5⟩:=hf it (by simp)
  refine wpAny_pyNext_list_item st p.isList (x:=u) (by simpa using hu) fun h' st' sb=>?_
  have I1:Inv X pins σ H { s with heap:=h' }:=I.turned (t':=s.toks) (fun b o hb e=>(sb.2 b hb).trans e) f0 f1 f3 f4 f5
  obtain ⟨o,e,c,d⟩:=id st'
  exact ⟨u,rfl,zNJ (s:={ s with heap:=h' }) e c d (by decide) ⟨x,H,I1,ru,⟨rfl,fun ys hy=>by rw [I.list_inj hy hq]; exact hx⟩,st',fun b hb=>(hf b hb).1⟩⟩
 done:=by
  intro X hP hw hK hc i pins s σ H E I hf st hg
  subst hP hw hK
  obtain ⟨xs,hq,hx⟩:=hg
  obtain ⟨its,rv,p,hz⟩:=I.list hq
  obtain ⟨f0,f1,f2,f3,f4,f5⟩:=hf it (by simp)
  have hl:=rv.length
  exact wpAny_pyNext_list_end (I.ok.hd hc) st p.isList (by simp; omega) fun h' eb=>⟨rfl,I.turned (t':=s.toks) (fun b o hb e=>eb b o hb e) f0 f1 f3 f4 f5⟩
 self:=fun _ _ _ _ _ st h=>wpAny_pyIter_listiter st h
theorem zJR {P:Program} {w:World} {K:PySem.W.Frag} {tg:Expr} (a it:Addr):Turn P w K tg (Itt K a) [it] it (fun i h=>h.IsTupleIter it a i) where
 mem:=by simp
 obj:=fun i h st b hb=>by
  have e:b=it:=by simpa using hb
  subst e
  obtain ⟨o,e,c,d⟩:=st
  exact ⟨o,e,fun v z=>by rw [d] at z; cases z⟩
 keep:=fun i h h' st k=>st.at fun o e=>k it (by simp) o e
 item:=by
  intro X hP hw hK hc i pins s σ H E I hf st hg
  subst hP hw hK
  obtain ⟨xs,x,hq,hx⟩:=hg
  obtain ⟨its,rv,p,hz⟩:=I.tuple hq
  obtain ⟨u,hu,ru⟩:=rv.get hx
  obtain ⟨f0,f1,f2,f3,f4,f5⟩:=hf it (by simp)
  refine wpAny_pyNext_tuple_item st (show s.heap.IsTuple a its.toArray from p) (x:=u) (by simpa using hu) fun h' st' sb=>?_
  have I1:Inv X pins σ H { s with heap:=h' }:=I.turned (t':=s.toks) (fun b o hb e=>(sb.2 b hb).trans e) f0 f1 f3 f4 f5
  obtain ⟨o,e,c,d⟩:=id st'
  exact ⟨u,rfl,zNJ (s:={ s with heap:=h' }) e c d (by decide) ⟨x,H,I1,ru,⟨rfl,fun ys hy=>by rw [I.tuple_inj hy hq]; exact hx⟩,st',fun b hb=>(hf b hb).1⟩⟩
 done:=by
  intro X hP hw hK hc i pins s σ H E I hf st hg
  subst hP hw hK
  obtain ⟨xs,hq,hx⟩:=hg
  obtain ⟨its,rv,p,hz⟩:=I.tuple hq
  obtain ⟨f0,f1,f2,f3,f4,f5⟩:=hf it (by simp)
  have hl:=rv.length
  exact wpAny_pyNext_tuple_end (I.ok.hd hc) st (show s.heap.IsTuple a its.toArray from p) (by simp; omega) fun h' eb=>⟨rfl,I.turned (t':=s.toks) (fun b o hb e=>eb b o hb e) f0 f1 f3 f4 f5⟩
 self:=fun _ _ _ _ _ st h=>wpAny_pyIter_tupleiter st h
theorem zJS {P:Program} {w:World} {K:PySem.W.Frag} {tg:Expr} (it:Addr) (lo:Int) (n:Nat):Turn P w K tg (Itr lo n) [it] it (fun i h=>IsRangeIter h it (lo + (i:Nat) * 1) ((n:Int) - (i:Nat)) 1) where
 mem:=by simp
 obj:=fun i h st b hb=>by
  have e:b=it:=by simpa using hb
  subst e
  exact ⟨_,st,fun v z=>by
   have z':Data.fields _=Data.cell v:=z
   cases z'⟩
 keep:=fun i h h' st k=>k it (by simp) _ st
 item:=by
  intro X hP hw hK hc i pins s σ H E I hf st hg
  subst hP hw hK
  obtain ⟨f0,f1,f2,f3,f4,f5⟩:=hf it (by simp)
  have W:=Walks.range (prog:=X.prog) (w:=X.w) (I.ok.hd hc) it lo 1 n
  refine W.item i s _ _ hg st fun v h' tk hv st' kk=>?_
  obtain ⟨t,rfl⟩:=hv
  have I1:Inv X pins σ H { s with heap:=h',toks:=tk }:=I.turned (fun b o hb e=>kk b o (by simpa using hb) e) f0 f1 f3 f4 f5
  refine ⟨_,rfl,zNJ (s:={ s with heap:=h',toks:=tk }) (n:="range_iterator") st' rfl rfl (by decide) ⟨.int (lo + i),H,I1,⟨t,?_⟩,⟨rfl,rfl⟩,st',fun b hb=>(hf b hb).1⟩⟩
  rw [Int.mul_one]
 done:=by
  intro X hP hw hK hc i pins s σ H E I hf st hg
  subst hP hw hK
  obtain ⟨f0,f1,f2,f3,f4,f5⟩:=hf it (by simp)
  exact wpAny_pyNext_range_end (I.ok.hd hc) st (by have:n<=i:=hg; omega) fun h' eb=>⟨rfl,I.turned (t':=s.toks) (fun b o hb e=>eb b o hb e) f0 f1 f3 f4 f5⟩
 self:=fun _ _ _ _ _ st h=>wpAny_pyIter_rangeiter st h
end L2
namespace L2
open PySem PySem.Spec PyProof.Rows
section
variable {X:Cx} {tg:Expr}
def iList (K:PySem.W.Frag) (tl:TE):TI:=fun σ H R=>tl σ H fun x H1=>∃ a,x=.ref a/\(∃ xs,SqL K H1 a xs)/\R (Itl K a) H1
def iTup (K:PySem.W.Frag) (tl:TE):TI:=fun σ H R=>tl σ H fun x H1=>∃ a,x=.ref a/\(∃ xs,SqT K H1 a xs)/\R (Itt K a) H1
theorem zBC {l:Expr} {tl:TE} (hl:PE X l tl):PI X tg l (iList X.K tl):=by
 intro pins s σ H R I h
 refine thn (hl pins s σ H _ I h) fun v s1 ⟨x,H1,I1,r1,q1⟩=>?_
 obtain ⟨a,e,⟨xs,hq⟩,q⟩:=q1
 subst e
 cases r1
 obtain ⟨its,rv,p,hz⟩:=I1.list hq
 refine wpAny_pyIter_list p.isList ?_
 refine ⟨s1.heap.objs.size,[s1.heap.objs.size],_,_,H1,rfl,I1.kept (t':=s1.toks) fun b o e=>Heap.get?_push_of_some _ e,zKE a _,⟨_,Heap.get?_push_size _ rfl,rfl,rfl⟩,fun b hb=>?_,q⟩
 have e:b=s1.heap.objs.size:=by simpa using hb
 subst e
 exact I1.fpOk (Nat.le_refl _) (I1.hok.fresh (Nat.le_refl _))
theorem zFO {l:Expr} {tl:TE} (hl:PE X l tl):PI X tg l (iTup X.K tl):=by
 intro pins s σ H R I h
 refine thn (hl pins s σ H _ I h) fun v s1 ⟨x,H1,I1,r1,q1⟩=>?_
 obtain ⟨a,e,⟨xs,hq⟩,q⟩:=q1
 subst e
 cases r1
 obtain ⟨its,rv,p,hz⟩:=I1.tuple hq
 refine wpAny_pyIter_tuple (show s1.heap.IsTuple a its.toArray from p) ?_
 refine ⟨s1.heap.objs.size,[s1.heap.objs.size],_,_,H1,rfl,I1.kept (t':=s1.toks) fun b o e=>Heap.get?_push_of_some _ e,zJR a _,⟨_,Heap.get?_push_size _ rfl,rfl,rfl⟩,fun b hb=>?_,q⟩
 have e:b=s1.heap.objs.size:=by simpa using hb
 subst e
 exact I1.fpOk (Nat.le_refl _) (I1.hok.fresh (Nat.le_refl _))
theorem zLv {pins:List (Addr × Obj)} {σ:St} {H:Hp} {s:Shared} {R:It->Hp->Prop} {E:Value->Shared->Prop} {lo hi:Int} {t u v:Tok} {tk:Nat} (I:Inv X pins σ H s) (h1 : -(2 ^ 62)<=lo) (h2:lo < 2 ^ 62) (h3 : -(2 ^ 62)<=hi) (h4:hi < 2 ^ 62)
  (q:R (Itr lo (hi - lo).toNat) H):wpAny (model X.prog X.w) X.A (pyIter (.ref s.heap.objs.size)) (PIE X pins σ tg R) E { s with heap:=s.heap.push { cls:=.type "range",data:=.fields #[.int lo t,.int hi u,.int 1 v] },toks:=tk }:=by
 refine wpAny_pyIter_range (IsRange.new ..) (small_one h1 h2 h3 h4) ?_
 have I1:Inv X pins σ H { s with heap:=s.heap.push { cls:=.type "range",data:=.fields #[.int lo t,.int hi u,.int 1 v] },toks:=tk }:=I.kept fun b o e=>Heap.get?_push_of_some _ e
 refine ⟨(s.heap.push { cls:=.type "range",data:=.fields #[.int lo t,.int hi u,.int 1 v] }).objs.size,[(s.heap.push { cls:=.type "range",data:=.fields #[.int lo t,.int hi u,.int 1 v] }).objs.size],_,_,H,rfl,
  I1.kept (t':=tk) fun b o e=>Heap.get?_push_of_some _ e,zJS _ lo (hi - lo).toNat,?_,fun b hb=>?_,q⟩
 ·have e1:lo + ((0:Nat):Int) * 1=lo:=by simp
  have e2:(((hi - lo).toNat:Nat):Int) - ((0:Nat):Int)=Builtin.Range.rangeSize lo hi 1:=by rw [rangeSize_one]; split <;> omega
  show IsRangeIter _ _ (lo + ((0:Nat):Int) * 1) ((((hi - lo).toNat:Nat):Int) - ((0:Nat):Int)) 1
  rw [e1,e2]
  exact Heap.get?_push_size _ rfl
 ·have e:b=(s.heap.push { cls:=.type "range",data:=.fields #[.int lo t,.int hi u,.int 1 v] }).objs.size:=by simpa using hb
  subst e
  exact I1.fpOk (Nat.le_refl _) (I1.hok.fresh (Nat.le_refl _))
def iRng1 (ta:TA):TI:=fun σ H R=>ta σ H fun vs H1=>∃ j:Int,vs=[.int j]/\-(2 ^ 62)<=j/\j < 2 ^ 62/\R (Itr 0 j.toNat) H1
theorem zAs {a:Expr} {ta:TA} {p pos:Pos} (hg:Gl X "range") (hm:X.mg "range" = none) (ha:PA X [a] ta) (hs:starEach [a] X.env=[(false,eval a X.env)]:=by rfl):PI X tg (.Call (.Name "range" p) [a] [] pos) (iRng1 ta):=by
 intro pins s σ H R I h
 refine Call_ (zHg I hg hm boot_range (PyProof.Rows.callWith_type1 (thn (ha pos pins s σ H _ I h) fun us s1 ⟨vs,H1,I1,r1,q1⟩=>?_) hs rfl))
 obtain ⟨j,e,q1,q2,q⟩:=q1
 subst e
 cases r1 with
 | cons r rr=>
  cases rr
  obtain ⟨t,rfl⟩:=r
  exact call_range_1 (zLv I1 (by omega) (by omega) q1 q2 (by simpa using q))
def tFor (wi:TI) (g:TG) (tb:TS):TS:=fun D σ H=>wi σ H fun J H1=>∃ W:Nat->Nat->St->Hp->Prop,(∃ m,W 0 m σ H1)/\∀ i m σ H,W i m σ H->
 (J.stop i H/\D.nx σ H)\/(J.go i H/\∃ N:St->Hp->Prop,(∀ σ' H',N σ' H'->∃ m',m' < m/\W (i + 1) m' σ' H')/\∀ x H',J.yld i H x H'->g x σ H' fun σ2 H2=>tb { D with nx:=N,ct:=N,bk:=D.nx } σ2 H2)
def zGj (fp:List Addr) (h:Heap):List (Addr × Obj):=fp.filterMap fun b=>(h.get? b).map fun o=>(b,o)
theorem zCN {fp:List Addr} {h:Heap} {b:Addr} {o:Obj} (hb:b∈fp) (e:h.get? b=some o):(b,o)∈zGj fp h:=List.mem_filterMap.mpr ⟨b,hb,by rw [e]; rfl⟩
theorem zKt {fp:List Addr} {h:Heap} {p:Addr × Obj} (hp:p∈zGj fp h):p.1∈fp/\h.get? p.1=some p.2:=by
 obtain ⟨b,hb,e⟩:=List.mem_filterMap.mp hp
 cases q:h.get? b with
 | none=>rw [q] at e; cases e
 | some o=>
  rw [q] at e
  have e':(b,o)=p:=Option.some.inj e
  subst e'
  exact ⟨hb,q⟩
theorem Inv.pinned {pins:List (Addr × Obj)} {σ:St} {H:Hp} {s:Shared} {fp:List Addr} (I:Inv X pins σ H s) (hf:∀ b∈fp,FpOk X pins H b) (ho:∀ b∈fp,∃ o,s.heap.get? b=some o/\∀ v,o.data≠.cell v):Inv X (pins++zGj fp s.heap) σ H s:=
 I.pins_of fun p hp=>(List.mem_append.mp hp).elim (fun z=>I.pin p (List.mem_append_right _ z)) fun z=>by
  obtain ⟨hb,e⟩:=zKt z
  obtain ⟨f0,f1,f2,_⟩:=hf p.1 hb
  obtain ⟨o,e',d⟩:=ho p.1 hb
  rw [e] at e'; cases e'
  exact ⟨e,f0,f1,f2,d⟩
theorem Inv.unpinned {pins pl:List (Addr × Obj)} {σ:St} {H:Hp} {s:Shared} (I:Inv X (pins++pl) σ H s):Inv X pins σ H s:=I.pins_of fun p hp=>I.pin p (List.mem_append_right _ (List.mem_append_left _ hp))
theorem zBy {iter:Expr} {body:List Stmt} {wi:TI} {g:TG} {tb:TS} {pos:Pos} (hp:PassesOwn (model X.prog X.w) X.A X.env X.xe) (hc:X.calm=true) (hi:PI X tg iter wi) (hg:PG X tg g) (hb:PSs X body tb)
  (hs:∀ x,foldedSetIterable iter X.env x=pure x:=by intro _; rfl):PS X (.For tg iter body [] pos) (tFor wi g tb):=by
 intro pins s σ H D I h
 refine wpAny_For (thn (hi pins s σ H _ I h) fun v s1 h1=>thn h1 fun itv s2 h2=>?_) hs
 obtain ⟨it,fp,tn,J,H2,e,I2,T,st2,f2,W,⟨m0,w0⟩,turn⟩:=h2
 subst e
 have stat:∀ {H':Hp},(∀ b∈fp,H' b=none)->∀ b∈fp,FpOk X pins H' b:=fun hn b hb=>⟨hn b hb,(f2 b hb).2⟩
 refine codeAny_forLoop_any (fun n s'=>∃ i σ' H',Inv X pins σ' H' s'/\tn i s'.heap/\(∀ b∈fp,H' b=none)/\W i n σ' H') ?_ m0 ⟨0,σ,H2,I2,st2,fun b hb=>(f2 b hb).1,w0⟩
 rintro n s3 ⟨i,σ3,H3,I3,st3,fr3,w3⟩
 rcases turn i n σ3 H3 w3 with ⟨stop,qn⟩ | ⟨go,N,hN,step⟩
 ·refine wpAny_passesOwn hp (thn (T.done X rfl rfl rfl hc i pins s3 σ3 H3 X.xe I3 (stat fr3) st3 stop) fun r s4 ⟨hr,I4⟩=>?_)
  subst hr
  exact wpAny_execs_nil ⟨σ3,H3,I4,qn⟩
 ·refine wpAny_passesOwn hp (thn (T.item X rfl rfl rfl hc i pins s3 σ3 H3 X.xe I3 (stat fr3) st3 go) fun r s4 ⟨u,hr,h4⟩=>?_)
  subst hr
  refine wpAny_passesOwn hp (thn h4 fun _ s5 ⟨x,H5,I5,r5,y5,st5,fr5⟩=>?_)
  have I5':=I5.pinned (stat fr5) (T.obj _ _ st5)
  refine wpAny_passesOwn hp (thn (hg _ s5 σ3 H5 x u _ I5' r5 (step x H5 y5)) fun _ s6 ⟨σ6,H6,I6,q6⟩=>?_)
  refine wpAny_passesOwn hp (thn (hb _ s6 σ6 H6 _ I6 q6) fun f s7 q7=>?_)
  have again:∀ {σ7:St} {H7:Hp},Inv X (pins++zGj fp s5.heap) σ7 H7 s7->N σ7 H7->∃ m,m < n/\∃ i σ' H',Inv X pins σ' H' s7/\tn i s7.heap/\(∀ b∈fp,H' b=none)/\W i m σ' H':=fun {σ7 H7} I7 n7=>by
   obtain ⟨m',hm,w7⟩:=hN σ7 H7 n7
   refine ⟨m',hm,i + 1,σ7,H7,I7.unpinned,T.keep _ _ _ st5 fun b hb o e=>(I7.pin (b,o) (List.mem_append_right _ (List.mem_append_right _ (zCN hb e)))).1,fun b hb=>?_,w7⟩
   obtain ⟨o,e,d⟩:=T.obj _ _ st5 b hb
   exact (I7.pin (b,o) (List.mem_append_right _ (List.mem_append_right _ (zCN hb e)))).2.1
  cases f with
  | next=>obtain ⟨σ7,H7,I7,n7⟩:=q7; exact again I7 n7
  | cont=>obtain ⟨σ7,H7,I7,n7⟩:=q7; exact again I7 n7
  | brk=>obtain ⟨σ7,H7,I7,q7⟩:=q7; exact ⟨σ7,H7,I7.unpinned,q7⟩
  | ret v=>obtain ⟨x7,σ7,H7,I7,r7,q7⟩:=q7; exact ⟨x7,σ7,H7,I7.unpinned,r7,q7⟩
end
theorem zED {K:PySem.W.Frag} {a:Addr} {xs:List V} {g:TG} {tb:TS} {D:Ends} {σ:St} {H:Hp} (Pv:Nat->St->Hp->Prop) (h0:Pv 0 σ H) (hl:∀ i σ H,i<=xs.length->Pv i σ H->SqL K H a xs)
  (hs:∀ i x σ H,xs[i]? = some x->Pv i σ H->g x σ H fun σ2 H2=>tb { D with nx:=Pv (i + 1),ct:=Pv (i + 1),bk:=D.nx } σ2 H2) (hd:∀ σ H,Pv xs.length σ H->D.nx σ H) :
  ∃ W:Nat->Nat->St->Hp->Prop,(∃ m,W 0 m σ H)/\∀ i m σ H,W i m σ H->
   ((Itl K a).stop i H/\D.nx σ H)\/((Itl K a).go i H/\∃ N:St->Hp->Prop,(∀ σ' H',N σ' H'->∃ m',m' < m/\W (i + 1) m' σ' H')/\∀ x H',(Itl K a).yld i H x H'->g x σ H' fun σ2 H2=>tb { D with nx:=N,ct:=N,bk:=D.nx } σ2 H2):=by
 refine ⟨fun i m σ H=>m=xs.length - i/\i<=xs.length/\Pv i σ H,⟨xs.length,by simp,Nat.zero_le _,h0⟩,?_⟩
 rintro i m σ H ⟨rfl,hi,p⟩
 have q:=hl i σ H hi p
 by_cases hlt:i < xs.length
 ·refine .inr ⟨⟨xs,xs[i],q,by simp [hlt]⟩,Pv (i + 1),fun σ' H' p'=>⟨xs.length - (i + 1),by omega,rfl,hlt,p'⟩,fun x H' y=>?_⟩
  obtain ⟨e,y⟩:=y
  subst e
  exact hs i x σ _ (y xs q) p
 ·have e:i=xs.length:=by omega
  subst e
  exact .inl ⟨⟨xs,q,Nat.le_refl _⟩,hd σ H p⟩
theorem zLG {K:PySem.W.Frag} {a:Addr} {xs:List V} {g:TG} {tb:TS} {D:Ends} {σ:St} {H:Hp} (Pv:Nat->St->Hp->Prop) (h0:Pv 0 σ H) (hl:∀ i σ H,i<=xs.length->Pv i σ H->SqT K H a xs)
  (hs:∀ i x σ H,xs[i]? = some x->Pv i σ H->g x σ H fun σ2 H2=>tb { D with nx:=Pv (i + 1),ct:=Pv (i + 1),bk:=D.nx } σ2 H2) (hd:∀ σ H,Pv xs.length σ H->D.nx σ H) :
  ∃ W:Nat->Nat->St->Hp->Prop,(∃ m,W 0 m σ H)/\∀ i m σ H,W i m σ H->
   ((Itt K a).stop i H/\D.nx σ H)\/((Itt K a).go i H/\∃ N:St->Hp->Prop,(∀ σ' H',N σ' H'->∃ m',m' < m/\W (i + 1) m' σ' H')/\∀ x H',(Itt K a).yld i H x H'->g x σ H' fun σ2 H2=>tb { D with nx:=N,ct:=N,bk:=D.nx } σ2 H2):=by
 refine ⟨fun i m σ H=>m=xs.length - i/\i<=xs.length/\Pv i σ H,⟨xs.length,by simp,Nat.zero_le _,h0⟩,?_⟩
 rintro i m σ H ⟨rfl,hi,p⟩
 have q:=hl i σ H hi p
 by_cases hlt:i < xs.length
 ·refine .inr ⟨⟨xs,xs[i],q,by simp [hlt]⟩,Pv (i + 1),fun σ' H' p'=>⟨xs.length - (i + 1),by omega,rfl,hlt,p'⟩,fun x H' y=>?_⟩
  obtain ⟨e,y⟩:=y
  subst e
  exact hs i x σ _ (y xs q) p
 ·have e:i=xs.length:=by omega
  subst e
  exact .inl ⟨⟨xs,q,Nat.le_refl _⟩,hd σ H p⟩
theorem zBd {lo:Int} {n:Nat} {g:TG} {tb:TS} {D:Ends} {σ:St} {H:Hp} (Pv:Nat->St->Hp->Prop) (h0:Pv 0 σ H)
  (hs:∀ i σ H,i < n->Pv i σ H->g (.int (lo + i)) σ H fun σ2 H2=>tb { D with nx:=Pv (i + 1),ct:=Pv (i + 1),bk:=D.nx } σ2 H2) (hd:∀ σ H,Pv n σ H->D.nx σ H) :
  ∃ W:Nat->Nat->St->Hp->Prop,(∃ m,W 0 m σ H)/\∀ i m σ H,W i m σ H->
   ((Itr lo n).stop i H/\D.nx σ H)\/((Itr lo n).go i H/\∃ N:St->Hp->Prop,(∀ σ' H',N σ' H'->∃ m',m' < m/\W (i + 1) m' σ' H')/\∀ x H',(Itr lo n).yld i H x H'->g x σ H' fun σ2 H2=>tb { D with nx:=N,ct:=N,bk:=D.nx } σ2 H2):=by
 refine ⟨fun i m σ H=>m=n - i/\i<=n/\Pv i σ H,⟨n,by simp,Nat.zero_le _,h0⟩,?_⟩
 rintro i m σ H ⟨rfl,hi,p⟩
 by_cases hlt:i < n
 ·refine .inr ⟨hlt,Pv (i + 1),fun σ' H' p'=>⟨n - (i + 1),by omega,rfl,hlt,p'⟩,fun x H' y=>?_⟩
  obtain ⟨e,y⟩:=y
  subst e y
  exact hs i σ _ hlt p
 ·have e:i=n:=by omega
  subst e
  exact .inl ⟨Nat.le_refl _,hd σ H p⟩
theorem zIi {c:TT} {tb:TS} {D:Ends} {σ:St} {H:Hp} (Pv:St->Hp->Prop) (μ:St->Hp->Nat) (h0:Pv σ H)
  (hs:∀ σ H,Pv σ H->c σ H fun b H1=>if b=true then tb { D with nx:=fun σ' H'=>Pv σ' H'/\μ σ' H' < μ σ H,ct:=fun σ' H'=>Pv σ' H'/\μ σ' H' < μ σ H,bk:=D.nx } σ H1 else D.nx σ H1)
  (mono:∀ σ H Q Q',(∀ b H1,Q b H1->Q' b H1)->c σ H Q->c σ H Q'):zMX c tb D σ H:=by
 refine ⟨fun m σ H=>m=μ σ H/\Pv σ H,⟨_,rfl,h0⟩,?_⟩
 rintro m σ H ⟨rfl,p⟩
 refine mono σ H _ _ (fun b H1 q=>?_) (hs σ H p)
 cases b with
 | true=>exact ⟨_,fun σ' H' ⟨p',l⟩=>⟨_,l,rfl,p'⟩,q⟩
 | false=>exact q
end L2
namespace L2
open PySem PySem.Spec PyProof.Rows
abbrev R2:=V->V->Hp->VK->Prop
def OpR (X:Cx) (f:Value->Value->Sem Value) (r:R2):Prop:=
 ∀ (pins:List (Addr × Obj)) (s:Shared) (σ:St) (H:Hp) (x y:V) (v u:Value) (Q:VK),Inv X pins σ H s->RelV x v->RelV y u->r x y H Q->
  wpAny (model X.prog X.w) X.A (f v u) (EP X pins σ Q) X.xe s
def UnR (X:Cx) (f:Value->Sem Value) (r:V->Hp->VK->Prop):Prop:=
 ∀ (pins:List (Addr × Obj)) (s:Shared) (σ:St) (H:Hp) (x:V) (v:Value) (Q:VK),Inv X pins σ H s->RelV x v->r x H Q->
  wpAny (model X.prog X.w) X.A (f v) (EP X pins σ Q) X.xe s
def zDr (X:Cx) (f:Value) (r:List V->Hp->VK->Prop):Prop:=
 ∀ (pins:List (Addr × Obj)) (s:Shared) (σ:St) (H:Hp) (xs:List V) (us:List Value) (Q:VK),Inv X pins σ H s->Vals xs us->r xs H Q->
  wpAny (model X.prog X.w) X.A (call f us) (EP X pins σ Q) X.xe s
def tOp (r:R2) (ta tb:TE):TE:=fun σ H Q=>ta σ H fun x H1=>tb σ H1 fun y H2=>r x y H2 Q
def tUn (r:V->Hp->VK->Prop) (ta:TE):TE:=fun σ H Q=>ta σ H fun x H1=>r x H1 Q
def rI (C:Int->Int->Prop) (g:Int->Int->V):R2:=fun x y H Q=>∃ i j,x=.int i/\y=.int j/\C i j/\Q (g i j) H
def rI0 (g:Int->Int->V):R2:=fun x y H Q=>∃ i j,x=.int i/\y=.int j/\Q (g i j) H
def rU (g:Int->V):V->Hp->VK->Prop:=fun x H Q=>∃ i,x=.int i/\Q (g i) H
section
variable {X:Cx} {a b c:Expr} {ta tb tc:TE} {pos:Pos}
theorem binT (ha:PE X a ta) (hb:PE X b tb) {pins:List (Addr × Obj)} {s:Shared} {σ:St} {H:Hp} {R:V->V->Hp->Prop} (I:Inv X pins σ H s)
  (h:ta σ H fun x H1=>tb σ H1 fun y H2=>R x y H2) {Q:Value->Shared->Prop} {f:Value->Value->Sem Value}
  (hf:∀ v u s2 x y H2,Inv X pins σ H2 s2->RelV x v->RelV y u->R x y H2->wpAny (model X.prog X.w) X.A (f v u) Q X.xe s2) :
  wpAny (model X.prog X.w) X.A (eval a X.env) (fun v s₁=>wpAny (model X.prog X.w) X.A (eval b X.env) (fun u s₂=>wpAny (model X.prog X.w) X.A (f v u) Q X.xe s₂) X.xe s₁) X.xe s:=by
 refine thn (ha pins s σ H _ I h) fun v s1 ⟨x,H1,I1,r1,q1⟩=>?_
 refine thn (hb pins s1 σ H1 _ I1 q1) fun u s2 ⟨y,H2,I2,r2,q2⟩=>?_
 exact hf v u s2 x y H2 I2 r1 r2 q2
theorem zAK {op:Operator} {r:R2} (ho:OpR X (binaryOp op) r) (ha:PE X a ta) (hb:PE X b tb):PE X (.BinOp a op b pos) (tOp r ta tb):=by
 intro pins s σ H Q I h
 exact wpAny_BinOp (binT ha hb I h fun v u s2 x y H2 I2 rx ry q=>ho pins s2 σ H2 x y v u Q I2 rx ry q)
theorem zBU {op:UnaryOp} {r:V->Hp->VK->Prop} (ho:UnR X (unaryOp op) r) (ha:PE X a ta):PE X (.UnaryOp op a pos) (tUn r ta):=by
 intro pins s σ H Q I h
 exact UnaryOp_ (thn (ha pins s σ H _ I h) fun v s1 ⟨x,H1,I1,r1,q1⟩=>ho pins s1 σ H1 x v Q I1 r1 q1)
theorem opI {f:Value->Value->Sem Value} {C:Int->Int->Prop} {g:Int->Int->Int}
  (rule:∀ (i j:Int) (t u:Tok) (s:Shared) (Q:Value->Shared->Prop) (E:Value->Shared->Prop),C i j->Q (.int (g i j) s.toks) { s with toks:=s.toks + 1 }->wpAny (model X.prog X.w) X.A (f (.int i t) (.int j u)) Q E s) :
  OpR X f (rI C fun i j=>.int (g i j)):=by
 intro pins s σ H x y v u Q I rx ry h
 obtain ⟨i,j,rfl,rfl,hc,q⟩:=h
 obtain ⟨t,rfl⟩:=rx
 obtain ⟨t',rfl⟩:=ry
 exact rule i j t t' s _ _ hc ⟨.int (g i j),H,I.tok _,⟨_,rfl⟩,q⟩
theorem opI0 {f:Value->Value->Sem Value} {g:Int->Int->Int}
  (rule:∀ (i j:Int) (t u:Tok) (s:Shared) (Q:Value->Shared->Prop) (E:Value->Shared->Prop),Q (.int (g i j) s.toks) { s with toks:=s.toks + 1 }->wpAny (model X.prog X.w) X.A (f (.int i t) (.int j u)) Q E s) :
  OpR X f (rI0 fun i j=>.int (g i j)):=by
 intro pins s σ H x y v u Q I rx ry h
 obtain ⟨i,j,rfl,rfl,q⟩:=h
 obtain ⟨t,rfl⟩:=rx
 obtain ⟨t',rfl⟩:=ry
 exact rule i j t t' s _ _ ⟨.int (g i j),H,I.tok _,⟨_,rfl⟩,q⟩
theorem opB0 {f:Value->Value->Sem Value} {g:Int->Int->Bool}
  (rule:∀ (i j:Int) (t u:Tok) (s:Shared) (Q:Value->Shared->Prop) (E:Value->Shared->Prop),Q (.bool (g i j)) s->wpAny (model X.prog X.w) X.A (f (.int i t) (.int j u)) Q E s) :
  OpR X f (rI0 fun i j=>.bl (g i j)):=by
 intro pins s σ H x y v u Q I rx ry h
 obtain ⟨i,j,rfl,rfl,q⟩:=h
 obtain ⟨t,rfl⟩:=rx
 obtain ⟨t',rfl⟩:=ry
 exact rule i j t t' s _ _ ⟨.bl (g i j),H,I,rfl,q⟩
def CPow (i j:Int):Prop:=0<=j/\j<=1000000/\i.natAbs < 2 ^ 64
theorem zAt:OpR X (binaryOp .Add) (rI0 fun i j=>.int (i + j)):=opI0 fun _ _ _ _ _ _ _ q=>add_int q
theorem zCR:OpR X (binaryOp .Sub) (rI0 fun i j=>.int (i - j)):=opI0 fun _ _ _ _ _ _ _ q=>sub_int q
theorem zAz:OpR X (binaryOp .Mod) (rI (fun _ j=>j≠0) fun i j=>.int (i.fmod j)):=opI fun _ _ _ _ _ _ _ hc q=>mod_int' hc q
theorem zFP:OpR X (binaryOp .Pow) (rI CPow fun i j=>.int (i ^ j.toNat)):=opI fun _ _ _ _ _ _ _ hc q=>pow_int_small hc.1 hc.2.1 hc.2.2 q
theorem unI {f:Value->Sem Value} {g:Int->Int}
  (rule:∀ (i:Int) (t:Tok) (s:Shared) (Q:Value->Shared->Prop) (E:Value->Shared->Prop),Q (.int (g i) s.toks) { s with toks:=s.toks + 1 }->wpAny (model X.prog X.w) X.A (f (.int i t)) Q E s) :
  UnR X f (rU fun i=>.int (g i)):=by
 intro pins s σ H x v Q I rx h
 obtain ⟨i,rfl,q⟩:=h
 obtain ⟨t,rfl⟩:=rx
 exact rule i t s _ _ ⟨.int (g i),H,I.tok _,⟨_,rfl⟩,q⟩
theorem zAu:UnR X (unaryOp .USub) (rU fun i=>.int (-i)):=unI fun _ _ _ _ _ q=>neg_int q
end
def scal:V->V->Bool
 | .non,.non=>true | .non,.int _=>true | .int _,.non=>true | .non,.bl _=>true | .bl _,.non=>true | .non,.str _=>true | .str _,.non=>true
 | .int _,.int _=>true | .bl _,.bl _=>true | .str _,.str _=>true | .byt _,.byt _=>true
 | .int _,.str _=>true | .str _,.int _=>true | .bl _,.str _=>true | .str _,.bl _=>true
 | _,_=>false
def rEq:R2:=fun x y H Q=>scal x y=true/\Q (.bl (decide (x=y))) H
def rNe:R2:=fun x y H Q=>scal x y=true/\Q (.bl (!decide (x=y))) H
theorem zLN {i j:Int}:decide (V.int i=V.int j)=(i == j):=by
 rw [Bool.eq_iff_iff]
 simp
theorem zMj {i j:Bool}:decide (V.bl i=V.bl j)=(i == j):=by
 rw [Bool.eq_iff_iff]
 simp
theorem zLM {i j:Str}:decide (V.str i=V.str j)=(i == j):=by
 rw [Bool.eq_iff_iff]
 simp
theorem zLO {i j:Array UInt8}:decide (V.byt i=V.byt j)=(i.toList == j.toList):=by
 rw [Bool.eq_iff_iff]
 cases i
 cases j
 simp
section
variable {X:Cx} {a b c:Expr} {ta tb tc:TE} {pos:Pos}
theorem zBI {pins:List (Addr × Obj)} {σ:St} {H:Hp} {s:Shared} {Q:VK} {k k':Bool} (I:Inv X pins σ H s) (q:Q (.bl k) H) (e:k=k'):EP X pins σ Q (.bool k') s:=by
 subst e
 exact ⟨.bl k,H,I,rfl,q⟩
theorem zEG:OpR X (compareOp .Eq) rEq:=by
 intro pins s σ H x y v u Q I rx ry h
 obtain ⟨hs,q⟩:=h
 cases x with
 | non=>
  cases rx
  cases y with
  | non=>cases ry; exact PySem.EqNone.eq_none_none (zBI I q (by simp))
  | bl j=>cases ry; exact PySem.EqNone.eq_none_bool (zBI I q (by simp))
  | int j=>obtain ⟨t',rfl⟩:=ry; exact PySem.EqNone.eq_none_int (zBI I q (by simp))
  | str j=>obtain ⟨t',rfl⟩:=ry; exact PySem.EqNone.eq_none_str (zBI I q (by simp))
  | _=>exact absurd (show false=true from hs) Bool.false_ne_true
 | bl i=>
  cases rx
  cases y with
  | non=>cases ry; exact PySem.EqNone.eq_bool_none (zBI I q (by simp))
  | bl j=>cases ry; exact eq_bool (zBI I q zMj)
  | str j=>obtain ⟨t',rfl⟩:=ry; exact PySem.EqMixed.eq_bool_str (zBI I q (by simp))
  | _=>exact absurd (show false=true from hs) Bool.false_ne_true
 | int i=>
  obtain ⟨t,rfl⟩:=rx
  cases y with
  | non=>cases ry; exact PySem.EqNone.eq_int_none (zBI I q (by simp))
  | int j=>obtain ⟨t',rfl⟩:=ry; exact eq_int (zBI I q zLN)
  | str j=>obtain ⟨t',rfl⟩:=ry; exact PySem.EqMixed.eq_int_str (zBI I q (by simp))
  | _=>exact absurd (show false=true from hs) Bool.false_ne_true
 | str i=>
  obtain ⟨t,rfl⟩:=rx
  cases y with
  | non=>cases ry; exact PySem.EqNone.eq_str_none (zBI I q (by simp))
  | bl j=>cases ry; exact PySem.EqMixed.eq_str_bool (zBI I q (by simp))
  | int j=>obtain ⟨t',rfl⟩:=ry; exact PySem.EqMixed.eq_str_int (zBI I q (by simp))
  | str j=>obtain ⟨t',rfl⟩:=ry; exact eq_str (zBI I q zLM)
  | _=>exact absurd (show false=true from hs) Bool.false_ne_true
 | byt i=>
  obtain ⟨t,rfl⟩:=rx
  cases y with
  | byt j=>obtain ⟨t',rfl⟩:=ry; exact PySem.W.eq_bytes (zBI I q zLO)
  | _=>exact absurd (show false=true from hs) Bool.false_ne_true
 | _=>cases y <;> exact absurd (show false=true from hs) Bool.false_ne_true
theorem zH9:OpR X (compareOp .NotEq) rNe:=by
 intro pins s σ H x y v u Q I rx ry h
 obtain ⟨hs,q⟩:=h
 cases x with
 | non=>
  cases rx
  cases y with
  | non=>cases ry; exact PySem.EqNone.ne_none_none (zBI I q (by simp))
  | bl j=>cases ry; exact PySem.EqNone.ne_none_bool (zBI I q (by simp))
  | int j=>obtain ⟨t',rfl⟩:=ry; exact PySem.EqNone.ne_none_int (zBI I q (by simp))
  | str j=>obtain ⟨t',rfl⟩:=ry; exact PySem.EqNone.ne_none_str (zBI I q (by simp))
  | _=>exact absurd (show false=true from hs) Bool.false_ne_true
 | bl i=>
  cases rx
  cases y with
  | non=>cases ry; exact PySem.EqNone.ne_bool_none (zBI I q (by simp))
  | bl j=>cases ry; exact ne_bool (zBI I q (congrArg not zMj))
  | str j=>obtain ⟨t',rfl⟩:=ry; exact PySem.EqMixed.ne_bool_str (zBI I q (by simp))
  | _=>exact absurd (show false=true from hs) Bool.false_ne_true
 | int i=>
  obtain ⟨t,rfl⟩:=rx
  cases y with
  | non=>cases ry; exact PySem.EqNone.ne_int_none (zBI I q (by simp))
  | int j=>obtain ⟨t',rfl⟩:=ry; exact ne_int (zBI I q (congrArg not zLN))
  | str j=>obtain ⟨t',rfl⟩:=ry; exact PySem.EqMixed.ne_int_str (zBI I q (by simp))
  | _=>exact absurd (show false=true from hs) Bool.false_ne_true
 | str i=>
  obtain ⟨t,rfl⟩:=rx
  cases y with
  | non=>cases ry; exact PySem.EqNone.ne_str_none (zBI I q (by simp))
  | bl j=>cases ry; exact PySem.EqMixed.ne_str_bool (zBI I q (by simp))
  | int j=>obtain ⟨t',rfl⟩:=ry; exact PySem.EqMixed.ne_str_int (zBI I q (by simp))
  | str j=>obtain ⟨t',rfl⟩:=ry; exact ne_str (zBI I q (congrArg not zLM))
  | _=>exact absurd (show false=true from hs) Bool.false_ne_true
 | byt i=>
  obtain ⟨t,rfl⟩:=rx
  cases y with
  | byt j=>obtain ⟨t',rfl⟩:=ry; exact PySem.W.ne_bytes (zBI I q (congrArg not zLO))
  | _=>exact absurd (show false=true from hs) Bool.false_ne_true
 | _=>cases y <;> exact absurd (show false=true from hs) Bool.false_ne_true
theorem zIA:OpR X (compareOp .Lt) (rI0 fun i j=>.bl (decide (i < j))):=opB0 fun _ _ _ _ _ _ _ q=>lt_int q
theorem zKf:OpR X (compareOp .LtE) (rI0 fun i j=>.bl (decide (i<=j))):=opB0 fun _ _ _ _ _ _ _ q=>le_int q
theorem zHa:OpR X (compareOp .Gt) (rI0 fun i j=>.bl (decide (j < i))):=opB0 fun _ _ _ _ _ _ _ q=>gt_int q
theorem zOA:OpR X (compareOp .GtE) (rI0 fun i j=>.bl (decide (j<=i))):=opB0 fun _ _ _ _ _ _ _ q=>ge_int q
theorem zMf:OpR X (compareOp .Is) (fun x y H Q=>y=.non/\Q (.bl (decide (x=.non))) H):=by
 intro pins s σ H x y v u Q I rx ry h
 obtain ⟨rfl,q⟩:=h
 cases ry
 refine is_none_gen (zBI I q ?_)
 cases x <;> first
  | (cases rx; rfl)
  | (obtain ⟨t,rfl⟩:=rx; rfl)
theorem zAq (b:Expr) {op:CmpOp} (h:op≠.In:=by decide) (h2:op≠.NotIn:=by decide):behindInMarks op b=false:=by
 have e1:(op == CmpOp.In)=false:=by cases op <;> first | rfl | exact absurd rfl h
 have e2:(op == CmpOp.NotIn)=false:=by cases op <;> first | rfl | exact absurd rfl h2
 cases b <;> simp [behindInMarks,e1,e2]
theorem zCH {op:CmpOp} {r:R2} (ho:OpR X (compareOp op) r) (ha:PE X a ta) (hb:PE X b tb) (hm:behindInMarks op b=false):PE X (.Compare a [op] [b] pos) (tOp r ta tb):=by
 intro pins s σ H Q I h
 exact wpAny_Compare1 (binT ha hb I h fun v u s2 x y H2 I2 rx ry q=>ho pins s2 σ H2 x y v u Q I2 rx ry q) hm
def tTest (t:TE):TT:=fun σ H Q=>t σ H fun x H'=>∃ k,x=.bl k/\Q k H'
theorem zAx {op:CmpOp} {r:R2} (ho:OpR X (compareOp op) r) (ha:PE X a ta) (hb:PE X b tb) (hm:behindInMarks op b=false):PT X (.Compare a [op] [b] pos) (tTest (tOp r ta tb)):=by
 intro pins s σ H Q I h
 refine wpAny_isTrue_Compare1 (thn (ha pins s σ H _ I h) fun v s1 ⟨x,H1,I1,r1,q1⟩=>thn (hb pins s1 σ H1 _ I1 q1) fun u s2 ⟨y,H2,I2,r2,q2⟩=>
  thn (ho pins s2 σ H2 x y v u _ I2 r1 r2 q2) fun c s3 ⟨z,H3,I3,r3,k,e,q3⟩=>?_) hm
 subst e
 cases r3
 exact wpAny_truthy_bool ⟨H3,I3,q3⟩
def zNn (r r':R2) (ta tb tc:TE):TE:=fun σ H Q=>ta σ H fun x H1=>tb σ H1 fun y H2=>r x y H2 fun z H3=>∃ k,z=.bl k∧
 (if k=true then tc σ H3 fun w' H4=>r' y w' H4 Q else Q (.bl false) H3)
theorem zL1 {op op':CmpOp} {r r':R2} (ho:OpR X (compareOp op) r) (ho':OpR X (compareOp op') r') (ha:PE X a ta) (hb:PE X b tb) (hc:PE X c tc)
  (hm:lastMarks [op,op'] [b,c]=false:=by with_unfolding_all rfl):PE X (.Compare a [op,op'] [b,c] pos) (zNn r r' ta tb tc):=by
 intro pins s σ H Q I h
 refine Compare_chain (thn (ha pins s σ H _ I h) fun v s1 ⟨x,H1,I1,r1,q1⟩=>chain_link (thn (hb pins s1 σ H1 _ I1 q1) fun u s2 ⟨y,H2,I2,r2,q2⟩=>
  thn (ho pins s2 σ H2 x y v u _ I2 r1 r2 q2) fun d s3 ⟨z,H3,I3,r3,k,e,q3⟩=>?_)) hm
 subst e
 cases r3
 refine wpAny_truthy_bool ?_
 cases k with
 | false=>exact ite_ff ⟨.bl false,H3,I3,rfl,q3⟩
 | true=>exact ite_tt (chain_last (thn (hc pins s3 σ H3 _ I3 q3) fun w' s4 ⟨z',H4,I4,r4,q4⟩=>ho' pins s4 σ H4 y z' u w' Q I4 r2 r4 q4))
theorem zK2:(sizeLine:Nat) < 2 ^ 63:=by rw [sizeLine_eq]; decide
theorem zHO {x:V} {us:List Value} (r:Vals [x] us):∃ u,us=[u]/\RelV x u:=by
 cases r with
 | cons r1 r2=>cases r2; exact ⟨_,rfl,r1⟩
theorem zMp {x y:V} {us:List Value} (r:Vals [x,y] us):∃ u w',us=[u,w']/\RelV x u/\RelV y w':=by
 cases r with
 | cons r1 r2=>
  cases r2 with
  | cons r3 r4=>cases r4; exact ⟨_,_,rfl,r1,r3⟩
theorem zJG:zDr X (.builtin "abs") (fun xs H Q=>∃ i,xs=[.int i]/\Q (.int (if i < 0 then -i else i)) H):=by
 intro pins s σ H xs us Q I r h
 obtain ⟨i,rfl,q⟩:=h
 obtain ⟨u,rfl,t,rfl⟩:=zHO r
 exact call_abs_int fun u tk=>⟨.int (if i < 0 then -i else i),H,I.tok _,⟨_,rfl⟩,q⟩
theorem zHr:zDr X (.type "int") (fun xs H Q=>(∃ i,xs=[.int i]/\Q (.int i) H)\/∃ k,xs=[.bl k]/\Q (.int (if k then 1 else 0)) H):=by
 intro pins s σ H xs us Q I r h
 rcases h with ⟨i,rfl,q⟩ | ⟨k,rfl,q⟩
 ·obtain ⟨u,rfl,t,rfl⟩:=zHO r
  exact call_int_int ⟨.int i,H,I,⟨_,rfl⟩,q⟩
 ·obtain ⟨u,rfl,r1⟩:=zHO r
  cases r1
  exact call_int_bool ⟨.int (if k then 1 else 0),H,I.tok _,⟨_,rfl⟩,q⟩
end
end L2
namespace L2
open PySem PySem.Spec PyProof.Rows
structure ObjM (h:Heap) (x dx C:Addr) (mA:Str->Option Value):Prop where
 obj:h.get? x=some (PySem.W.instObj C dx)
 ns:h.Ns1 dx mA
 ne:dx≠x
theorem zK1 {h:Heap} {dx:Addr} {mA:Str->Option Value} (n:h.Ns1 dx mA):∃ od,h.get? dx=some od/\∀ name,PySem.W.lookIn name od=some (mA name):=by
 obtain ⟨o,es,ep,ho,hd,hk,_,hm⟩:=n
 refine ⟨o,ho,fun name=>?_⟩
 have e:=hm name
 unfold nsFind findBy at e
 rw [<- Array.find?_toList] at e
 unfold PySem.W.lookIn
 rw [hd]
 dsimp only
 split
 ·rename_i y q
  rw [q] at e
  exact congrArg some e
 ·rename_i q
  rw [q] at e
  have a:es.toList.any (·.refKey)=false:=by
   rw [List.any_eq_false]
   intro y hy
   obtain ⟨z,t,hkey⟩:=hk y (Array.mem_toList_iff.mp hy)
   simp [DictEntry.refKey,hkey]
  have a':¬ es.toList.any (·.refKey)=true:=by rw [a]; exact Bool.false_ne_true
  rw [if_neg a']
  exact congrArg some e
theorem ObjM.look {h:Heap} {x dx C:Addr} {mA:Str->Option Value} (I:ObjM h x dx C mA):∃ od,PySem.W.InstAt h x (PySem.W.instObj C dx) C (some od)/\∀ name,PySem.W.lookIn name od=some (mA name):=
 let ⟨od,ho,hl⟩:=zK1 I.ns
 ⟨od,⟨I.obj,rfl,rfl,ho⟩,hl⟩
section
variable {prog:Program} {w:World} {A:Around} {E:Value->Shared->Prop} {s:Shared} {K:PySem.W.Frag} {x dx C f:Addr} {mA:Str->Option Value} {name:Str} {v:Value}
theorem zNK {expr:Bool} {Q:Value->Shared->Prop} (X:K.In s.heap) (I:ObjM s.heap x dx C mA) (hg:PySem.W.plainGet K C name=true) (hh:PySem.W.hasDictIn K C=true)
  (ha:PySem.W.findIn K (.ref C) name=some none) (hv:mA name=some v) (hv':PySem.W.handedIn v=true) (h:Q v { s with toks:=s.toks + 1 }) :
  wpAny (model prog w) A (getAttr (.ref x) name expr) Q E s:=by
 obtain ⟨od,J,hl⟩:=I.look
 exact PySem.W.get_value X J (PySem.W.plainGet_of hg).1 (PySem.W.findObj_own hh ha rfl (by rw [hl,hv])) hv' h
theorem zMJ {pl:Sem Bool} {Q:Value × List Value->Shared->Prop} (X:K.In s.heap) (I:ObjM s.heap x dx C mA) (hg:PySem.W.plainGet K C name=true)
  (hf:PySem.W.findIn K (.ref C) name=some (some (.ref f))) (ht:PySem.W.isFn K (.ref f)=true) (hv:mA name=none) (h:Q (.ref f,[.ref x]) s) :
  wpAny (model prog w) A (getMethod (.ref x) name pl) Q E s:=by
 obtain ⟨od,J,hl⟩:=I.look
 exact PySem.W.method_fn X J (PySem.W.plainGet_of hg).1 (PySem.W.plainGet_of hg).2 hf (beq_iff_eq.mp ht) (by show (PySem.W.lookIn name od).map (·.isSome)=some false; rw [hl,hv]; rfl) h
theorem zMy {ns:List Str} {Q:Unit->Shared->Prop} (X:K.In s.heap) (I:ObjM s.heap x dx C mA)
  (hs:PySem.W.findIn K (.ref C) "__setattr__" = some (some (.builtin "object.__setattr__"))) (hp:PySem.W.plainOver K C=true) (ht:PySem.W.takerIn K C name=some none) (hh:PySem.W.hasDictIn K C=true)
  (hw:PySem.Within mA ns) (hsz:ns.length<=sizeLine)
  (h:∀ h',ObjM h' x dx C (fun y=>if y=name then some v else mA y)->Heap.SameBut dx s.heap h'->Q () { s with heap:=h',toks:=s.toks + 2 }) :
  wpAny (model prog w) A (setAttr (.ref x) name v) Q E s:=by
 obtain ⟨od,J,hl⟩:=I.look
 refine PySem.W.set_plain X J hs (PySem.W.osa_open (s:={ s with toks:=s.toks + 1 }) (r:=none) X J hp ht fun b=>?_)
 obtain ⟨cd,hc,hd'⟩:=PySem.W.any_some hh
 have hx:s.heap.get? x=some ⟨.ref C,some dx,.plain,#[]⟩:=I.obj
 refine wpAny_bind (wpAny_pure (wpAny_bind (wpAny_bind (wpAny_loadPart hx (wpAny_bind (PySem.W.Looks.here (s:={ s with toks:=s.toks + 1 }) (PySem.W.looks_clsIn X hc) ?_))))))
 rw [hd']
 refine wpAny_pure (a:=some dx) (wpAny_bind (wpAny_pure (wpAny_bind ?_)))
 refine wpAny_nsSet1 (s:={ s with toks:=s.toks + 1 }) I.ns fun h' hn2 hs2=>?_
 obtain ⟨oD,esD,epD,hoD,hdD,hcD⟩:=hn2.count (PySem.Within.cons name v hw)
 refine wpAny_bind (wpAny_lookBehind hoD (by rw [hdD]; exact pastItsLine_dict (Nat.le_trans hcD (by rw [List.length_cons]; omega))) ?_)
 exact wpAny_pure (h _ ⟨(hs2.2 _ (Ne.symm I.ne)).trans I.obj,hn2,I.ne⟩ hs2)
theorem zMC {R:Result->Shared->Prop} {vs:List Value} {kw:List (Str × Value)} (X:K.In s.heap) (hm:PySem.W.makesIn K C=true)
  (hi:PySem.W.findIn K (.ref C) "__init__" = some (some (.ref f))) (hf:PySem.W.typeIn K (.ref f)=some (.type "function"))
  (h:codeAny (model prog w) (A.under (.builtin "type.__call__" ⟨.ref C :: vs,kw⟩)) (.call (.ref f) ⟨.ref (s.heap.objs.size + 1) :: vs,kw⟩) (PySem.W.InitBack (s.heap.objs.size + 1) R)
   { s with heap:=(s.heap.push PySem.W.emptyDict).push (PySem.W.instObj C s.heap.objs.size) }) :
  codeAny (model prog w) A (.call (.ref C) ⟨vs,kw⟩) R s:=by
 obtain ⟨hh,g,d,t,os⟩:=s
 exact PySem.W.make_core (PySem.W.makes_of X hm) (PySem.W.looks_findIn X hi) (fun self=>PySem.W.bind_fn X self hf) (.inl rfl) h
end
def putF (f:Str) (v:V):List (Str × V)->List (Str × V)
 | []=>[(f,v)]
 | (g,x) :: r=>if g=f then (g,v) :: r else (g,x) :: putF f v r
theorem zGB (f g:Str) (v:V):∀ fs:List (Str × V),(putF f v fs).lookup g=if g=f then some v else fs.lookup g
 | []=>by
  show List.lookup g [(f,v)]=_
  by_cases h:g=f
  ·have hb:(g == f)=true:=beq_iff_eq.mpr h
   simp only [List.lookup,hb,if_pos h]
  ·have hb:(g == f)=false:=beq_eq_false_iff_ne.mpr h
   simp only [List.lookup,hb,if_neg h]
 | (k,x) :: r=>by
  have ih:=zGB f g v r
  rw [show putF f v ((k,x) :: r)=(if k=f then (k,v) :: r else (k,x) :: putF f v r) from rfl]
  by_cases hk:k=f
  ·rw [if_pos hk]
   by_cases h:g=k
   ·have hb:(g == k)=true:=beq_iff_eq.mpr h
    simp only [List.lookup,hb,if_pos (h.trans hk)]
   ·have hb:(g == k)=false:=beq_eq_false_iff_ne.mpr h
    simp only [List.lookup,hb,if_neg (fun e:g=f=>h (e.trans hk.symm))]
  ·rw [if_neg hk]
   by_cases h:g=k
   ·have hb:(g == k)=true:=beq_iff_eq.mpr h
    simp only [List.lookup,hb,if_neg (fun e:g=f=>hk (h.symm.trans e))]
   ·have hb:(g == k)=false:=beq_eq_false_iff_ne.mpr h
    simp only [List.lookup,hb]
    exact ih
theorem zGG (f:Str) (v:V):∀ fs:List (Str × V),f∈(putF f v fs).map (·.1)/\∀ g,g∈fs.map (·.1)->g∈(putF f v fs).map (·.1)
 | []=>⟨by simp [putF],fun g h=>by simp at h⟩
 | (k,x) :: r=>by
  obtain ⟨i1,i2⟩:=zGG f v r
  rw [show putF f v ((k,x) :: r)=(if k=f then (k,v) :: r else (k,x) :: putF f v r) from rfl]
  by_cases hk:k=f
  ·rw [if_pos hk]
   subst hk
   exact ⟨by simp,fun g h=>by simpa using h⟩
  ·rw [if_neg hk]
   refine ⟨?_,fun g h=>?_⟩
   ·rw [List.map_cons]
    exact List.mem_cons_of_mem _ i1
   ·rw [List.map_cons] at h |-
    rcases List.mem_cons.mp h with e | e
    ·exact List.mem_cons.mpr (.inl e)
    ·exact List.mem_cons_of_mem _ (i2 g e)
theorem zGE (f:Str) (v:V):∀ fs:List (Str × V),(putF f v fs).length<=fs.length + 1
 | []=>by simp [putF]
 | (k,x) :: r=>by
  have ih:=zGE f v r
  rw [show putF f v ((k,x) :: r)=(if k=f then (k,v) :: r else (k,x) :: putF f v r) from rfl]
  by_cases hk:k=f
  ·rw [if_pos hk,List.length_cons,List.length_cons]; omega
  ·rw [if_neg hk,List.length_cons,List.length_cons]; omega
theorem RelO.some_of {v:V} {o:Option Value} (r:RelO (some v) o):∃ u,o=some u/\RelV v u:=by
 cases o with
 | none=>exact (show False from r).elim
 | some u=>exact ⟨u,rfl,r⟩
theorem RelO.none_of {o:Option Value} (r:RelO none o):o=none:=by
 cases o with
 | none=>rfl
 | some u=>exact (show False from r).elim
theorem zLF {v:V} {u:Value} (r:RelV v u):PySem.W.handedIn u=true:=by
 cases v with
 | non=>cases (show u=Value.none from r); rfl
 | bl b=>cases (show u=Value.bool b from r); rfl
 | int i=>obtain ⟨t,e⟩:=(show ∃ t,u=Value.int i t from r); cases e; rfl
 | str x=>obtain ⟨t,e⟩:=(show ∃ t,u=Value.str x t from r); cases e; rfl
 | byt b=>obtain ⟨t,e⟩:=(show ∃ t,u=Value.bytes b t from r); cases e; rfl
 | flt b=>obtain ⟨t,e⟩:=(show ∃ t,u=Value.float b t from r); cases e; rfl
 | ref a=>cases (show u=Value.ref a from r); rfl
 | ty n=>cases (show u=Value.type n from r); rfl
section
variable {P:Program} {w:World} {H H':Hp} {h h':Heap} {a C dx:Addr} {fs fs':List (Str × V)}
theorem zHG (hok:HOk P w H h) (e:H a=some (.ins C dx fs)):∃ mA,ObjM h a dx C mA/\(∀ f,RelO (fs.lookup f) (mA f))/\PySem.Within mA (fs.map (·.1))/\fs.length<=1000/\H dx=some (.own a):=by
 obtain ⟨d,z,ne,ob,mA,n,r,q⟩:=(show zB5 P w H h a (.ins C dx fs) from hok a _ e)
 exact ⟨mA,⟨ob,n,ne⟩,r,q,z,d⟩
end
structure Cls (K:PySem.W.Frag) (C:Addr):Prop where
 pg:PySem.W.plainGet K C Str.empty=true
 hd:PySem.W.hasDictIn K C=true
 po:PySem.W.plainOver K C=true
 sa:PySem.W.findIn K (.ref C) "__setattr__" = some (some (.builtin "object.__setattr__"))
theorem Cls.get {K:PySem.W.Frag} {C:Addr} (c:Cls K C) (f:Str):PySem.W.plainGet K C f=true:=c.pg
def zDA (K:PySem.W.Frag) (C:Addr) (f:Str):Prop:=PySem.W.findIn K (.ref C) f=some none
theorem zDA.taker {K:PySem.W.Frag} {C:Addr} {f:Str} (n:zDA K C f):PySem.W.takerIn K C f=some none:=by
 unfold PySem.W.takerIn
 rw [show PySem.W.findIn K (.ref C) f=some none from n]
 rfl
structure Meth (K:PySem.W.Frag) (C:Addr) (m:Str) (f:Addr):Prop where
 at_:PySem.W.findIn K (.ref C) m=some (some (.ref f))
 fn:PySem.W.isFn K (.ref f)=true
 kp:PySem.W.keepIn K (.ref f)=true
section
variable {X:Cx} {pins:List (Addr × Obj)} {σ:St} {H:Hp} {s:Shared} {a C dx:Addr} {fs:List (Str × V)} {f:Str} {v:V} {A:Around} {E:Value->Shared->Prop}
theorem zJy {b:Bool} {Q:Value->Shared->Prop} (I:Inv X pins σ H s) (e:H a=some (.ins C dx fs)) (c:Cls X.K C) (n:zDA X.K C f) (l:fs.lookup f=some v)
  (h:∀ u s',Inv X pins σ H s'->RelV v u->Q u s'):wpAny (model X.prog X.w) A (getAttr (.ref a) f b) Q E s:=by
 obtain ⟨mA,O,r,_,_,_⟩:=zHG I.hok e
 obtain ⟨u,hu,ru⟩:=RelO.some_of (v:=v) (o:=mA f) (by rw [<- l]; exact r f)
 exact zNK I.kIn O (c.get f) c.hd n hu (zLF ru) (h u _ (I.tok _) ru)
theorem zJx {m:Str} {g:Addr} {pl:Sem Bool} {Q:Value × List Value->Shared->Prop} (I:Inv X pins σ H s) (e:H a=some (.ins C dx fs)) (c:Cls X.K C) (k:Meth X.K C m g) (l:fs.lookup m=none)
  (h:Q (.ref g,[.ref a]) s):wpAny (model X.prog X.w) A (getMethod (.ref a) m pl) Q E s:=by
 obtain ⟨mA,O,r,_,_,_⟩:=zHG I.hok e
 have hn:mA m=none:=RelO.none_of (by rw [<- l]; exact r m)
 exact zMJ I.kIn O (c.get m) k.at_ k.fn hn h
theorem zJV {y:V} {u:Value} {Q:Unit->Shared->Prop} (I:Inv X pins σ H s) (e:H a=some (.ins C dx fs)) (c:Cls X.K C) (n:zDA X.K C f) (hl:fs.length < 1000) (ry:RelV y u)
  (h:∀ s',Inv X pins σ (upd H a (.ins C dx (putF f y fs))) s'->Q () s'):wpAny (model X.prog X.w) A (setAttr (.ref a) f u) Q E s:=by
 obtain ⟨mA,O,r,wi,_,ho⟩:=zHG I.hok e
 have hz:(fs.map (·.1)).length<=sizeLine:=by rw [List.length_map,sizeLine_eq]; omega
 refine zMy I.kIn O c.sa c.po n.taker c.hd wi hz fun h' O' sb=>h _ ?_
 have hd:∃ o,h'.get? dx=some o:=let ⟨o,_,_,e',_⟩:=O'.ns; ⟨o,e'⟩
 refine I.write (x:=a) (e:=dx) (by rw [e]; exact True.intro) (.inr ho) (fun b q hb z=>(sb.2 b hb).trans z) hd ?_
 refine ⟨by rw [zAW O.ne]; exact ho,?_,O.ne,O'.obj,_,O'.ns,fun g=>?_,fun g hg=>?_⟩
 ·have:=zGE f y fs; omega
 ·show RelO ((putF f y fs).lookup g) (if g=f then some u else mA g)
  rw [zGB]
  by_cases q:g=f
  ·rw [if_pos q,if_pos q]; exact ry
  ·rw [if_neg q,if_neg q]; exact r g
 ·by_cases q:g=f
  ·rw [q]; exact (zGG f y fs).1
  ·refine (zGG f y fs).2 g (wi g fun z=>hg ?_)
   show (if g=f then some u else mA g)=none
   rw [if_neg q]; exact z
theorem Inv.made (I:Inv X pins σ H s):Inv X pins σ (upd (upd H s.heap.objs.size (.own (s.heap.objs.size + 1))) (s.heap.objs.size + 1) (.ins C s.heap.objs.size []))
  { s with heap:=(s.heap.push PySem.W.emptyDict).push (PySem.W.instObj C s.heap.objs.size) }:=by
 have e1:(s.heap.push PySem.W.emptyDict).get? s.heap.objs.size=some PySem.W.emptyDict:=Heap.get?_push_size s.heap rfl
 have e2:((s.heap.push PySem.W.emptyDict).push (PySem.W.instObj C s.heap.objs.size)).get? (s.heap.objs.size + 1)=some (PySem.W.instObj C s.heap.objs.size):=by
  have:=Heap.get?_push_size (s.heap.push PySem.W.emptyDict) (o:=PySem.W.instObj C s.heap.objs.size) rfl
  rwa [Heap.size_push] at this
 have e3:(s.heap.push PySem.W.emptyDict).Ns s.heap.objs.size (fun _=>none):=⟨PySem.W.emptyDict,#[],_,e1,rfl,(fun e he=>absurd he (by simp)),fun _=>rfl⟩
 have I1:=I.laid (a:=s.heap.objs.size) (o:=.own (s.heap.objs.size + 1)) (h':=s.heap.push PySem.W.emptyDict) (t':=s.toks) (fun b u q=>Heap.get?_push_of_some _ q) (Nat.le_refl _) ⟨_,e1⟩
 refine I1.laid (a:=s.heap.objs.size + 1) (o:=.ins C s.heap.objs.size []) (t':=s.toks) (fun b u q=>Heap.get?_push_of_some _ q) (Nat.le_of_eq (Heap.size_push _ _)) ?_
 have ne:s.heap.objs.size≠s.heap.objs.size + 1:=Nat.ne_of_lt (Nat.lt_succ_self _)
 refine ⟨by rw [zAW ne,zAF],Nat.zero_le _,ne,e2,fun _=>none,(Heap.Ns1.of_empty e3).at fun o q=>Heap.get?_push_of_some _ q,fun _=>True.intro,fun y hy=>absurd rfl hy⟩
theorem zNX {prog:Program} {w:World} {env:Env} {e:Expr} {f:Str} {pos:Pos} {s:Shared} {Q:Value->Shared->Prop} (hb:attributeBase e f env (eval e env)=eval e env)
  (h:wpAny (model prog w) A (eval e env) (fun o s₁=>wpAny (model prog w) A (getAttr o f true) Q E s₁) E s):wpAny (model prog w) A (eval (.Attribute e f pos) env) Q E s:=
 Attribute_any_ h (by rw [arm_eval_Attribute,hb])
end
def tFld (K:PySem.W.Frag) (ta:TE) (f:Str):TE:=fun σ H Q=>ta σ H fun x H1=>∃ a C dx fs v,x=.ref a/\H1 a=some (.ins C dx fs)/\Cls K C/\zDA K C f/\fs.lookup f=some v/\Q v H1
def sFld (K:PySem.W.Frag) (ta tv:TE) (f:Str):TS:=fun D σ H=>tv σ H fun y H1=>ta σ H1 fun x H2=>∃ a C dx fs,x=.ref a/\H2 a=some (.ins C dx fs)/\Cls K C/\zDA K C f/\fs.length < 1000∧
 D.nx σ (upd H2 a (.ins C dx (putF f y fs)))
section
variable {X:Cx} {o e value:Expr} {f:Str} {pos pos' tpos:Pos} {ta tv:TE}
theorem zBl (he:PE X e ta) (hb:attributeBase e f X.env (eval e X.env)=eval e X.env):PE X (.Attribute e f pos) (tFld X.K ta f):=by
 intro pins s σ H Q I h
 refine zNX hb (thn (he pins s σ H _ I h) fun u s1 ⟨x,H1,I1,rx,a,C,dx,fs,v,ex,ea,c,n,l,q⟩=>?_)
 subst ex
 obtain rfl:u=Value.ref a:=rx
 exact zJy I1 ea c n l fun u' s2 I2 ru=>⟨v,H1,I2,ru,q⟩
theorem zEl (ha:PE X o ta) (hv:PE X value tv) (hs:swapsWith value (some (.Attribute o f pos')) pos.line X.env=pure false):PS X (.Assign [.Attribute o f pos'] value pos) (sFld X.K ta tv f):=by
 intro pins s σ H D I h
 refine plainObj_wpAny_Assign_Attribute (thn (hv pins s σ H _ I h) fun u s1 ⟨y,H1,I1,ry,q⟩=>thn (ha pins s1 σ H1 _ I1 q) fun ov s2 ⟨x,H2,I2,rx,a,C,dx,fs,ex,ea,c,n,l,q2⟩=>?_) hs
 subst ex
 obtain rfl:ov=Value.ref a:=rx
 exact zJV I2 ea c n l ry fun s3 I3=>⟨σ,_,I3,q2⟩
end
section
variable {X:Cx} {pins:List (Addr × Obj)} {σ:St} {H:Hp} {s:Shared} {A:Around} {E:Value->Shared->Prop} {Q:Value->Shared->Prop} {c:Value} {b:Bool}
inductive TyOf (K:PySem.W.Frag) (H:Hp):V->Value->Prop where
 | non:TyOf K H .non (.type "NoneType")
 | bl (x:Bool):TyOf K H (.bl x) (.type "bool")
 | int (i:Int):TyOf K H (.int i) (.type "int")
 | str (x:Str):TyOf K H (.str x) (.type "str")
 | flt (x:UInt64):TyOf K H (.flt x) (.type "float")
 | lst {a:Addr} {xs:List V} (e:H a=some (.lst xs)):TyOf K H (.ref a) (.type "list")
 | frz {a:Addr} {o:Obj} {xs:List V} (e:H a=some (.frz o (.lst xs))):TyOf K H (.ref a) (.type "list")
 | tup {a:Addr} {xs:List V} (e:H a=some (.tup xs)):TyOf K H (.ref a) (.type "tuple")
 | dK {a:Addr} {kvs:List (Key × V)} (e:H a=some (.dK kvs)):TyOf K H (.ref a) (.type "dict")
 | dT {a:Addr} {kvs:List (List Key × V)} (e:H a=some (.dT kvs)):TyOf K H (.ref a) (.type "dict")
 | ins {a C dx:Addr} {fs:List (Str × V)} (e:H a=some (.ins C dx fs)) (cl:Cls K C) (ha:PySem.W.findIn K (.ref C) "__class__" = some (some (.builtin "object.__class__")))
   (hn:PySem.W.specialIn K (.builtin "object.__class__") "__get__" = some (some (.builtin "getset_descriptor.__get__"))) (htk:PySem.W.takesIn K (.builtin "object.__class__")=some true)
   (hm:PySem.W.mroIn K C (.type "object")=some true):TyOf K H (.ref a) (.ref C)
theorem zHj {x:V} {u t:Value} (I:Inv X pins σ H s) (rx:RelV x u) (ty:TyOf X.K H x t) (e:PySem.W.kitOne X.K t c=some b) (h:∀ tk,Q (.bool b) { s with toks:=tk }) :
  wpAny (model X.prog X.w) A (call (.builtin "isinstance") [u,c]) Q E s:=by
 cases ty with
 | non=>cases (show u=Value.none from rx); exact PySem.W.kia_one PySem.W.kitx_none I.kIn True.intro e (fun z=>nomatch z) h
 | bl y=>cases (show u=Value.bool y from rx); exact PySem.W.kia_one PySem.W.kitx_bool I.kIn True.intro e (fun z=>nomatch z) h
 | int i=>obtain ⟨t,q⟩:=(show ∃ t,u=Value.int i t from rx); cases q; exact PySem.W.kia_one PySem.W.kitx_int I.kIn True.intro e (fun z=>nomatch z) h
 | str y=>obtain ⟨t,q⟩:=(show ∃ t,u=Value.str y t from rx); cases q; exact PySem.W.kia_one PySem.W.kitx_str I.kIn True.intro e (fun z=>nomatch z) h
 | flt y=>obtain ⟨t,q⟩:=(show ∃ t,u=Value.float y t from rx); cases q; exact PySem.W.kia_one PySem.W.kitx_float I.kIn True.intro e (fun z=>nomatch z) h
 | @lst a xs ea=>
  cases (show u=Value.ref a from rx)
  obtain ⟨_,_,n,_,h1⟩:=(show zB5 X.prog X.w H s.heap a (.lst xs) from I.hok a _ ea)
  exact PySem.W.kia_one PySem.W.kitx_list I.kIn ⟨_,h1,rfl⟩ e (fun z=>nomatch z) h
 | @frz a ob xs ea=>
  cases (show u=Value.ref a from rx)
  obtain ⟨_,_,_,n,_,h1⟩:=(show zB5 X.prog X.w H s.heap a (.frz ob (.lst xs)) from I.hok a _ ea)
  exact PySem.W.kia_one PySem.W.kitx_list I.kIn ⟨_,h1,rfl⟩ e (fun z=>nomatch z) h
 | @tup a xs ea=>
  cases (show u=Value.ref a from rx)
  obtain ⟨_,_,_,p⟩:=(show zB5 X.prog X.w H s.heap a (.tup xs) from I.hok a _ ea)
  obtain ⟨o,h1,h2,_⟩:=p
  exact PySem.W.kia_one PySem.W.kitx_tuple I.kIn ⟨o,h1,h2⟩ e (fun z=>nomatch z) h
 | @dK a kvs ea=>
  cases (show u=Value.ref a from rx)
  obtain ⟨_,_,vs,_,p⟩:=(show zB5 X.prog X.w H s.heap a (.dK kvs) from I.hok a _ ea)
  obtain ⟨o,es,ep,h1,h2,_⟩:=p
  exact PySem.W.kia_one PySem.W.kitx_dict I.kIn ⟨o,h1,h2.1⟩ e (fun z=>nomatch z) h
 | @dT a kvs ea=>
  cases (show u=Value.ref a from rx)
  obtain ⟨_,_,xs,_,o,es,ep,h1,h2,_⟩:=(show zB5 X.prog X.w H s.heap a (.dT kvs) from I.hok a _ ea)
  exact PySem.W.kia_one PySem.W.kitx_dict I.kIn ⟨o,h1,h2.1⟩ e (fun z=>nomatch z) h
 | @ins a C dx fs ea cl ha hn htk hm=>
  cases (show u=Value.ref a from rx)
  obtain ⟨mA,O,_⟩:=zHG I.hok ea
  obtain ⟨od,J,_⟩:=O.look
  exact PySem.W.kia_one (PySem.W.kitx_own (cl.get _) cl.hd ha hn htk hm) I.kIn J e (fun z=>nomatch z) h
end
end L2
namespace L2
open PySem PySem.Spec PyProof.Rows
structure Room (k:Nat) (A:Around):Prop where
 hd:A.handled=none
 dp:A.depth + 3 * k + 5 < recursionLimit
 un:A.units + 16 * k + 200 < cLine
theorem Room.mono {j k:Nat} {A:Around} (r:Room k A) (h:j<=k):Room j A:=⟨r.hd,by have:=r.dp; omega,by have:=r.un; omega⟩
theorem Room.deeper {k:Nat} {A:Around} (r:Room (k + 1) A) (env:Env):Room k (A.deeper env):=
 ⟨r.hd,by have:=r.dp; show A.depth + 1 + 3 * k + 5 < _; omega,by have:=r.un; show A.units + 3 + 16 * k + 200 < _; omega⟩
theorem zJr {A:Around} {C:Addr} {us:List Value} {kw:List (Str × Value)}:(A.under (.builtin "type.__call__" ⟨.ref C :: us,kw⟩)).depth=A.depth + 1:=by
 first | rfl | simp [Around.under,Code.weight,Code.isCreation,Code.isGuard,Code.isCaller,Code.frames,Code.isFrame,guardIds]
theorem zJq {A:Around} {C:Addr} {us:List Value} {kw:List (Str × Value)}:(A.under (.builtin "type.__call__" ⟨.ref C :: us,kw⟩)).units=A.units + 1:=by
 first | rfl | simp [Around.under,Code.cUnits,Code.frames,Code.isFrame]
theorem Room.make {k:Nat} {A:Around} (r:Room (k + 1) A) (C:Addr) (us:List Value) (kw:List (Str × Value)):Room k (A.under (.builtin "type.__call__" ⟨.ref C :: us,kw⟩)):=
 ⟨r.hd,by have:=r.dp; rw [zJr]; omega,by have:=r.un; rw [zJq]; omega⟩
theorem Room.depth {k:Nat} {A:Around} (r:Room k A):A.depth < recursionLimit:=by have:=r.dp; omega
theorem Room.units {k:Nat} {A:Around} (r:Room k A):A.units + 64 < cLine:=by have:=r.un; omega
def tNil:TA:=fun _ H Q=>Q [] H
def tCons (ta:TE) (tr:TA):TA:=fun σ H Q=>ta σ H fun x H1=>tr σ H1 fun xs H2=>Q (x :: xs) H2
section
variable {X:Cx} {e:Expr} {es:List Expr} {te:TE} {t:TA} {pos:Pos}
theorem zAB:PA X [] tNil:=fun _ _ _ _ H Q I h=>Calls.spliced_nil ⟨[],H,I,.nil,h⟩
theorem zAA (ha:PE X e te) (hr:PA X es t) (hs:starEach (e :: es) X.env=(false,eval e X.env) :: starEach es X.env:=by rfl):PA X (e :: es) (tCons te t):=by
 intro pos pins s σ H Q I h
 rw [hs]
 show wpAny _ _ (spliced ((false,eval e X.env) :: backTo pos (starEach es X.env))) _ _ s
 refine Calls.spliced_cons (thn (ha pins s σ H _ I h) fun u s1 ⟨x,H1,I1,r1,q1⟩=>?_)
 exact thn (hr pos pins s1 σ H1 _ I1 q1) fun us s2 ⟨xs,H2,I2,r2,q2⟩=>⟨x :: xs,H2,I2,.cons r1 r2,q2⟩
def tTup (t:TA):TE:=fun σ H Q=>t σ H fun xs H1=>xs.length<=sizeLine/\∀ p,H1 p=none->Q (.ref p) (upd H1 p (.tup xs))
def tLst (t:TA):TE:=fun σ H Q=>t σ H fun xs H1=>xs.length<=sizeLine/\∀ p,H1 p=none->Q (.ref p) (upd H1 p (.lst xs))
theorem zCA {x1} (h:PA X es t):PE X (.Tuple es x1 pos) (tTup t):=by
 intro pins s σ H Q I hq
 refine wpAny_Tuple_spliced (thn (h pos pins s σ H _ I hq) fun us s1 ⟨xs,H1,I1,r,z,q⟩=>⟨by rw [<- r.length]; exact z,?_⟩)
 have hf:H1 s1.heap.objs.size=none:=I1.hok.fresh (Nat.le_refl _)
 refine ⟨.ref s1.heap.objs.size,upd H1 s1.heap.objs.size (.tup xs),I1.laid (t':=s1.toks) (fun b u e=>Heap.get?_push_of_some _ e) (Nat.le_refl _) ?_,rfl,q _ hf⟩
 exact ⟨z,us,r,⟨_,Heap.get?_push_size _ rfl,rfl,_,rfl⟩⟩
theorem zA7 (h:PA X es t):PE X (.List es pos) (tLst t):=by
 intro pins s σ H Q I hq
 refine wpAny_List_spliced (thn (h pos pins s σ H _ I hq) fun us s1 ⟨xs,H1,I1,r,z,q⟩=>⟨by rw [<- r.length]; exact z,?_⟩)
 have hf:H1 s1.heap.objs.size=none:=I1.hok.fresh (Nat.le_refl _)
 refine ⟨.ref s1.heap.objs.size,upd H1 s1.heap.objs.size (.lst xs),I1.laid (t':=s1.toks) (fun b u e=>Heap.get?_push_of_some _ e) (Nat.le_refl _) ?_,rfl,q _ hf⟩
 exact ⟨z,us,0,r,Heap.get?_push_size _ rfl⟩
end
abbrev Sp:=List V->Hp->VK->XK->Prop
abbrev CXT:=List Env->Hp->Shared->XK->Value->Shared->Prop
structure Env0 (P:Program) (w:World) (K:PySem.W.Frag) (mg:Str->Option Value) (base:Heap) (A:Around) (outer:List Env) (s:Shared) (H:Hp):Prop where
 frames:A.frames=some outer
 mod:Mod K mg base
 bs:∀ b o,base.get? b=some o->s.heap.get? b=some o/\H b=none
 bsz:base.objs.size<=s.heap.objs.size
 funs:s.heap.FunFrames base outer
 frf:∀ b∈frs outer,H b=none
 hok:HOk P w H s.heap
 bare:AllBare s.gens
def CE (outer:List Env) (P:Program) (w:World) (H:Hp) (s:Shared) (Q:VK) (u:Value) (s':Shared):Prop:=
 ∃ v H',s'.os=s.os/\AllBare s'.gens/\Un (frs outer) [] H H' s.heap s'.heap/\HOk P w H' s'.heap/\RelV v u/\Q v H'
def CR (CX:CXT) (outer:List Env) (P:Program) (w:World) (H:Hp) (s:Shared) (Q:VK) (E:XK) (r:Result) (s':Shared):Prop:=
 match r with
 | .ok (.ret u)=>CE outer P w H s Q u s'
 | .ok _=>False
 | .error e=>CX outer H s E e s'
structure FnOk (P:Program) (w:World) (K:PySem.W.Frag) (mg:Str->Option Value) (base:Heap) (CX:CXT) (k:Nat) (f:Addr) (fd:FuncData) (ps:List Str) (sp:Sp):Prop where
 len:∀ vs H Q E,sp vs H Q E->vs.length=ps.length
 run:∀ (A:Around) (outer:List Env) (s:Shared) (H:Hp) (args:Args) (us:List Value) (vs:List V) (Q:VK) (E:XK),Room k A->Env0 P w K mg base A outer s H->BindsTo s fd args (ps.zip us)->Vals vs us->sp vs H Q E->
  codeAny (model P w) A (.call (.ref f) args) (CR CX outer P w H s Q E) s
theorem FnOk.mono {P:Program} {w:World} {K:PySem.W.Frag} {mg:Str->Option Value} {base:Heap} {CX:CXT} {j k:Nat} {f:Addr} {fd:FuncData} {ps:List Str} {sp:Sp} (F:FnOk P w K mg base CX j f fd ps sp) (h:j<=k) :
  FnOk P w K mg base CX k f fd ps sp:=⟨F.len,fun A outer s H args us vs Q E hr=>F.run A outer s H args us vs Q E (hr.mono h)⟩
theorem Env0.make {P:Program} {w:World} {K:PySem.W.Frag} {mg:Str->Option Value} {base:Heap} {A:Around} {outer:List Env} {s:Shared} {H:Hp} (e:Env0 P w K mg base A outer s H) (C:Addr) (us:List Value) (kw:List (Str × Value)) :
  Env0 P w K mg base (A.under (.builtin "type.__call__" ⟨.ref C :: us,kw⟩)) outer s H:=⟨by first | exact e.frames | (simpa [Around.under,Code.envs,Code.isFrame,pushEnvs] using e.frames),e.mod,e.bs,e.bsz,e.funs,e.frf,e.hok,e.bare⟩
section
variable {X:Cx} {pins:List (Addr × Obj)} {σ:St} {H:Hp} {s s':Shared}
theorem Inv.env0 (I:Inv X pins σ H s):Env0 X.prog X.w X.K X.mg X.base X.A X.stack s H:=
 ⟨I.ok.frames,I.ok.mod,I.bs,Nat.le_trans I.ok.bsz I.sz,I.stack,I.stkFree,I.hok,I.bare⟩
theorem Inv.after {Q:VK} {u:Value} (I:Inv X pins σ H s) (h:CE X.stack X.prog X.w H s Q u s'):EP X pins σ Q u s':=by
 obtain ⟨v,H',os,bare,un,hok,r,q⟩:=h
 obtain ⟨hh,g,d,t,os'⟩:=s'
 obtain rfl:os'=s.os:=os
 exact ⟨v,H',I.call (h':=hh) (g':=g) (d':=d) (t':=t) (ch:=[]) un hok bare (fun b z=>absurd z (by simp)),r,q⟩
end
def zKH (sp:Sp) (dvs:List V) (E:XK) (t:TA):TE:=fun σ H Q=>t σ H fun vs H1=>sp (vs++dvs) H1 Q E
def zNj (C:Addr) (m:Str) (sp:Sp) (dvs:List V) (E:XK) (ta:TE) (t:TA):TE:=fun σ H Q=>ta σ H fun x H1=>∃ a dx fs,x=.ref a/\H1 a=some (.ins C dx fs)/\fs.lookup m=none∧
 t σ H1 fun vs H2=>sp (x :: (vs++dvs)) H2 Q E
def zNk (C:Addr) (sp:Sp) (dvs:List V) (E:XK) (t:TA):TE:=fun σ H Q=>t σ H fun vs H1=>∀ x dx,H1 x=none->H1 dx=none->dx≠x->
 sp (.ref x :: (vs++dvs)) (upd (upd H1 dx (.own x)) x (.ins C dx [])) (fun v H2=>v=.non/\Q (.ref x) H2) E
def zEH (K:PySem.W.Frag) (fd:FuncData) (ps:List Str) (ds:List Value):Prop:=
 ∀ (s:Shared) (us:List Value),K.In s.heap->(us++ds).length=ps.length->BindsTo s fd ⟨us,[]⟩ (ps.zip (us++ds))
theorem zEH.all {K:PySem.W.Frag} {fd:FuncData} {ps:List Str} (h:∀ us:List Value,us.length=ps.length->bindArgs fd ⟨us,[]⟩=pure (ps.zip us)):zEH K fd ps []:=fun s us _ hl=>by
 rw [List.append_nil] at hl |-
 exact .of_eq (h us hl)
def zGS (CX:CXT) (X:Cx) (E:XK):Prop:=∀ (pins:List (Addr × Obj)) (σ:St) (H:Hp) (s:Shared) (e:Value) (s':Shared),Inv X pins σ H s->CX X.stack H s E e s'->X.xe e s'
section
variable {X:Cx} {CX:CXT} {k:Nat} {f C:Addr} {fd:FuncData} {ps:List Str} {sp:Sp} {dvs:List V} {ds:List Value} {E:XK} {x m:Str} {p pos apos:Pos} {e o:Expr} {es:List Expr} {ta:TE} {t:TA}
theorem zMb {pins:List (Addr × Obj)} {σ:St} {H:Hp} {s:Shared} {Q:VK} {us:List Value} {vs:List V} (F:FnOk X.prog X.w X.K X.mg X.base CX k f fd ps sp) (hr:Room k X.A) (hb:zEH X.K fd ps ds) (hd:Vals dvs ds) (hx:zGS CX X E)
  (I:Inv X pins σ H s) (r:Vals vs us) (h:sp (vs++dvs) H Q E):wpAny (model X.prog X.w) X.A (call (.ref f) us) (EP X pins σ Q) X.xe s:=by
 have r2:Vals (vs++dvs) (us++ds):=r.append hd
 have hl:(us++ds).length=ps.length:=by rw [<- r2.length]; exact F.len _ _ _ _ h
 refine wpAny_call (codeAny_mono (F.run X.A X.stack s H ⟨us,[]⟩ (us++ds) (vs++dvs) Q E hr I.env0 (hb s us I.kIn hl) r2 h) fun r s' hq=>?_)
 cases r with
 | error e=>exact hx pins σ H s e s' I hq
 | ok fl=>
  cases fl with
  | ret u=>exact I.after hq
  | next=>exact False.elim hq
  | brk=>exact False.elim hq
  | cont=>exact False.elim hq
theorem zH8 (F:FnOk X.prog X.w X.K X.mg X.base CX k f fd ps sp) (hr:Room k X.A) (hg:Gl X x) (hm:X.mg x=some (.ref f)) (hk:PySem.W.keepIn X.K (.ref f)=true) (hb:zEH X.K fd ps ds) (hd:Vals dvs ds) (hx:zGS CX X E)
  (ha:PA X (e :: es) t) (hdb:(x == ("__debug__" : Str))=false:=by decide) (he:starEach (e :: es) X.env=(false,eval e X.env) :: starEach es X.env:=by rfl) (hpl:(backTo pos (starEach es X.env)).any (·.1)=false:=by rfl) :
  PE X (.Call (.Name x p) (e :: es) [] pos) (zKH sp dvs E t):=by
 intro pins s σ H Q I h
 refine wpAny_Call_Name_kw (zFG I hg hm ?_ hdb)
 refine PySem.W.callWith_K (h₀:=X.base) I.ok.mod.kin hk (thn (ha pos pins s σ H _ I h) fun us s1 ⟨vs,H1,I1,r,q⟩=>⟨I1.kIn,?_⟩) he hpl
 exact zMb F hr hb hd hx I1 r q
theorem zLz {pl:Sem Bool} (he:PE X o ta) (c:Cls X.K C) (hm:Meth X.K C m f) (F:FnOk X.prog X.w X.K X.mg X.base CX k f fd ps sp) (hr:Room k X.A) (hb:zEH X.K fd ps ds) (hd:Vals dvs ds) (hx:zGS CX X E)
  (ht:eval (.Call (.Attribute o m apos) [] [] pos) X.env=(do
   let ov <- eval o X.env
   standAt apos.atName
   let (f,first) <- holding [ov] (getMethod ov m pl)
   callWith pos f first (backTo pos (starEach [] X.env)) (backToKw pos (keywordEach [] X.env))):=by rfl) :
  PE X (.Call (.Attribute o m apos) [] [] pos) (zNj C m sp dvs E ta tNil):=by
 intro pins s σ H Q I h
 refine PySem.W.methodCall_KW (pl:=pl) (thn (he pins s σ H _ I h) fun u s1 ⟨x,H1,I1,rx,a,dx,fs,ex,ea,l,q⟩=>?_) ht
 subst ex
 obtain rfl:u=Value.ref a:=rx
 refine zJx I1 ea c hm l ?_
 exact PySem.W.callWith_K0 (first:=[.ref a]) I1.kIn hm.kp (zMb (us:=[.ref a]) (vs:=[.ref a]) F hr hb hd hx I1 (.cons rfl .nil) q)
structure Mk (K:PySem.W.Frag) (C f:Addr):Prop where
 makes:PySem.W.makesIn K C=true
 init:PySem.W.findIn K (.ref C) "__init__" = some (some (.ref f))
 fn:PySem.W.isFn K (.ref f)=true
 kp:PySem.W.keepIn K (.ref C)=true
theorem zLu {pins:List (Addr × Obj)} {σ:St} {H:Hp} {s:Shared} {Q:VK} {us:List Value} {vs:List V} (M:Mk X.K C f) (F:FnOk X.prog X.w X.K X.mg X.base CX k f fd ps sp) (hr:Room (k + 1) X.A) (hb:zEH X.K fd ps ds) (hd:Vals dvs ds)
  (hx:zGS CX X E) (I:Inv X pins σ H s) (r:Vals vs us)
  (h:∀ x dx,H x=none->H dx=none->dx≠x->sp (.ref x :: (vs++dvs)) (upd (upd H dx (.own x)) x (.ins C dx [])) (fun v H2=>v=.non/\Q (.ref x) H2) E) :
  wpAny (model X.prog X.w) X.A (call (.ref C) us) (EP X pins σ Q) X.xe s:=by
 have hq:=h (s.heap.objs.size + 1) s.heap.objs.size (I.hok.fresh (Nat.le_succ _)) (I.hok.fresh (Nat.le_refl _)) (Nat.ne_of_lt (Nat.lt_succ_self _))
 have I2:=Inv.made (C:=C) I
 have r2:Vals (V.ref (s.heap.objs.size + 1) :: (vs++dvs)) (Value.ref (s.heap.objs.size + 1) :: (us++ds)):=.cons rfl (r.append hd)
 have hl:(Value.ref (s.heap.objs.size + 1) :: us++ds).length=ps.length:=by
  have e:=r2.length
  rw [F.len _ _ _ _ hq] at e
  exact e.symm
 refine wpAny_call (zMC (f:=f) I.kIn M.makes M.init (beq_iff_eq.mp M.fn) (codeAny_mono (F.run _ X.stack _ _ ⟨Value.ref (s.heap.objs.size + 1) :: us,[]⟩ (Value.ref (s.heap.objs.size + 1) :: (us++ds)) _ _ E (hr.make C us [])
  (I2.env0.make C us []) (hb _ (Value.ref (s.heap.objs.size + 1) :: us) I2.kIn hl) r2 hq) fun r s' hq'=>?_))
 cases r with
 | error e=>exact hx pins σ _ _ e s' I2 hq'
 | ok fl=>
  cases fl with
  | ret u=>
   obtain ⟨v,H',I3,rv,ev,q3⟩:=I2.after hq'
   subst ev
   exact ⟨rv,⟨V.ref (s.heap.objs.size + 1),H',I3,rfl,q3⟩⟩
  | next=>exact False.elim hq'
  | brk=>exact False.elim hq'
  | cont=>exact False.elim hq'
theorem zM4 (M:Mk X.K C f) (F:FnOk X.prog X.w X.K X.mg X.base CX k f fd ps sp) (hr:Room (k + 1) X.A) (hg:Gl X x) (hm:X.mg x=some (.ref C)) (hb:zEH X.K fd ps ds) (hd:Vals dvs ds) (hx:zGS CX X E)
  (ha:PA X (e :: es) t) (hdb:(x == ("__debug__" : Str))=false:=by decide) (he:starEach (e :: es) X.env=(false,eval e X.env) :: starEach es X.env:=by rfl) (hpl:(backTo pos (starEach es X.env)).any (·.1)=false:=by rfl) :
  PE X (.Call (.Name x p) (e :: es) [] pos) (zNk C sp dvs E t):=by
 intro pins s σ H Q I h
 refine wpAny_Call_Name_kw (zFG I hg hm ?_ hdb)
 refine PySem.W.callWith_K (h₀:=X.base) I.ok.mod.kin M.kp (thn (ha pos pins s σ H _ I h) fun us s1 ⟨vs,H1,I1,r,q⟩=>⟨I1.kIn,?_⟩) he hpl
 exact zLu M F hr hb hd hx I1 r q
end
section
variable {X:Cx} {CX:CXT} {k:Nat} {f C:Addr} {fd:FuncData} {ps ks:List Str} {sp:Sp} {E:XK} {x m:Str} {p pos apos kpos:Pos} {e o:Expr} {es:List Expr} {kws:List Keyword} {te ta:TE} {t tk:TA} {nm:Option Str}
variable {g:List Value->List Value->List Value} {gV:List V->List V->List V}
end
structure zAP (N P:List Str) (sc:Scope):Prop where
 kind:sc.kind=.function
 co:sc.isCoroutine=false
 gen:sc.isGenerator=false
 nd:N.Nodup
 pre:N.take P.length=P
 par:∀ x∈P,sc.names.lookup x=some .local\/sc.names.lookup x=some .cell
 nofree:∀ y∈sc.names,y.2≠.free
theorem zAP.a {N P:List Str} {s:Scope} (a:s.kind=.function:=by rfl) (b:s.isCoroutine=false:=by rfl) (c:s.isGenerator=false:=by rfl) (d:N.Nodup:=by decide +kernel) (e:N.take P.length=P:=by rfl) (f:∀ x∈P,s.names.lookup x=some .local\/s.names.lookup x=some .cell:=by decide +kernel) (g:∀ y∈s.names,y.2≠.free:=by decide +kernel):zAP N P s:=⟨a,b,c,d,e,f,g⟩
theorem zHu {kindOf:Str->Option NameKind} {x:Str}:∀ {binds:List (Str × Value)} {m:Str->Option Value},(∀ v,(x,v)∉binds)->bindL kindOf binds m x=m x
 | [],_,_=>rfl
 | (n,v) :: r,m,h=>by
  unfold bindL
  rw [zHu fun w hw=>h w (List.mem_cons_of_mem _ hw)]
  split
  ·have:x≠n:=by rintro rfl; exact h v List.mem_cons_self
   simp [this]
  ·rfl
theorem zHw {kindOf:Str->Option NameKind} {x:Str}:∀ {binds:List (Str × Value)} {m:Str->Option Value},(∀ v,(x,v)∉binds)->bindC kindOf binds m x=m x
 | [],_,_=>rfl
 | (n,v) :: r,m,h=>by
  unfold bindC
  rw [zHw fun w hw=>h w (List.mem_cons_of_mem _ hw)]
  split
  ·rfl
  ·have:x≠n:=by rintro rfl; exact h v List.mem_cons_self
   simp [this]
theorem zHv {kindOf:Str->Option NameKind} {x:Str} {v:Value}:∀ {P:List Str} {vs:List Value} {i:Nat} {m:Str->Option Value},P.Nodup->P[i]? = some x->vs[i]? = some v->kindOf x=some .local->
  bindL kindOf (P.zip vs) m x=some v
 | [],_,_,_,_,h,_,_=>by simp at h
 | _ :: _,[],_,_,_,_,h,_=>by simp at h
 | p :: P,w :: vs,0,m,nd,h1,h2,hk=>by
  simp at h1 h2; subst h1; subst h2
  show bindL kindOf ((p,w) :: P.zip vs) m p=_
  unfold bindL
  rw [zHu fun v hv=>(List.nodup_cons.mp nd).1 (List.of_mem_zip hv).1,if_pos hk]
  simp
 | p :: P,w :: vs,i + 1,m,nd,h1,h2,hk=>by
  show bindL kindOf ((p,w) :: P.zip vs) m x=_
  unfold bindL
  exact zHv (i:=i) (List.nodup_cons.mp nd).2 (by simpa using h1) (by simpa using h2) hk
theorem zHx {kindOf:Str->Option NameKind} {x:Str} {v:Value}:∀ {P:List Str} {vs:List Value} {i:Nat} {m:Str->Option Value},P.Nodup->P[i]? = some x->vs[i]? = some v->kindOf x≠some .local->
  bindC kindOf (P.zip vs) m x=some v
 | [],_,_,_,_,h,_,_=>by simp at h
 | _ :: _,[],_,_,_,_,h,_=>by simp at h
 | p :: P,w :: vs,0,m,nd,h1,h2,hk=>by
  simp at h1 h2; subst h1; subst h2
  show bindC kindOf ((p,w) :: P.zip vs) m p=_
  unfold bindC
  rw [zHw fun v hv=>(List.nodup_cons.mp nd).1 (List.of_mem_zip hv).1,if_neg hk]
  simp
 | p :: P,w :: vs,i + 1,m,nd,h1,h2,hk=>by
  show bindC kindOf ((p,w) :: P.zip vs) m x=_
  unfold bindC
  exact zHx (i:=i) (List.nodup_cons.mp nd).2 (by simpa using h1) (by simpa using h2) hk
def zGV (N:List Str) (vs:List V):St:=vs.map some++List.replicate (N.length - vs.length) none
def cxOf (CX:CXT) (P:Program) (w:World) (K:PySem.W.Frag) (mg:Str->Option Value) (base:Heap) (N:List Str) (qual:Str) (scope:Scope) (f:Addr) (cd:Value) (A:Around) (outer:List Env) (s:Shared) (H:Hp) (E:XK):Cx where
 prog:=P
 w:=w
 K:=K
 mg:=mg
 base:=base
 A:=A.deeper (envOfC qual scope s.heap.objs.size f cd)
 N:=N
 s₀:=s
 H₀:=H
 env:=envOfC qual scope s.heap.objs.size f cd
 outer:=outer
 stack:=envOfC qual scope s.heap.objs.size f cd :: outer
 ex:=[]
 calm:=true
 fn:=fun _=>true
 pn:=[]
 xe:=fun e s'=>wpAny (model P w) (A.deeper (envOfC qual scope s.heap.objs.size f cd)) (leaving (envOfC qual scope s.heap.objs.size f cd) e) (fun _ s''=>CX outer H s E e s'') (fun e' s''=>CX outer H s E e' s'') s'
theorem zJE {sc:Scope} {n:Nat} {x:Str} (h:sc.names.lookup x=some .cell):∃ c,(cellsFrom n sc.names []).lookup x=some c:=by
 have q:=PySem.W.cellsFrom_some sc.names n [] (.inl h)
 exact Option.isSome_iff_exists.mp q
theorem zK8 {CX:CXT} {P:Program} {w:World} {K:PySem.W.Frag} {mg:Str->Option Value} {base:Heap} {N ps:List Str} {qual:Str} {scope:Scope} {f:Addr} {cd:Value} {A:Around} {outer:List Env} {s s1:Shared} {H:Hp} {E:XK} {us:List Value} {vs:List V}
  (S:zAP N ps scope) (hd:A.handled=none) (e0:Env0 P w K mg base A outer s H) (hl:vs.length=ps.length) (r:Vals vs us)
  (x:InCallC s s.heap.objs.size (bindL (envOfC qual scope s.heap.objs.size f cd).kindOf (ps.zip us) fun _=>none) (cellsFrom (s.heap.objs.size + 1) scope.names []) (bindC (envOfC qual scope s.heap.objs.size f cd).kindOf (ps.zip us) fun _=>none) s1) :
  Inv (cxOf CX P w K mg base N qual scope f cd A outer s H E) [] (zGV N vs) H s1:=by
 have hpl:ps.length<=N.length:=by have:=congrArg List.length S.pre; rw [List.length_take] at this; omega
 obtain ⟨h1,tk,rfl,hk⟩:=x.done
 have noA:∀ b:Addr,b∉(cxOf CX P w K mg base N qual scope f cd A outer s H E).ex:=fun b z=>absurd (show b∈([]:List Addr) from z) (by simp)
 refine ⟨⟨e0.mod,S.kind,rfl,rfl,Nat.le_refl _,fun y z c h1 h2=>?_,fun y hy=>?_,fun y c _ h=>?_,fun _=>hd,Around.frames_deeper e0.frames,.inr ⟨rfl,rfl⟩,fun b z=>absurd z (noA b),e0.bs,e0.bsz,fun b _ _=>noA b,fun b z=>absurd z (noA b),e0.funs,e0.frf⟩,
  rfl,e0.bare,Un.kept hk,⟨_,x.toInCall.ns,fun i y v h1 h2 h3=>?_⟩,fun y c h=>⟨_,x.cell y c h⟩,e0.hok.fresh (Nat.le_refl _),fun y c h=>?_,fun p hp=>absurd (show p∈([]:List (Addr × Obj)) from hp) (by simp),e0.hok.kept hk,?_⟩
 ·exact name_of_addr x.apart (PySem.mem_of_lookup h1) (PySem.mem_of_lookup h2)
 ·have hy:scope.names.lookup y=some .cell\/scope.names.lookup y=some .free:=hy
  rcases hy with hy | hy
  ·exact zJE hy
  ·exact absurd rfl (S.nofree _ (PySem.mem_of_lookup hy))
 ·exact Nat.le_of_lt (x.above y c (PySem.mem_of_lookup h))
 ·have hi:i < vs.length:=by
   unfold zGV at h2
   by_cases hi:i < vs.length
   ·exact hi
   ·rw [List.getElem?_append_right (by simpa using hi)] at h2
    rw [List.getElem?_replicate] at h2
    split at h2 <;> cases h2
  have ha:vs[i]? = some v:=by
   unfold zGV at h2
   rw [List.getElem?_append_left (by simpa using hi),List.getElem?_map] at h2
   cases e:vs[i]? with
   | none=>rw [e] at h2; cases h2
   | some a=>rw [e] at h2; cases h2; rfl
  obtain ⟨u,hu,rv⟩:=r.get ha
  have hp:ps[i]? = some y:=by
   rw [<- S.pre,List.getElem?_take_of_lt (by omega)]; exact h1
  have ndP:ps.Nodup:=by rw [<- S.pre]; exact S.nd.sublist (List.take_sublist _ _)
  refine ⟨u,rv,?_⟩
  rcases S.par y (List.mem_of_getElem? hp) with k | k
  ·exact .inl ⟨k,zHv ndP hp hu k⟩
  ·obtain ⟨c,e⟩:=zJE (n:=s.heap.objs.size + 1) k
   refine .inr ⟨.inl k,c,e,?_⟩
   have q:=x.cell y c e
   rw [zHx ndP hp hu (by show scope.names.lookup y≠_; rw [k]; decide)] at q
   exact q
 ·exact e0.hok.fresh (Nat.le_of_lt (x.above y c (PySem.mem_of_lookup h)))
 ·unfold zGV
  show _=N.length
  rw [List.length_append,List.length_map,List.length_replicate]
  omega
theorem zNN {CX:CXT} {P:Program} {w:World} {K:PySem.W.Frag} {mg:Str->Option Value} {base:Heap} {k:Nat} {f:Addr} {name qual:Str} {params:Arguments} {body:List Stmt} {scope:Scope} {dV kV doc pm cdv ct oc:Value} {an od:Option Addr}
  {osl:Array (Option Value)} {N ps:List Str} {sp:Sp} (lk:K.lookup f=some ⟨oc,od,.func (PySem.W.fnOf name qual params body scope dV kV doc pm an cdv ct),osl⟩) (hcd:PySem.W.codeIn K cdv qual=true) (S:zAP N ps scope)
  (len:∀ vs H Q E,sp vs H Q E->vs.length=ps.length)
  (hbody:∀ (A:Around) (outer:List Env) (s:Shared) (H:Hp) (vs:List V) (Q:VK) (E:XK),Room k (A.deeper (envOfC qual scope s.heap.objs.size f cdv))->sp vs H Q E->
   ∃ t,PSs (cxOf CX P w K mg base N qual scope f cdv A outer s H E) body t/\t { nx:=fun _ H'=>Q .non H',rt:=Q } (zGV N vs) H) :
  FnOk P w K mg base CX (k + 1) f (PySem.W.fnOf name qual params body scope dV kV doc pm an cdv ct) ps sp:=by
 refine ⟨len,fun A outer s H args us vs Q E hr e0 hb r hsp=>?_⟩
 have hl:=len _ _ _ _ hsp
 have KX:K.In s.heap:=e0.mod.kin.keeps fun b o e=>(e0.bs b o e).1
 have lim:s.heap.NoLimit:=e0.mod.nolimit.keeps fun b o e=>(e0.bs b o e).1
 have hkind:∀ y∈ps.zip us,scope.names.lookup y.1=some .local\/(scope.names.lookup y.1=some .cell/\((cellsFrom (s.heap.objs.size + 1) scope.names []).lookup y.1).isSome=true):=fun ⟨n,v⟩ hy=>by
  rcases S.par n (List.of_mem_zip hy).1 with q | q
  ·exact .inl q
  ·exact .inr ⟨q,PySem.W.cellsFrom_some _ _ _ (.inl q)⟩
 refine codeAny_call_function hr.depth (KX _ _ lk) rfl S.co S.gen rfl (PySem.W.codeRec_of KX hcd) (hb _ _ _ _ ?_)
 refine wpAny_newFunctionEnv_cells S.kind hkind fun env he s1 x=>?_
 subst he
 refine ⟨lim.keeps x.toInCall.keep,codeAny_func ?_⟩
 obtain ⟨t,ht,hq⟩:=hbody A outer s H vs Q E (hr.deeper _) hsp
 have I:Inv (cxOf CX P w K mg base N qual scope f cdv A outer s H E) [] (zGV N vs) H s1:=zK8 S hr.hd e0 hl r x
 refine wpAny_mono (ht [] s1 (zGV N vs) H _ I hq) (fun fl s' hs=>?_) fun e s' hs=>hs
 have fin:∀ {σ':St} {H':Hp} {v:V} {u:Value},Inv (cxOf CX P w K mg base N qual scope f cdv A outer s H E) [] σ' H' s'->RelV v u->Q v H'->CE outer P w H s Q u s':=
  fun {σ' H' v u} J rv q=>⟨v,H',J.os,J.bare,J.base,J.hok,rv,q⟩
 cases fl with
 | ret u=>
  obtain ⟨v,σ',H',J,rv,q⟩:=hs
  exact fin J rv q
 | next=>
  obtain ⟨σ',H',J,q⟩:=hs
  exact fin (v:=V.non) (u:=Value.none) J rfl q
 | brk=>
  obtain ⟨_,_,_,q⟩:=hs
  exact False.elim q
 | cont=>
  obtain ⟨_,_,_,q⟩:=hs
  exact False.elim q
end L2
namespace L2
open PySem PySem.Spec PyProof.Rows
section
variable {X:Cx} {x:Str} {p pos:Pos} {e:Expr} {es:List Expr} {t:TA} {id T:String} {r:List V->Hp->VK->Prop}
def tCB (r:List V->Hp->VK->Prop) (t:TA):TE:=fun σ H Q=>t σ H fun vs H1=>r vs H1 Q
theorem zAS (hc:zDr X (.builtin id) r) (hg:Gl X x) (hm:X.mg x=none) (hv:bootBuiltins x=some (.builtin id)) (ha:PA X (e :: es) t) (hn:x≠"__name__":=by decide) (hdb:(x == ("__debug__" : Str))=false:=by decide)
  (he:starEach (e :: es) X.env=(false,eval e X.env) :: starEach es X.env:=by rfl) (hpl:(backTo pos (starEach es X.env)).any (·.1)=false:=by rfl):PE X (.Call (.Name x p) (e :: es) [] pos) (tCB r t):=by
 intro pins s σ H Q I h
 refine wpAny_Call_Name_kw (zHg I hg hm hv ?_ hn hdb)
 exact PyProof.Rows.callWith_builtin1 (thn (ha pos pins s σ H _ I h) fun us s1 ⟨vs,H1,I1,r1,q1⟩=>hc pins s1 σ H1 vs us Q I1 r1 q1) he hpl
theorem zAi (hc:zDr X (.type T) r) (hg:Gl X x) (hm:X.mg x=none) (hv:bootBuiltins x=some (.type T)) (ha:PA X (e :: es) t) (hn:x≠"__name__":=by decide) (hdb:(x == ("__debug__" : Str))=false:=by decide)
  (he:starEach (e :: es) X.env=(false,eval e X.env) :: starEach es X.env:=by rfl) (hpl:(backTo pos (starEach es X.env)).any (·.1)=false:=by rfl):PE X (.Call (.Name x p) (e :: es) [] pos) (tCB r t):=by
 intro pins s σ H Q I h
 refine wpAny_Call_Name_kw (zHg I hg hm hv ?_ hn hdb)
 exact PyProof.Rows.callWith_type1 (thn (ha pos pins s σ H _ I h) fun us s1 ⟨vs,H1,I1,r1,q1⟩=>hc pins s1 σ H1 vs us Q I1 r1 q1) he hpl
end
end L2
namespace HT
open PySem PyProof.Rows
section
open PySem.SeqAt
open PySem.AutoSeq1 (wpAny_loadPart')
open PySem.MeetsSeq PySem.MeetsSeq2 PySem.MeetsSeq3
end
section
variable {prog:Program} {w:World} {A:Around} {E:Value->Shared->Prop} {s:Shared}
theorem cat_tup {t b:Addr} {vs ws:List Value} {Q:Value->Shared->Prop} (ht:IsTup s.heap t vs.toArray) (hb:IsTup s.heap b ws.toArray) (hv:vs≠[])
  (h1:ws=[]->Q (.ref t) s) (h2:ws≠[]->Q (.ref s.heap.objs.size) { s with heap:=s.heap.push { cls:=.type "tuple",data:=.seq (vs++ws).toArray } })
  (hsz:vs.length + ws.length<=sizeLine):wpAny (model prog w) A (binaryOp .Add (.ref t) (.ref b)) Q E s:=by
 obtain ⟨⟨cls,dd,data,sl⟩,ho,hc,n,hd⟩:=id ht
 obtain ⟨⟨cls2,dd2,data2,sl2⟩,ho2,hc2,n2,hd2⟩:=id hb
 simp only at hc hd hc2 hd2
 subst hc hd hc2 hd2
 have e:vs.toArray++ws.toArray=(vs++ws).toArray:=by simp
 by_cases hw:ws=[]
 ·exact concat_meets ⟨_,ho,rfl⟩ ⟨_,ho2,rfl⟩ noFill_tuple_add seq_tuple_add PySem.F.slot_tuple_add PySem.F.entry_tuple_add (PySem.F.args_tuple_add_2 _ _)
   (tuple_addW1 t b vs.toArray ws.toArray n n2 dd dd2 sl sl2 (by simpa using hv) (by simp [hw])) ⟨ho,ho2,h1 hw⟩
 ·refine concat_meets ⟨_,ho,rfl⟩ ⟨_,ho2,rfl⟩ noFill_tuple_add seq_tuple_add PySem.F.slot_tuple_add PySem.F.entry_tuple_add (PySem.F.args_tuple_add_2 _ _)
   (tuple_addW2 t b vs.toArray ws.toArray n n2 dd dd2 sl sl2 (by simpa using hv) (by simpa using hw) (by rw [List.size_toArray,List.size_toArray]; exact hsz)) ⟨ho,ho2,?_⟩
  rw [e]
  exact h2 hw
def sIx (n d:Nat):Option Int->Nat
 | none=>d
 | some v=>if v < 0 then (v + (n:Int)).toNat else min v.toNat n
theorem sIx_none (n d:Nat):sIx n d none=d:=rfl
theorem sIx_nat (n d k:Nat):sIx n d (some (k:Int))=min k n:=by
 show (if (k:Int) < 0 then ((k:Int) + (n:Int)).toNat else min (k:Int).toNat n)=min k n
 rw [if_neg (by omega),Int.toNat_natCast]
theorem zNt (n d:Nat) (hd:d<=n) (o:Option Int):sIx n d o<=n:=by
 cases o with
 | none=>exact hd
 | some v=>
  show (if v < 0 then (v + (n:Int)).toNat else min v.toNat n)<=n
  by_cases hv:v < 0
  ·rw [if_pos hv]; omega
  ·rw [if_neg hv]; exact Nat.min_le_right _ _
theorem zLW (v:Int) (n d:Nat):(if v < 0 then max (v + (n:Int)) 0 else min v (n:Int))=((sIx n d (some v):Nat):Int):=by
 show (if v < 0 then max (v + (n:Int)) 0 else min v (n:Int))=(((if v < 0 then (v + (n:Int)).toNat else min v.toNat n):Nat):Int)
 by_cases hv:v < 0
 ·simp only [if_pos hv]; omega
 ·simp only [if_neg hv]; omega
theorem zJ6 (lo hi:Option Int) (n:Nat):Builtin.Slice.sliceAdjust lo hi 1 (n:Int)=(((sIx n 0 lo:Nat):Int),((sIx n n hi:Nat):Int)):=by
 have h1:¬ ((1:Int) < 0):=by omega
 unfold Builtin.Slice.sliceAdjust
 simp only [h1,if_false]
 refine Prod.ext ?_ ?_
 ·cases lo with
  | none=>rfl
  | some v=>exact zLW v n 0
 ·cases hi with
  | none=>rfl
  | some v=>exact zLW v n n
theorem zJe (i j:Nat):Builtin.Slice.slicePlaces (i:Int) (j:Int) 1=j - i:=by
 unfold Builtin.Slice.slicePlaces
 have h1:(1:Int) > 0:=by omega
 simp only [h1,if_true,Int.ediv_one]
 split <;> omega
theorem zGf {v:Value} {o:Option Int} {Q:Option Int->Shared->Prop} (p:IsPart v o) (h:Q o s):wpAny (model prog w) A (Builtin.Slice.slicePartIndex v) Q E s:=by
 cases p with
 | none=>exact slicePart_none h
 | int i t=>exact slicePart_int h
theorem zFS {sl:Addr} {vl vu:Value} {lo hi:Option Int} {n:Nat} {Q:Int × Int × Nat->Shared->Prop} (hs:s.heap.IsSliceOf sl vl vu .none) (pl:IsPart vl lo) (pu:IsPart vu hi)
  (h:Q (((sIx n 0 lo:Nat):Int),1,sIx n n hi - sIx n 0 lo) s):wpAny (model prog w) A (Builtin.Slice.sliceApplied (.ref sl) (pure (n:Int))) Q E s:=by
 obtain ⟨os,hos,hcs,hds⟩:=id hs
 unfold Builtin.Slice.sliceApplied Builtin.Slice.sliceFields
 refine wpAny_bind (wpAny_bind (wpAny_field hos hds (x:=vl) rfl (wpAny_bind (wpAny_field hos hds (x:=vu) rfl (wpAny_bind (wpAny_field hos hds (x:=.none) rfl (wpAny_pure ?_)))))))
 refine wpAny_bind (slicePart_none ?_)
 show wpAny _ _ (if ((1:Int) == 0)=true then _ else _) _ _ s
 rw [if_neg (by decide)]
 refine wpAny_bind (zGf pl (wpAny_bind (zGf pu (wpAny_bind (wpAny_pure ?_)))))
 show wpAny _ _ (match Builtin.Slice.sliceAdjust lo hi 1 (n:Int) with | (lo,hi)=>pure (lo,(1:Int),Builtin.Slice.slicePlaces lo hi 1)) _ _ s
 rw [zJ6 lo hi n]
 show wpAny _ _ (pure (((sIx n 0 lo:Nat):Int),(1:Int),Builtin.Slice.slicePlaces ((sIx n 0 lo:Nat):Int) ((sIx n n hi:Nat):Int) 1)) _ _ s
 rw [zJe]
 exact wpAny_pure h
theorem zLx (xs:Array Value) (i k:Nat):((List.range k).filterMap fun (m:Nat)=>xs[((i:Int) + (m:Int) * 1).toNat]?).toArray=((xs.toList.drop i).take k).toArray:=by
 have e:(fun (m:Nat)=>xs[((i:Int) + (m:Int) * 1).toNat]?)=fun m=>xs[i + m]?:=by
  funext m
  have:((i:Int) + (m:Int) * 1).toNat=i + m:=by omega
  rw [this]
 rw [e]
 have:=pick_run xs i k
 rw [List.filterMap_map] at this
 have e2:((fun x=>xs[x]?) ∘ fun x=>i + x)=fun m=>xs[i + m]?:=rfl
 rw [e2] at this
 rw [this]
theorem getItem_tuple_cut {t sl:Addr} {items:Array Value} {vl vu:Value} {lo hi:Option Int} {Q:Value->Shared->Prop} (ht:IsTup s.heap t items) (hs:s.heap.IsSliceOf sl vl vu .none) (pl:IsPart vl lo) (pu:IsPart vu hi)
  (hw:¬ (sIx items.size 0 lo=0/\sIx items.size items.size hi=items.size))
  (h:Q (.ref s.heap.objs.size) { s with heap:=s.heap.push { cls:=.type "tuple",data:=.seq ((items.toList.drop (sIx items.size 0 lo)).take (sIx items.size items.size hi - sIx items.size 0 lo)).toArray } })
  (hsz:items.size<=sizeLine):wpAny (model prog w) A (getItem (.ref t) (.ref sl)) Q E s:=by
 have htake:sizeOk (.seq ((items.toList.drop (sIx items.size 0 lo)).take (sIx items.size items.size hi - sIx items.size 0 lo)).toArray):=by
  show ((items.toList.drop (sIx items.size 0 lo)).take (sIx items.size items.size hi - sIx items.size 0 lo)).toArray.size<=sizeLine
  rw [List.size_toArray,List.length_take,List.length_drop,Array.length_toList]
  omega
 have hj:sIx items.size items.size hi<=items.size:=zNt _ _ (Nat.le_refl _) hi
 obtain ⟨os,hos,hcs,hds⟩:=id hs
 have hTs:s.TypeIs (.ref sl) "slice":=⟨os,hos,hcs⟩
 unfold getItem
 try with_reducible refine wpAny_holding ?_
 first | refine wpAny_bind (wpAny_pure ?_) | skip
 refine wpAny_bind (wpAny_sequenceKey ht.typeIs (by decide) ?_)
 refine wpAny_bind (wpAny_callSpecial?_slot (name:=Str.ofString "__getitem__") ht.typeIs PyProof.Rows.slot_tuple_getitem
  (wpAny_call_entry PyProof.Rows.slot_tuple_getitem ht.typeIs entry_tuple_getitem ?_ (args_tuple_getitem _ _)))
 show wpAny _ _ (Builtin.Tuple.tupleItemsOf (.ref t) >>= _) _ _ s
 refine wpAny_bind (tupleItemsOf_ ht ?_)
 refine wpAny_bind (wpAny_typeOf hTs ?_)
 rw [if_pos (by decide)]
 refine wpAny_bind (zFS hs pl pu ?_)
 have hno:¬ ((((sIx items.size 0 lo:Nat):Int) == 0 && (1:Int) == 1 && (sIx items.size items.size hi - sIx items.size 0 lo) == items.size)=true):=by
  intro q
  rw [Bool.and_eq_true,Bool.and_eq_true] at q
  have q1:((sIx items.size 0 lo:Nat):Int)=0:=eq_of_beq q.1.1
  have q2:sIx items.size items.size hi - sIx items.size 0 lo=items.size:=eq_of_beq q.2
  exact hw ⟨by omega,by omega⟩
 show wpAny _ _ (if (((sIx items.size 0 lo:Nat):Int) == 0 && (1:Int) == 1 && (sIx items.size items.size hi - sIx items.size 0 lo) == items.size)=true then _ else _) _ _ s
 rw [if_neg hno,zLx]
 first
  | exact wpAny_bind (m:=Builtin.Tuple.tupleExact _) (wpAny_newObj_type (wpAny_pure ⟨_,rfl,wpAny_pure h⟩) htake)
  | exact wpAny_bind (m:=Builtin.Tuple.tupleExact _) (wpAny_newObj_type (wpAny_bind (wpAny_pure (wpAny_pure ⟨_,rfl,wpAny_pure h⟩))) htake)
  | exact wpAny_bind (wpAny_bind (m:=Builtin.Tuple.tupleExact _) (wpAny_newObj_type (wpAny_pure (wpAny_pure ⟨_,rfl,wpAny_pure h⟩)) htake))
  | exact wpAny_bind (wpAny_bind (m:=Builtin.Tuple.tupleExact _) (wpAny_newObj_type (wpAny_pure ⟨_,rfl,wpAny_pure h⟩) htake))
end
end HT
namespace L2
open PySem PySem.Spec PyProof.Rows
abbrev TO:=St->Hp->(Option Int->Hp->Prop)->Prop
def PO (X:Cx) (e:Option Expr) (t:TO):Prop:=
 ∀ (pins:List (Addr × Obj)) (s:Shared) (σ:St) (H:Hp) (Q:Option Int->Hp->Prop),Inv X pins σ H s->t σ H Q->
  wpAny (model X.prog X.w) X.A (evalPart e X.env) (fun u s'=>∃ o H',Inv X pins σ H' s'/\IsPart u o/\Q o H') X.xe s
def zMt:TO:=fun _ H Q=>Q none H
def tPart (t:TE):TO:=fun σ H Q=>t σ H fun x H1=>∃ i,x=.int i/\Q (some i) H1
section
variable {X:Cx} {e:Expr} {te:TE} {lo hi:Option Expr} {tl th:TO} {pos p2:Pos}
theorem zCG:PO X none zMt:=by
 intro pins s σ H Q I h
 rw [evalPart_none]
 exact wpAny_pure ⟨none,H,I,.none,h⟩
theorem zBg (h:PE X e te):PO X (some e) (tPart te):=by
 intro pins s σ H Q I hw
 rw [evalPart_some]
 refine thn (h pins s σ H _ I hw) fun u s1 ⟨x,H1,I1,r1,q1⟩=>?_
 obtain ⟨i,rfl,q⟩:=q1
 obtain ⟨t,rfl⟩:=r1
 exact ⟨some i,H1,I1,.int i t,q⟩
def SlR (X:Cx) (r:V->Option Int->Option Int->Hp->VK->Prop):Prop:=
 ∀ (pins:List (Addr × Obj)) (s:Shared) (σ:St) (H:Hp) (x:V) (v vl vu:Value) (lo hi:Option Int) (sl:Addr) (Q:VK),Inv X pins σ H s->RelV x v->s.heap.IsSliceOf sl vl vu .none->IsPart vl lo->IsPart vu hi->r x lo hi H Q->
  ∃ T id,typeLookup (.type T) "__getitem__" = pure (some (.builtin id))/\s.TypeIs v T/\wpAny (model X.prog X.w) X.A (getItem v (.ref sl)) (EP X pins σ Q) X.xe s
def tSl (r:V->Option Int->Option Int->Hp->VK->Prop) (te:TE) (tl th:TO):TE:=fun σ H Q=>te σ H fun x H1=>tl σ H1 fun l H2=>th σ H2 fun u H3=>r x l u H3 Q
theorem zBP {r:V->Option Int->Option Int->Hp->VK->Prop} (hr:SlR X r) (he:PE X e te) (hl:PO X lo tl) (hu:PO X hi th):PE X (.Subscript e (.Slice lo hi none p2) pos) (tSl r te tl th):=by
 intro pins s σ H Q I h
 refine Subscript_ (thn (he pins s σ H _ I h) fun v s1 ⟨x,H1,I1,r1,q1⟩=>?_)
 refine wpAny_Slice (thn (hl pins s1 σ H1 _ I1 q1) fun vl s2 ⟨l,H2,I2,pl,q2⟩=>thn (hu pins s2 σ H2 _ I2 q2) fun vu s3 ⟨u,H3,I3,pu,q3⟩=>?_)
 rw [evalPart_none]
 refine wpAny_pure ?_
 have I4:Inv X pins σ H3 { s3 with heap:=s3.heap.push { cls:=.type "slice",data:=.fields #[vl,vu,.none] } }:=I3.kept (t':=s3.toks) fun b ob q=>Heap.get?_push_of_some _ q
 obtain ⟨T,id,hT,ht,hg⟩:=hr pins { s3 with heap:=s3.heap.push { cls:=.type "slice",data:=.fields #[vl,vu,.none] } } σ H3 x v vl vu l u s3.heap.objs.size Q I4 r1 (Heap.IsSliceOf.new ..) pl pu q3
 show wpAny (model X.prog X.w) X.A (subscriptTail e (.Slice lo hi none p2) v (.ref s3.heap.objs.size)) (EP X pins σ Q) X.xe { s3 with heap:=s3.heap.push { cls:=.type "slice",data:=.fields #[vl,vu,.none] } }
 exact tail_any (ops:=[.ref s3.heap.objs.size,v]) ht hT hg (by with_unfolding_all rfl)
def cutV (xs:List V) (lo hi:Option Int):List V:=(xs.drop (HT.sIx xs.length 0 lo)).take (HT.sIx xs.length xs.length hi - HT.sIx xs.length 0 lo)
theorem zGO (xs:List V) (lo hi:Option Int):(cutV xs lo hi).length<=xs.length:=by
 unfold cutV
 rw [List.length_take,List.length_drop]
 omega
def rSlT (K:PySem.W.Frag):V->Option Int->Option Int->Hp->VK->Prop:=fun x lo hi H Q=>∃ a xs,x=.ref a/\SqT K H a xs∧
 ¬ (HT.sIx xs.length 0 lo=0/\HT.sIx xs.length xs.length hi=xs.length)/\∀ p,H p=none->Q (.ref p) (upd H p (.tup (cutV xs lo hi)))
theorem zNs:SlR X (rSlT X.K):=by
 intro pins s σ H x v vl vu lo hi sl Q I rx hs pl pu h
 obtain ⟨a,xs,rfl,hx,hw,q⟩:=h
 cases rx
 obtain ⟨its,r,ht,hz⟩:=I.tuple hx
 have hlen:its.toArray.size=xs.length:=by rw [List.size_toArray]; exact r.length.symm
 refine ⟨"tuple",_,PyProof.Rows.slot_tuple_getitem.lookup,ht.typeIs,?_⟩
 refine HT.getItem_tuple_cut ht hs pl pu (by rw [hlen]; exact hw) ?_ (by rw [hlen]; exact hz)
 rw [hlen]
 refine ⟨.ref s.heap.objs.size,_,I.laid (t':=s.toks) (o:=.tup (cutV xs lo hi)) (fun b ob q=>Heap.get?_push_of_some _ q) (Nat.le_refl _) ?_,rfl,q _ (I.hok.fresh (Nat.le_refl _))⟩
 exact ⟨Nat.le_trans (zGO xs lo hi) hz,_,(r.drop (HT.sIx xs.length 0 lo)).take (HT.sIx xs.length xs.length hi - HT.sIx xs.length 0 lo),IsTup.new _ _⟩
def zNw (K:PySem.W.Frag):R2:=fun x y H Q=>∃ a b xs ys,x=.ref a/\y=.ref b/\SqT K H a xs/\SqT K H b ys/\xs≠[]/\xs.length + ys.length<=sizeLine∧
 (ys=[]->Q (.ref a) H)/\(ys≠[]->∀ p,H p=none->Q (.ref p) (upd H p (.tup (xs++ys))))
theorem Vals.nil_iff {xs:List V} {us:List Value} (r:Vals xs us):us=[] ↔ xs=[]:=by
 cases r with
 | nil=>simp
 | cons _ _=>simp
theorem zDw:OpR X (binaryOp .Add) (zNw X.K):=by
 intro pins s σ H x y v u Q I rx ry h
 obtain ⟨a,b,xs,ys,rfl,rfl,ha,hb,hx,hz,q1,q2⟩:=h
 cases rx
 cases ry
 obtain ⟨its,r1,p1,_⟩:=I.tuple ha
 obtain ⟨its2,r2,p2,_⟩:=I.tuple hb
 refine HT.cat_tup p1 p2 (fun z=>hx (r1.nil_iff.mp z)) (fun z=>⟨.ref a,H,I,rfl,q1 (r2.nil_iff.mp z)⟩) (fun z=>?_) (by rw [<- r1.length,<- r2.length]; exact hz)
 refine ⟨.ref s.heap.objs.size,_,I.laid (t':=s.toks) (o:=.tup (xs++ys)) (fun b ob q=>Heap.get?_push_of_some _ q) (Nat.le_refl _) ?_,rfl,q2 (fun w=>z (r2.nil_iff.mpr w)) _ (I.hok.fresh (Nat.le_refl _))⟩
 exact ⟨by rw [List.length_append]; exact hz,_,r1.append r2,IsTup.new _ _⟩
end
end L2
namespace L2
open PySem PySem.Spec PyProof.Rows
def ixN (n:Nat) (i:Int):Option Nat:=if 0<=i then (if i < n then some i.toNat else none) else if -(n:Int)<=i then some (i + n).toNat else none
def atI {α:Type} (xs:List α) (i:Int):Option α:=(ixN xs.length i).bind fun j=>xs[j]?
theorem zNE {n:Nat} {i:Int} {j:Nat} (h:ixN n i=some j):seqIndex? i n=some j/\j < n/\-(n:Int)<=i/\i < n:=by
 unfold ixN at h
 by_cases h0:0<=i
 ·rw [if_pos h0] at h
  by_cases h1:i < n
  ·rw [if_pos h1] at h
   have e:i.toNat=j:=Option.some.inj h
   exact ⟨by rw [seqIndex_of h0 h1,e],by omega,by omega,h1⟩
  ·rw [if_neg h1] at h; cases h
 ·rw [if_neg h0] at h
  by_cases h1 : -(n:Int)<=i
  ·rw [if_pos h1] at h
   have e:(i + n).toNat=j:=Option.some.inj h
   exact ⟨by rw [seqIndex_neg (by omega) h1,e],by omega,h1,by omega⟩
  ·rw [if_neg h1] at h; cases h
theorem zLa {α:Type} {xs:List α} {i:Int} {v:α} (h:atI xs i=some v):∃ j,seqIndex? i xs.length=some j/\xs[j]? = some v/\j < xs.length/\-(xs.length:Int)<=i/\i < xs.length:=by
 unfold atI at h
 cases e:ixN xs.length i with
 | none=>rw [e] at h; cases h
 | some j=>
  rw [e] at h
  obtain ⟨h1,h2,h3,h4⟩:=zNE e
  exact ⟨j,h1,h,h2,h3,h4⟩
theorem zDJ {α:Type} {xs:List α} {j:Nat} {v:α} (h:xs[j]? = some v):atI xs (j:Int)=some v:=by
 have hj:j < xs.length:=(List.getElem?_eq_some_iff.mp h).1
 have e:ixN xs.length (j:Int)=some j:=by
  unfold ixN
  rw [if_pos (by omega),if_pos (by omega)]; simp
 unfold atI; rw [e]; exact h
theorem zCE {α:Type} (xs:List α) (v:α):atI (xs++[v]) (-1)=some v:=by
 have hl:(xs++[v]).length=xs.length + 1:=by simp
 have e:ixN (xs++[v]).length (-1)=some xs.length:=by
  unfold ixN
  rw [hl,if_neg (by decide),if_pos (by omega)]
  congr 1
  omega
 unfold atI
 rw [e]
 show (xs++[v])[xs.length]? = some v
 simp
def zNc (b:Expr):Prop:=∀ o i,subscripted b false o i=operate [o,i] (getItem o i)
def IxR (X:Cx) (r:R2):Prop:=
 ∀ (value slice:Expr) (pins:List (Addr × Obj)) (s:Shared) (σ:St) (H:Hp) (x y:V) (v u:Value) (Q:VK),Inv X pins σ H s->RelV x v->RelV y u->r x y H Q->
  subscripted slice false v u=operate [v,u] (getItem v u)->wpAny (model X.prog X.w) X.A (subscriptTail value slice v u) (EP X pins σ Q) X.xe s
def MtR (X:Cx) (id:String) (r:V->List V->Hp->VK->Prop):Prop:=
 ∀ (pins:List (Addr × Obj)) (s:Shared) (σ:St) (H:Hp) (x:V) (xs:List V) (v:Value) (us:List Value) (Q:VK),Inv X pins σ H s->RelV x v->Vals xs us->r x xs H Q->
  wpAny (model X.prog X.w) X.A (call (.builtin id) (v :: us)) (EP X pins σ Q) X.xe s
section
variable {X:Cx} {a b:Expr} {ta tb:TE} {pos:Pos}
theorem zAX {r:R2} (hr:IxR X r) (ha:PE X a ta) (hb:PE X b tb) (hs:zNc b):PE X (.Subscript a b pos) (tOp r ta tb):=by
 intro pins s σ H Q I h
 exact Subscript_ (binT ha hb I h fun v u s2 x y H2 I2 rx ry q=>hr a b pins s2 σ H2 x y v u Q I2 rx ry q (hs _ _))
def rIxL (K:PySem.W.Frag):R2:=fun x y H Q=>∃ p xs i v,x=.ref p/\y=.int i/\SqL K H p xs/\atI xs i=some v/\Q v H
def rIxT (K:PySem.W.Frag):R2:=fun x y H Q=>∃ p xs i v,x=.ref p/\y=.int i/\SqT K H p xs/\atI xs i=some v/\Q v H
theorem zND:IxR X (rIxL X.K):=by
 intro value slice pins s σ H x y v u Q I rx ry h hs
 obtain ⟨p,xs,i,z,rfl,rfl,hq,he,q⟩:=h
 cases rx
 obtain ⟨t,rfl⟩:=ry
 obtain ⟨its,r,pl,hz⟩:=I.list hq
 obtain ⟨j,h1,h2,h3,h4,h5⟩:=zLa he
 obtain ⟨w,ew,rw'⟩:=r.get h2
 have hl:=r.length
 have hn:=zK2
 have fin:EP X pins σ Q w s:=⟨z,H,I,rw',q⟩
 by_cases h0:0<=i
 ·have hj:i.toNat=j:=by
   rw [seqIndex_of h0 h5] at h1
   exact Option.some.inj h1
  exact item_listR pl.isList h0 (by omega) (by rw [hj]; simpa using ew) fin hs
 ·have hj:(i + (its.toArray.size:Int)).toNat=j:=by
   rw [seqIndex_neg (by omega) h4] at h1
   rw [List.size_toArray,<- hl]
   exact Option.some.inj h1
  exact subscriptTail_builtinR (x:=w) pl.isList.typeIs slot_list_getitem.lookup
   (wpAny_getItem_list_neg (Q:=fun r s'=>r=w/\EP X pins σ Q r s') pl.isList (by omega) (by rw [List.size_toArray] <;> omega) (by omega) (by rw [hj]; simpa using ew) ⟨rfl,fin⟩) hs
theorem zOL:IxR X (rIxT X.K):=by
 intro value slice pins s σ H x y v u Q I rx ry h hs
 obtain ⟨p,xs,i,z,rfl,rfl,hq,he,q⟩:=h
 cases rx
 obtain ⟨t,rfl⟩:=ry
 obtain ⟨its,r,pl,hz⟩:=I.tuple hq
 obtain ⟨j,h1,h2,h3,h4,h5⟩:=zLa he
 obtain ⟨w,ew,rw'⟩:=r.get h2
 have hl:=r.length
 have hn:=zK2
 have fin:EP X pins σ Q w s:=⟨z,H,I,rw',q⟩
 exact subscriptTail_builtinR (x:=w) pl.typeIs slot_tuple_getitem.lookup
  (getItem_tuple (j:=j) (Q:=fun r s'=>r=w/\EP X pins σ Q r s') pl (by omega) (by omega) (by rw [List.size_toArray,<- hl]; exact h1) (by simpa using ew) ⟨rfl,fin⟩) hs
theorem zHT (lo hi:Option Int) (n:Nat):(sliceBounds lo hi none n).1=((HT.sIx n 0 lo:Nat):Int)/\(sliceBounds lo hi none n).2.1=((HT.sIx n n hi:Nat):Int)/\(sliceBounds lo hi none n).2.2=1:=by
 refine ⟨?_,?_,rfl⟩
 ·cases lo with
  | none=>simp [sliceBounds,HT.sIx]
  | some i=>
   simp only [sliceBounds,HT.sIx,Option.getD_none,show (1:Int) > 0 by decide,if_true]
   by_cases h:i < 0
   ·simp only [h,if_true] <;> omega
   ·simp only [h,if_false] <;> omega
 ·cases hi with
  | none=>simp [sliceBounds,HT.sIx]
  | some i=>
   simp only [sliceBounds,HT.sIx,Option.getD_none,show (1:Int) > 0 by decide,if_true]
   by_cases h:i < 0
   ·simp only [h,if_true] <;> omega
   ·simp only [h,if_false] <;> omega
theorem zG6 (its:List Value) (lo hi:Option Int):slicePick its.toArray lo hi none=((its.drop (HT.sIx its.length 0 lo)).take (HT.sIx its.length its.length hi - HT.sIx its.length 0 lo)).toArray:=by
 obtain ⟨h1,h2,h3⟩:=zHT lo hi its.toArray.size
 unfold slicePick
 rw [h1,h2,h3]
 simp only [sliceRange_one,pick_run,List.size_toArray] <;> rfl
def rSlL (K:PySem.W.Frag):V->Option Int->Option Int->Hp->VK->Prop:=fun x lo hi H Q=>∃ a xs,x=.ref a/\SqL K H a xs/\∀ p,H p=none->Q (.ref p) (upd H p (.lst (cutV xs lo hi)))
theorem zMx:SlR X (rSlL X.K):=by
 intro pins s σ H x v vl vu lo hi sl Q I rx hs pl pu h
 obtain ⟨a,xs,rfl,hx,q⟩:=h
 cases rx
 obtain ⟨its,r,ht,hz⟩:=I.list hx
 have hlen:=r.length
 refine ⟨"list",_,slot_list_getitem.lookup,ht.isList.typeIs,?_⟩
 refine wpAny_getItem_list_slice ht.isList hs pl pu .none (by simp) ?_ (by rw [List.size_toArray] <;> omega)
 rw [zG6,<- hlen]
 refine ⟨.ref s.heap.objs.size,_,I.laid (t':=s.toks) (o:=.lst (cutV xs lo hi)) (fun b ob q=>Heap.get?_push_of_some _ q) (Nat.le_refl _) ?_,rfl,q _ (I.hok.fresh (Nat.le_refl _))⟩
 exact ⟨Nat.le_trans (zGO xs lo hi) hz,_,0,(r.drop (HT.sIx xs.length 0 lo)).take (HT.sIx xs.length xs.length hi - HT.sIx xs.length 0 lo),Heap.get?_push_size _ rfl⟩
theorem zHp:zDr X (.builtin "len") (fun xs H Q=>∃ p ys,xs=[.ref p]/\(SqL X.K H p ys\/SqT X.K H p ys)/\Q (.int ys.length) H):=by
 intro pins s σ H xs us Q I r h
 obtain ⟨p,ys,rfl,hq,q⟩:=h
 obtain ⟨u,rfl,rx⟩:=zHO r
 cases rx
 have hn:=zK2
 rcases hq with hq | hq
 ·obtain ⟨its,r',pl,hz⟩:=I.list hq
  have hlen:=r'.length
  exact Calls.call_len_list pl.isList (by simp only [List.size_toArray] <;> omega) ⟨.int ys.length,H,I.tok _,⟨s.toks + 1,by rw [List.size_toArray,hlen]⟩,q⟩
 ·obtain ⟨its,r',pl,hz⟩:=I.tuple hq
  have hlen:=r'.length
  exact len_tuple pl (by simp only [List.size_toArray] <;> omega) ⟨.int ys.length,H,I.tok _,⟨s.toks + 1,by rw [List.size_toArray,hlen]⟩,q⟩
theorem zAy:zDr X (.type "list") (fun xs H Q=>∃ p ys,xs=[.ref p]/\(SqL X.K H p ys\/SqT X.K H p ys)/\∀ l,H l=none->Q (.ref l) (upd H l (.lst ys))):=by
 intro pins s σ H xs us Q I r h
 obtain ⟨p,ys,rfl,hq,q⟩:=h
 obtain ⟨u,rfl,rx⟩:=zHO r
 cases rx
 have fin:∀ (its:List Value),Vals ys its->ys.length<=sizeLine->∀ (h':Heap) (c':Nat),(∀ b o',s.heap.get? b=some o'->h'.get? b=some o')->
   h'.get? s.heap.objs.size=some { cls:=.type "list",dict:=none,data:=.seq its.toArray c',slots:=#[] }->EP X pins σ Q (.ref s.heap.objs.size) { s with heap:=h' }:=fun its r' hz h' c' kp e=>
  ⟨.ref s.heap.objs.size,_,I.laid (t':=s.toks) kp (Nat.le_refl _) (show zB5 X.prog X.w _ h' _ (.lst ys) from ⟨hz,its,c',r',e⟩),rfl,q _ (I.hok.fresh (Nat.le_refl _))⟩
 rcases hq with hq | hq
 ·obtain ⟨its,r',pl,hz⟩:=I.list hq
  have hlen:=r'.length
  obtain ⟨o,ho,hc,n,hd⟩:=pl.isList
  exact call_list_seq p (.inl rfl) ho hc hd (fun h' c' kp e=>fin its r' hz h' c' kp e) (by simp only [List.size_toArray] <;> omega)
 ·obtain ⟨its,r',pl,hz⟩:=I.tuple hq
  have hlen:=r'.length
  obtain ⟨o,ho,hc,n,hd⟩:=pl
  exact call_list_seq p (.inr rfl) ho hc hd (fun h' c' kp e=>fin its r' hz h' c' kp e) (by simp only [List.size_toArray] <;> omega)
theorem zHK:zDr X (.type "tuple") (fun xs H Q=>∃ p ys,xs=[.ref p]/\((SqL X.K H p ys/\∀ l,H l=none->Q (.ref l) (upd H l (.tup ys)))\/(SqT X.K H p ys/\Q (.ref p) H))):=by
 intro pins s σ H xs us Q I r h
 obtain ⟨p,ys,rfl,h⟩:=h
 obtain ⟨u,rfl,rx⟩:=zHO r
 cases rx
 rcases h with ⟨hq,q⟩ | ⟨hq,q⟩
 ·obtain ⟨its,r',pl,hz⟩:=I.list hq
  have hlen:=r'.length
  refine call_tuple_list pl.isList (fun h' kp=>?_) (by simp only [List.size_toArray] <;> omega)
  have I1:Inv X pins σ H { s with heap:=h' }:=I.kept (t':=s.toks) kp
  have I2:Inv X pins σ (upd H h'.objs.size (.tup ys)) { s with heap:=h'.push { cls:=.type "tuple",data:=.seq its.toArray } }:=
   I1.laid (t':=s.toks) (fun b o e=>Heap.get?_push_of_some _ e) (Nat.le_refl _) (show zB5 X.prog X.w _ _ _ (.tup ys) from ⟨hz,its,r',IsTup.new _ _⟩)
  exact ⟨.ref h'.objs.size,_,I2,rfl,q _ (I1.hok.fresh (Nat.le_refl _))⟩
 ·obtain ⟨its,r',pl,hz⟩:=I.tuple hq
  exact call_tuple_same pl ⟨.ref p,H,I,rfl,q⟩
def tyV (K:PySem.W.Frag) (T:String) (x:V) (H:Hp):Prop:=match x with
 | .str _=>T = "str"
 | .int _=>T = "int"
 | .ref p=>(T = "list"/\∃ xs,SqL K H p xs)\/(T = "tuple"/\∃ o,K.lookup p=some o/\o.cls=.type "tuple"/\o.dict=none)∨
   (T = "dict"/\((∃ kvs,H p=some (.dK kvs))\/∃ kvs,H p=some (.dT kvs)))\/(T = "set"/\∃ S n,H p=some (.set S n))
 | _=>False
theorem zMU {pins:List (Addr × Obj)} {σ:St} {H:Hp} {s:Shared} {T:String} {x:V} {v:Value} (I:Inv X pins σ H s) (r:RelV x v) (ty:tyV X.K T x H) :
  s.TypeIs v T/\∀ a,v=.ref a->∃ ob,s.heap.get? a=some ob/\ob.dict=none:=by
 cases x with
 | str z=>
  obtain ⟨t,rfl⟩:=r
  cases (show T = "str" from ty)
  exact ⟨typeIs_str s z t,fun _ e=>nomatch e⟩
 | int i=>
  obtain ⟨t,rfl⟩:=r
  cases (show T = "int" from ty)
  exact ⟨typeIs_int s i t,fun _ e=>nomatch e⟩
 | ref p=>
  cases r
  rcases ty with ⟨rfl,xs,hq⟩ | ⟨rfl,o,hk,hc,hd⟩ | ⟨rfl,hk⟩ | ⟨rfl,S,n,hk⟩
  ·obtain ⟨its,_,pl,_⟩:=I.list hq
   refine ⟨pl.isList.typeIs,fun a e=>?_⟩
   cases e
   obtain ⟨o,n,e,c,hd,_⟩:=pl
   exact ⟨o,e,hd⟩
  ·refine ⟨⟨o,I.kIn p o hk,hc⟩,fun a e=>?_⟩
   cases e
   exact ⟨o,I.kIn _ o hk,hd⟩
  ·have z:∃ o,s.heap.get? p=some o/\o.ExactDict:=by
    rcases hk with ⟨kvs,hk⟩ | ⟨kvs,hk⟩
    ·obtain ⟨_,_,_,_,o,_,_,e,ex,_⟩:=I.hok p _ hk
     exact ⟨o,e,ex⟩
    ·obtain ⟨_,_,_,_,o,_,_,e,ex,_⟩:=I.hok p _ hk
     exact ⟨o,e,ex⟩
   obtain ⟨o,e,ex⟩:=z
   refine ⟨⟨o,e,ex.1⟩,fun a e2=>?_⟩
   cases e2
   exact ⟨o,e,ex.2.1⟩
  ·obtain ⟨o,_,_,_,e,ex,_⟩:=I.hok p _ hk
   refine ⟨⟨o,e,ex.1⟩,fun a e2=>?_⟩
   cases e2
   exact ⟨o,e,ex.2.1⟩
 | _=>exact False.elim ty
def tBM (K:PySem.W.Frag) (T:String) (r:V->List V->Hp->VK->Prop) (to:TE) (t:TA):TE:=fun σ H Q=>to σ H fun x H1=>tyV K T x H1/\t σ H1 fun xs H2=>r x xs H2 Q
variable {o e:Expr} {es:List Expr} {to:TE} {t:TA} {name:Str} {apos cpos:Pos} {T id:String} {r:V->List V->Hp->VK->Prop}
theorem zDs (pa:PlainAttrs T) (slot:Slot T name id) (hty:typeOf (.builtin id)=pure (.type "method_descriptor")) (hm:MtR X id r) (ho:PE X o to) (ha:PA X (e :: es) t)
  (hbase:attributeBase o name X.env (eval o X.env)=eval o X.env:=by rfl)
  (hfew:((backTo cpos (starEach (e :: es) X.env)).all (fun x=>!x.1) && (backToKw cpos (keywordEach [] X.env)).all (fun x=>x.1.isSome)
   && decide ((e :: es).length + ([]:List Keyword).length + (if ([]:List Keyword).isEmpty then 0 else 1) < 30))=true:=by rfl)
  (hline:(apos.endLine == cpos.line)=true:=by rfl) (hs:starEach (e :: es) X.env=(false,eval e X.env) :: starEach es X.env:=by rfl) (hplain:(backTo cpos (starEach es X.env)).any (·.1)=false:=by rfl) :
  PE X (.Call (.Attribute o name apos) (e :: es) [] cpos) (tBM X.K T r to t):=by
 intro pins s σ H Q I h
 refine wpAny_Call_method_late hbase hfew hline rfl (thn (ho pins s σ H _ I h) fun v s1 ⟨x,H1,I1,r1,ty,q1⟩=>?_)
 obtain ⟨h1,h2⟩:=zMU I1 r1 ty
 refine ⟨T,id,pa,slot,hty,h1,h2,?_⟩
 have hA:=ha cpos pins s1 σ H1 _ I1 q1
 rw [hs] at hA |-
 refine Calls.callWith_builtin (by show (false || (backTo cpos (starEach es X.env)).any (·.1))=false; rw [hplain] <;> rfl) (Calls.evalArgs_plain ?_)
 exact thn hA fun us s2 ⟨vs,H2,I2,r2,q2⟩=>hm pins s2 σ H2 x vs v us Q I2 r1 r2 q2
/- xs.append(e),list.index on a module's tuple .. are MtR facts of 06m -/
end
end L2
namespace L2
open PySem PySem.Spec PyProof.Rows
def MtM (X:Cx) (id:String) (r:V->List V->Hp->VK->Prop):Prop:=
 ∀ (pins:List (Addr × Obj)) (s:Shared) (σ:St) (H:Hp) (x:V) (xs:List V) (v:Value) (us:List Value) (Q:VK),Inv X pins σ H s->RelV x v->Vals xs us->r x xs H Q->
  wpAny (model X.prog X.w) X.A (call (.builtin id) (v :: us)) (EP X pins σ Q) X.xe s
theorem Vals.one:∀ {x:V} {us:List Value},Vals [x] us->∃ u,us=[u]/\RelV x u
 | _,_,.cons r .nil=>⟨_,rfl,r⟩
theorem Vals.rep {xs:List V} {us:List Value} (h:Vals xs us):∀ k:Nat,Vals (List.replicate k xs).flatten (List.replicate k us).flatten
 | 0=>.nil
 | k + 1=>by
  rw [List.replicate_succ,List.replicate_succ,List.flatten_cons,List.flatten_cons]
  exact Vals.append h (Vals.rep h k)
theorem zHm (its:List Value):∀ (k:Nat) (acc:List Value),
  List.foldl (fun x1 x2=>x1++x2) acc.toArray (List.replicate k its.toArray)=(acc++(List.replicate k its).flatten).toArray
 | 0,acc=>by simp
 | k + 1,acc=>by
  have e:acc.toArray++its.toArray=(acc++its).toArray:=by simp
  have e2:(acc++its)++(List.replicate k its).flatten=acc++(List.replicate (k + 1) its).flatten:=by
   rw [List.replicate_succ,List.flatten_cons,List.append_assoc]
  rw [<- e2,<- zHm its k (acc++its),<- e,List.replicate_succ,List.foldl_cons]
section
variable {X:Cx} {pins:List (Addr × Obj)} {σ:St} {H:Hp} {s:Shared} {l b:Addr} {xs ys zs:List V}
theorem Inv.lset {its its':List Value} {n:Nat} {f:Array Value->Array Value} {t':Nat} (I:Inv X pins σ H s) (hH:H l=some (.lst xs))
  (e:s.heap.get? l=some { cls:=.type "list",data:=.seq its.toArray n }) (hf:f its.toArray=its'.toArray) (hv:Vals ys its') (hz:ys.length<=sizeLine) :
  Inv X pins σ (upd H l (.lst ys)) { s with heap:=s.heap.update l (Obj.mapSeq f),toks:=t' }:=by
 have q:=PySem.IsL.update e f
 rw [hf] at q
 refine I.write (x:=l) (e:=l) (by rw [hH]; exact trivial) (.inl rfl) (fun b' u hb hu=>(Heap.get?_update_other s.heap (Obj.mapSeq f) (Ne.symm hb)).trans hu) ⟨_,q⟩ ?_
 exact ⟨hz,its',_,hv,q⟩
theorem Inv.lnew {its:List Value} {t':Nat} (I:Inv X pins σ H s) (hv:Vals ys its) (hz:ys.length<=sizeLine) :
  Inv X pins σ (upd H s.heap.objs.size (.lst ys)) { s with heap:=s.heap.push { cls:=.type "list",data:=.seq its.toArray },toks:=t' }:=
 I.laid (fun _ _ q=>Heap.get?_push_of_some _ q) (Nat.le_refl _) ⟨hz,its,0,hv,Heap.get?_push_size _ rfl⟩
theorem Inv.fresh (I:Inv X pins σ H s):H s.heap.objs.size=none:=I.hok.fresh (Nat.le_refl _)
theorem Inv.lstM (I:Inv X pins σ H s) (hH:H l=some (.lst xs)):xs.length<=sizeLine/\∃ (its:List Value) (n:Nat),Vals xs its/\xs.length=its.length/\s.heap.get? l=some { cls:=.type "list",data:=.seq its.toArray n }:=by
 obtain ⟨z,its,n,r,e⟩:=I.hok l _ hH
 exact ⟨z,its,n,r,r.length,e⟩
theorem zL8 {n:Nat} (h:n<=sizeLine):Builtin.List.listTooLong n=false:=by
 unfold Builtin.List.listTooLong
 exact decide_eq_false (by omega)
end
section
variable {X:Cx}
def zM0:V->List V->Hp->VK->Prop:=fun x vs H Q=>∃ l xs y,x=.ref l/\vs=[y]/\H l=some (.lst xs)/\xs.length < sizeLine/\Q .non (upd H l (.lst (xs++[y])))
theorem zKz:MtM X "list.append" zM0:=by
 intro pins s σ H x vs v us Q I rx rv h
 obtain ⟨l,xs,y,rfl,rfl,hH,hz,q⟩:=h
 cases rx
 obtain ⟨u,rfl,ru⟩:=rv.one
 obtain ⟨z,its,n,r,hl,e⟩:=I.lstM hH
 refine call_meets F.slot_list_append ⟨_,e,rfl⟩ F.entry_list_append (F.args_list_append_2 _ _) (PySem.list_append l its.toArray n u (by rw [List.size_toArray]; omega)) ⟨e,?_⟩
 refine ⟨.non,_,I.lset (its':=its++[u]) hH e (by simp) (r.append (.cons ru .nil)) ?_,rfl,q⟩
 rw [List.length_append,List.length_singleton]
 omega
def rCat:R2:=fun x y H Q=>∃ l b xs zs,x=.ref l/\y=.ref b/\H l=some (.lst xs)/\H b=some (.lst zs)/\xs.length + zs.length<=sizeLine/\∀ p,H p=none->Q (.ref p) (upd H p (.lst (xs++zs)))
theorem zOB:OpR X (binaryOp .Add) rCat:=by
 intro pins s σ H x y v u Q I rx ry h
 obtain ⟨l,b,xs,zs,rfl,rfl,hH,hB,hz,q⟩:=h
 cases rx
 cases ry
 obtain ⟨z,its,n,r,hl,e⟩:=I.lstM hH
 obtain ⟨z2,its2,n2,r2,hl2,e2⟩:=I.lstM hB
 refine PySem.P.add_list e e2 ?_ (by rw [List.size_toArray,List.size_toArray]; omega)
 have ea:its.toArray++its2.toArray=(its++its2).toArray:=by simp
 rw [ea]
 exact ⟨.ref _,_,I.lnew (t':=s.toks) (r.append r2) (by rw [List.length_append]; omega),rfl,q _ I.fresh⟩
def rRep:R2:=fun x y H Q=>∃ l k xs,x=.ref l/\y=.int k/\H l=some (.lst xs)/\-(2 ^ 63)<=k/\k < 2 ^ 63/\xs.length * k.toNat<=sizeLine∧
 ∀ p,H p=none->Q (.ref p) (upd H p (.lst (List.replicate k.toNat xs).flatten))
theorem zNC {α:Type} (xs:List α) (k:Nat):(List.replicate k xs).flatten.length=k * xs.length:=by
 induction k with
 | zero=>simp
 | succ k ih=>rw [List.replicate_succ,List.flatten_cons,List.length_append,ih,Nat.succ_mul,Nat.add_comm]
theorem zN8:OpR X (binaryOp .Mult) rRep:=by
 intro pins s σ H x y v u Q I rx ry h
 obtain ⟨l,k,xs,rfl,rfl,hH,h1,h2,hz,q⟩:=h
 cases rx
 obtain ⟨t,rfl⟩:=ry
 obtain ⟨z,its,n,r,hl,e⟩:=I.lstM hH
 have hlen:its.toArray.size * k.toNat<=sizeLine:=by rw [List.size_toArray,<- hl]; exact hz
 have hcap:¬ its.toArray.size * k.toNat > (2 ^ 63 - 1) / 8:=by
  have:(sizeLine:Nat)<=(2 ^ 63 - 1) / 8:=by decide
  omega
 have hfit:¬ (!Builtin.List.listFitsIndex k)=true:=by
  rw [fitsIndex_both h1 h2]
  exact Bool.false_ne_true
 have hlong:¬ Builtin.List.listTooLong (its.toArray.size * k.toNat)=true:=by
  rw [zL8 hlen]
  exact Bool.false_ne_true
 have hnew:List.foldl (fun x1 x2=>x1++x2) #[] (List.replicate (if its.toArray.isEmpty=true then 0 else k.toNat) its.toArray)=(List.replicate k.toNat its).flatten.toArray:=by
  have f0:∀ m:Nat,List.foldl (fun x1 x2=>x1++x2) #[] (List.replicate m its.toArray)=(List.replicate m its).flatten.toArray:=fun m=>by
   have:=zHm its m []
   rw [List.nil_append] at this
   exact this
  rw [f0]
  cases its with
  | nil=>simp
  | cons a r'=>rw [if_neg (by simp)]
 refine wpAny_binaryOp_repeat_ref (T:="list") (U:="int") (by decide) ⟨_,e,rfl⟩ (fun s'=>typeIs_int s' k t) noFill_list_mul F.fills_int_mul F.slot_int_rmul repeat_list F.slot_int_index.lookup
  (call_meets F.slot_int_rmul (typeIs_int s k t) F.entry_int_rmul (F.args_int_rmul_2 _ _) (int___rmul___int_list k t l its.toArray n)
   ⟨e,rfl,⟨_,e,rfl⟩,call_meets F.slot_list_mul ⟨_,e,rfl⟩ F.entry_list_mul (F.args_list_mul_2 _ _) (AutoListH.list___mul___list_int_3 l its.toArray n k t hfit hcap hlong) ⟨e,?_⟩⟩)
 rw [hnew]
 exact ⟨.ref _,_,I.lnew (t':=s.toks) (r.rep k.toNat) (by rw [zNC,Nat.mul_comm]; exact hz),rfl,q _ I.fresh⟩
end
section
variable {prog:Program} {w:World} {A:Around} {E:Value->Shared->Prop} {s:Shared}
end
section
variable {X:Cx}
end
end L2
namespace Att
open PySem PySem.W PySem.Calls PyProof.Rows
theorem zGH {P:Params} {h:Heap}:∀ (ns:List Int) (vs:List Value),WellAll P h vs (ns.map WData.int)->IntsAre vs ns:=by
 intro ns
 induction ns with
 | nil=>
  intro vs w
  rw [List.map_nil] at w
  cases w
  exact .nil
 | cons n ns ih=>
  intro vs w
  rw [List.map_cons] at w
  cases w with
  | cons a b=>
   cases a
   exact .cons _ _ (ih _ b)
theorem zKO {l:OpenLaw} {n:Nat} (hn:l.most=some n) {P:Params} {h:Heap} {args:List WData} {vals:List Value}
  (hpre:l.row.toRowW.claim.pre args=true) (hwl:WellAll P h vals args) :
  ∃ a vs ns,vals=[Value.ref a]/\args=[WData.list (ns.map WData.int)]/\h.get? a=some { cls:=.type "list",data:=.seq vs.toArray }/\IntsAre vs ns/\ns.length<=n:=by
 have hsh:WShape.hasAll [] args [.list .int]=true:=(pre_splitW hpre).1
 have hc:l.pre.holds [] { args:=args }=true:=(pre_splitW hpre).2
 obtain ⟨d,r,rfl,h1,h2⟩:=hasAllW_cons hsh
 obtain rfl:=hasAllW_nil h2
 obtain ⟨xs,rfl,h3⟩:=hasW_list h1
 obtain ⟨ns,rfl⟩:=items_int h3
 have hlen:ns.length<=n:=by
  unfold OpenLaw.pre at hc
  have h4:(WTm.not (.lt (.lit (.int (n:Int))) (.len (.arg 0)))).holds [] { args:=[.list (ns.map .int)] }=true:=by
   have h4:=(holds_andW hc).1
   rw [hn] at h4
   exact h4
  have h5:=condW_of h4 (w_not (w_lt w_lit (w_len_list (w_arg rfl))))
  rw [List.length_map] at h5
  refine Nat.le_of_not_lt fun q=>?_
  have q':(n:Int) < ((ns.length:Nat):Int):=by omega
  first
   | (rw [decide_eq_true q'] at h5; exact absurd h5 (by decide))
   | (simp at h5; omega)
 cases hwl with
 | cons w1 w2=>
  cases w2
  cases w1 with
  | list ho hall=>exact ⟨_,_,ns,rfl,rfl,ho,zGH ns _ hall,hlen⟩
theorem zKZ (l:OpenLaw) (args:List WData):l.row.toRowW.claim.post args (.bool true) args=true:=
 postW_of (r:=l.row.toRowW) (X:=(true == true))
  (show WShape.has [] (.bool true) .bool=true by first | rfl | decide | simp [WShape.has,WShape.arms,WShape.armsAll])
  (show (WTm.eq .res (.lit (.bool true))).value [] { args:=args,res:=some (.bool true),after:=args }=some (.bool (true == true)) from w_eq_bool (w_res rfl) w_lit) rfl
theorem attach_call {l:OpenLaw} {n:Nat} {q:Program} {loose:List Str} {XP:(Str->Option Value)->Heap->Prop} {YP:World->Heap->Prop} {d:DefRec}
  (hn:l.most=some n) (hdf:d.params.defaults=[])
  (call:∀ (w:World) (s₀ s₁:Shared) (mg mb:Str->Option Value) (fa:Addr) (o:Obj) (pm cd doc:Value) (a:Addr) (vs:List Value) (ns:List Int),
   Ground q loose [] XP w s₀ mg mb s₁.heap->YP w s₁.heap->
   s₁.heap.get? fa=some o->o.data=.func (docDef d.name d.params d.body d.scope pm cd doc)->s₁.heap.CodeRec cd d.name->mg d.name=some (.ref fa)->
   s₁.heap.get? a=some { cls:=.type "list",data:=.seq vs.toArray }->IntsAre vs ns->ns.length<=n->s₁.gens=#[]->
   codeAny (model l.prog w) callerA (.call (.ref fa) ⟨[.ref a],[]⟩) (fun r s'=>r=.ok (.ret (.bool true))/\OldK s₁.heap s'.heap/\s'.os=s₁.os/\AllBare s'.gens) s₁) :
  WalkO q loose XP YP l.row.toRowW d [] (fun f vs=>PySem.call f vs):=by
 intro w s₀ s₁ mg mb G Y fa o pm cd doc dV kV ho hd hcd hD hmg hg args vals as hpre hlay hrd hwl hlo
 obtain rfl:dV=.none:=Dflts.none hD hdf
 obtain rfl:kV=.none:=Dflts.noKw hD
 obtain ⟨a,vs,ns,rfl,rfl,hobj,hints,hlen⟩:=zKO hn hpre hwl
 refine enter_call (codeAny_mono (call w s₀ s₁ mg mb fa o pm cd doc a vs ns G Y ho (fd_plain hd) hcd hmg hobj hints hlen hg) fun r s' hq=>?_)
 obtain ⟨rfl,h2,h3,h4⟩:=hq
 exact ⟨.inl ⟨.bool true,.bool true,[],rfl,fun _=>rfl,.bool true,zKZ l _,fun _=>⟨List.Pairwise.nil,fun _ hm=>(nomatch hm)⟩⟩,h2,h3,h4⟩
section
variable {prog:Program} {w:World} {A:Around} {E:Value->Shared->Prop} {s:Shared} {K:Frag}
end
end Att
namespace L2
open PySem PySem.Spec PyProof.Rows
theorem zHN:∀ {vs:List Value} {ns:List Int},IntsAre vs ns->Vals (ns.map V.int) vs
 | _,_,.nil=>.nil
 | _,_,.cons n t h=>.cons ⟨t,rfl⟩ (zHN h)
def Only (H:Hp):Prop:=∀ b,H b=none\/∃ o xs,H b=some (.frz o (.lst xs))
theorem law_call {P:Program} {w:World} {K:PySem.W.Frag} {mg mb:Str->Option Value} {CX:CXT} {k:Nat} {fa a:Addr} {fd:FuncData} {x:Str} {sp:Sp} {s₁:Shared} {vs:List Value} {ns:List Int}
  (KX:K.In s₁.heap) (hns:s₁.heap.Ns mainGlobals mg) (hb:s₁.heap.Ns builtinsNs mb) (hbb:∀ x:Str,x≠"__name__"->mb x=bootBuiltins x) (hlim:s₁.heap.NoLimit) (hg:s₁.gens=#[])
  (ha:s₁.heap.get? a=some { cls:=.type "list",data:=.seq vs.toArray }) (hi:IntsAre vs ns) (hl:ns.length<=sizeLine) (hr:Room k callerA)
  (F:∀ base:Heap,K.In base->base.Ns mainGlobals mg->FnOk P w K mg base CX k fa fd [x] sp) (hbind:∀ (s:Shared) (u:Value),BindsTo s fd ⟨[u],[]⟩ [(x,u)])
  (hsp:∀ H:Hp,Only H->SqL K H a (ns.map V.int)->sp [.ref a] H (fun v _=>v=.bl true) fun _ _ _=>False)
  (hCX:∀ H e s',CX [] H s₁ (fun _ _ _=>False) e s'->False) :
  codeAny (model P w) callerA (.call (.ref fa) ⟨[.ref a],[]⟩) (fun r s'=>r=.ok (.ret (.bool true))/\OldK s₁.heap s'.heap/\s'.os=s₁.os/\AllBare s'.gens) s₁:=by
 have rv:=zHN hi
 have lenV:=hi.length
 have core:∀ H:Hp,Only H->SqL K H a (ns.map V.int)->HOk P w H s₁.heap->(∀ b,H b≠none->b=a)->(H a≠none->K.lookup a=none)->
   codeAny (model P w) callerA (.call (.ref fa) ⟨[.ref a],[]⟩) (fun r s'=>r=.ok (.ret (.bool true))/\OldK s₁.heap s'.heap/\s'.os=s₁.os/\AllBare s'.gens) s₁:=by
  intro H hO hS hok hA hK
  have base_of:∀ {b:Addr} {o:Obj},s₁.heap.get? b=some o->H b=none->(hidT s₁.heap H).get? b=some o:=fun e n=>zMI e n
  have noA:∀ {b:Addr} {o:Obj} {es:Array DictEntry} {ep:Nat},s₁.heap.get? b=some o->o.data=.dict es ep->H b=none:=fun {b o es ep} e d=>by
   cases q:H b with
   | none=>rfl
   | some u=>
    have e':b=a:=hA b (by rw [q]; simp)
    subst e'
    rw [ha] at e; cases e
    have d':Data.seq vs.toArray _=Data.dict es ep:=d
    cases d'
  have nsK:∀ {b:Addr} {m:Str->Option Value},s₁.heap.Ns b m->(hidT s₁.heap H).Ns b m:=fun {b m} ⟨o,es,ep,e,d,r⟩=>⟨o,es,ep,base_of e (noA e d),d,r⟩
  have hKb:K.In (hidT s₁.heap H):=fun b o e=>base_of (KX b o e) (by
   cases q:H b with
   | none=>rfl
   | some u=>
    have e':b=a:=hA b (by rw [q]; simp)
    subst e'
    rw [hK (by rw [q]; simp)] at e; cases e)
  have hM:Mod K mg (hidT s₁.heap H):=⟨hKb,nsK hns,⟨mb,nsK hb,hbb⟩,let ⟨mc,h1,h2⟩:=hlim; ⟨mc,nsK h1,h2⟩⟩
  have e0:Env0 P w K mg (hidT s₁.heap H) callerA [] s₁ H:=⟨rfl,hM,fun b o e=>zM8 e,Nat.le_of_eq (zLD _ _),trivial,fun b hb=>absurd (show b∈([]:List Addr) from hb) (by simp),hok,.of_eq hg⟩
  refine codeAny_mono ((F _ hKb (nsK hns)).run callerA [] s₁ H ⟨[.ref a],[]⟩ [.ref a] [.ref a] _ _ hr e0 (hbind s₁ (.ref a)) (.cons rfl .nil) (hsp H hO hS)) fun r s' h=>?_
  cases r with
  | error e=>exact (hCX H e s' h).elim
  | ok fl=>
   cases fl with
   | next=>exact False.elim h
   | brk=>exact False.elim h
   | cont=>exact False.elim h
   | ret u=>
    obtain ⟨v,H',os,bare,un,hok',r',q⟩:=h
    have q':v=.bl true:=q
    subst q'
    obtain rfl:u=Value.bool true:=r'
    refine ⟨rfl,OldK.of_keep fun b o e=>?_,os,bare⟩
    cases q:H b with
    | none=>exact un.keep b o e q (by intro z; exact absurd (show b∈([]:List Addr) from z) (by simp)) (by simp)
    | some u=>
     rcases hO b with z | ⟨ob,xs,z⟩
     ·rw [q] at z; cases z
     ·have z2:=un.frzs b ob _ z
      obtain ⟨e1,_⟩:=hok b _ z
      obtain ⟨e2,_⟩:=hok' b _ z2
      rw [e] at e1; cases e1
      exact e2
 cases hk:K.lookup a with
 | some o=>
  have e:=KX a o hk
  rw [ha] at e
  cases e
  refine core (fun _=>none) (fun _=>.inl rfl) (.inr ⟨_,vs.toArray,_,hk,rfl,rfl,rfl,by rw [List.size_toArray,lenV]; exact hl,by simpa using rv⟩) (fun b u z=>by have z':(none:Option HO)=some u:=z; cases z') (fun b z=>absurd rfl z) fun z=>absurd rfl z
 | none=>
  refine core (fun b=>if b=a then some (.frz { cls:=.type "list",data:=.seq vs.toArray } (.lst (ns.map V.int))) else none) (fun b=>?_) (.inl (.inr ⟨{ cls:=.type "list",data:=.seq vs.toArray },if_pos rfl⟩)) (fun b u z=>?_) (fun b z=>?_) fun _=>hk
  ·by_cases hb:b=a
   ·exact .inr ⟨_,_,if_pos hb⟩
   ·exact .inl (if_neg hb)
  ·by_cases hb:b=a
   ·have z':=(if_pos hb).symm.trans z
    cases z'
    subst hb
    exact ⟨ha,by rw [List.length_map]; exact hl,vs,_,rv,ha⟩
   ·have z':=(if_neg hb).symm.trans z
    cases z'
  ·by_cases hb:b=a
   ·exact hb
   ·exact absurd (if_neg hb) z
end L2
namespace L2
open PySem PySem.Spec PyProof.Rows
theorem zMo {l:PySem.W.OpenLaw} {n k:Nat} {q:Program} {loose:List Str} {XP:(Str->Option Value)->Heap->Prop} {YP:World->Heap->Prop} {d:DefRec} {K:Params->PySem.W.Frag} {CX:World->CXT} {sp:World->Sp} {x:Str}
  (hn:l.most=some n) (hn2:n<=sizeLine) (hdf:d.params.defaults=[]) (hr:Room k callerA)
  (hY:∀ (w:World) (h:Heap),YP w h->(K w.params).In h)
  (F:∀ (w:World) (mg:Str->Option Value) (fa:Addr) (h:Heap),(K w.params).In h->h.Ns mainGlobals mg->mg d.name=some (.ref fa)->
   ∃ fd:FuncData,(∀ (s:Shared) (u:Value),BindsTo s fd ⟨[u],[]⟩ [(x,u)])∧
    ∀ base:Heap,(K w.params).In base->base.Ns mainGlobals mg->FnOk l.prog w (K w.params) mg base (CX w) k fa fd [x] (sp w))
  (hsp:∀ (w:World) (H:Hp) (a:Addr) (ns:List Int),ns.length<=n->Only H->SqL (K w.params) H a (ns.map V.int)->sp w [.ref a] H (fun v _=>v=.bl true) fun _ _ _=>False)
  (hCX:∀ (w:World) (H:Hp) (s:Shared) (e:Value) (s':Shared),CX w [] H s (fun _ _ _=>False) e s'->False) :
  PySem.W.WalkO q loose XP YP l.row.toRowW d [] (fun f vs=>PySem.call f vs):=by
 refine Att.attach_call hn hdf fun w s₀ s₁ mg mb fa o pm cd doc a vs ns G Y ho hd hcd hmg hobj hints hlen hg=>?_
 have KX:=hY w _ Y
 obtain ⟨fd,hb,hF⟩:=F w mg fa _ KX G.T.g hmg
 exact law_call KX G.T.g G.T.b G.T.builtins G.T.nolimit hg hobj hints (Nat.le_trans hlen hn2) hr hF hb (fun H hO hS=>hsp w H a ns hlen hO hS) fun H e s'=>hCX w H s₁ e s'
end L2
namespace L2
open PySem PySem.Spec PyProof.Rows
def zGI (s:Stmt) (j:Nat):Stmt:=match s with
 | .ClassDef _ _ _ body _ _ _ _ _ _ _=>body.getD j (.Pass ⟨0,0,0,0⟩)
 | _=>.Pass ⟨0,0,0,0⟩
def zAN (s:Stmt):Arguments:=match s with
 | .FunctionDef _ a _ _ _ _ _ _ _ _=>a
 | _=>{ posonlyargs:=[],args:=[],vararg:=none,kwonlyargs:=[],kw_defaults:=[],kwarg:=none,defaults:=[] }
def zAL (s:Stmt):List Stmt:=match s with
 | .FunctionDef _ _ b _ _ _ _ _ _ _=>b
 | _=>[]
def zAC (s:Stmt):Scope:=match s with
 | .FunctionDef _ _ _ _ _ _ sc _ _ _=>sc
 | _=>{ kind:=.function,names:=[],isGenerator:=false,isCoroutine:=false }
abbrev CX0:CXT:=fun _ _ _ _ _ _=>False
abbrev E0:XK:=fun _ _ _=>False
theorem zL2 {X:Cx}:zGS CX0 X E0:=fun _ _ _ _ _ _ _ h=>h.elim
structure Fun (K:PySem.W.Frag) (x qual:Str) (st:Stmt) (f:Addr) (fd:FuncData):Prop where
 ex:∃ (oc:Value) (od:Option Addr) (kV doc pm:Value) (an:Option Addr) (cdv ct:Value) (osl:Array (Option Value)),
  fd=PySem.W.fnOf x qual (zAN st) (zAL st) (zAC st) .none kV doc pm an cdv ct/\K.lookup f=some ⟨oc,od,.func fd,osl⟩/\PySem.W.codeIn K cdv qual=true
 kp:PySem.W.keepIn K (.ref f)=true
section
variable {P:Program} {w:World} {K:PySem.W.Frag} {mg:Str->Option Value} {base:Heap}
theorem Fun.ok {x qual:Str} {st:Stmt} {f:Addr} {fd:FuncData} {N ps:List Str} {k:Nat} {sp:Sp} (F:Fun K x qual st f fd) (S:zAP N ps (zAC st)) (len:∀ vs H Q E,sp vs H Q E->vs.length=ps.length)
  (hbody:∀ (cdv:Value) (A:Around) (outer:List Env) (s:Shared) (H:Hp) (vs:List V) (Q:VK) (E:XK),Room k (A.deeper (envOfC qual (zAC st) s.heap.objs.size f cdv))->sp vs H Q E->
   ∃ t,PSs (cxOf CX0 P w K mg base N qual (zAC st) f cdv A outer s H E).nox (zAL st) t/\t { nx:=fun _ H'=>Q .non H',rt:=Q } (zGV N vs) H):FnOk P w K mg base CX0 (k + 1) f fd ps sp:=by
 obtain ⟨oc,od,kV,doc,pm,an,cdv,ct,osl,rfl,lk,hcd⟩:=F.ex
 refine zNN lk hcd S len fun A outer s H vs Q E hr hsp=>?_
 obtain ⟨t,h,q⟩:=hbody cdv A outer s H vs Q E hr hsp
 exact ⟨t,h.nox,q⟩
theorem Fun.binds {x qual:Str} {st:Stmt} {f:Addr} {fd:FuncData} {ps:List Str} (F:Fun K x qual st f fd)
  (h:∀ (kV doc pm:Value) (an:Option Addr) (cdv ct:Value) (us:List Value),us.length=ps.length->bindArgs (PySem.W.fnOf x qual (zAN st) (zAL st) (zAC st) .none kV doc pm an cdv ct) ⟨us,[]⟩=pure (ps.zip us)):zEH K fd ps []:=by
 obtain ⟨oc,od,kV,doc,pm,an,cdv,ct,osl,rfl,lk,hcd⟩:=F.ex
 exact .all (h kV doc pm an cdv ct)
theorem zAg {x qual:Str} {st:Stmt} {f:Addr} {oc:Value} {od an:Option Addr} {osl:Array (Option Value)} {kV doc pm cdv ct:Value} (l:K.lookup f=some ⟨oc,od,.func (PySem.W.fnOf x qual (zAN st) (zAL st) (zAC st) .none kV doc pm an cdv ct),osl⟩)
  (c:PySem.W.codeIn K cdv qual=true) (k:PySem.W.keepIn K (.ref f)=true):Fun K x qual st f (PySem.W.fnOf x qual (zAN st) (zAL st) (zAC st) .none kV doc pm an cdv ct):=⟨⟨oc,od,kV,doc,pm,an,cdv,ct,osl,rfl,l,c⟩,k⟩
end
theorem zNG {A:Around} {k:Nat} (hr:Room k A):A.units + 1 < cLine:=Nat.lt_of_le_of_lt (Nat.add_le_add_left (by decide:1<=64) _) hr.units
theorem zAp {n:Nat} (h:n<=1000):n < sizeLine:=Nat.lt_of_le_of_lt h (by decide)
section
variable {X:Cx}
end
theorem iteF {A B:Prop} (h:B):if false=true then A else B:=by
 rw [if_neg Bool.false_ne_true]
 exact h
theorem iteT {A B:Prop} (h:A):if true=true then A else B:=by
 rw [if_pos rfl]
 exact h
theorem ite2 {c A B:Prop} [Decidable c] (h1:c->A) (h2:¬ c->B):if c then A else B:=by
 by_cases h:c
 ·rw [if_pos h]
  exact h1 h
 ·rw [if_neg h]
  exact h2 h
theorem zNF {c A B:Prop} [Decidable c] (hc:c) (h:B):if (!decide c)=true then A else B:=by
 rw [decide_eq_true hc]
 exact iteF h
def Same (H H':Hp):Prop:=∀ b o,H b=some o->H' b=some o
theorem Same.refl (H:Hp):Same H H:=fun _ _ h=>h
theorem Same.trans {H H1 H2:Hp} (a:Same H H1) (b:Same H1 H2):Same H H2:=fun c o h=>b c o (a c o h)
theorem Same.free {H H':Hp} (e:Same H H') {l:Addr} (h:H' l=Option.none):H l=Option.none:=by
 cases q:H l with
 | none=>rfl
 | some o=>
  rw [e l o q] at h
  cases h
theorem Same.seq {K:PySem.W.Frag} {H H':Hp} {a:Addr} {xs:List V} (e:Same H H') (h:SqL K H a xs):SqL K H' a xs:=by
 rcases h with (h | ⟨o,h⟩) | h
 ·exact .inl (.inl (e _ _ h))
 ·exact .inl (.inr ⟨o,e _ _ h⟩)
 ·exact .inr h
end L2
set_option maxHeartbeats 4000000
namespace Sh
def zAM (ns:List Int):Int:=ns.foldl (fun c n=>(Int.gcd c n:Int)) 0
theorem zJz (a b:Int):zAM [a,b]=(Int.gcd a b:Int):=by
 show ((Int.gcd (Int.gcd 0 a:Int) b:Nat):Int)=_
 congr 1
 rw [Int.gcd_zero_left,Int.gcd_eq_natAbs_gcd_natAbs,Int.gcd_eq_natAbs_gcd_natAbs,Int.natAbs_natCast]
theorem zDn (ns:List Int) (n:Int):zAM (ns++[n])=(Int.gcd (zAM ns) n:Int):=by
 unfold zAM
 rw [List.foldl_append]
 rfl
theorem zEt (ns:List Int):0<=zAM ns:=by
 rcases List.eq_nil_or_concat ns with rfl | ⟨l,a,rfl⟩
 ·exact Int.le_refl 0
 ·rw [List.concat_eq_append,zDn]
  exact Int.natCast_nonneg _
theorem zI6 (c r:Int):Int.gcd r (c.fmod r)=Int.gcd c r:=by
 rw [Int.fmod_def,Int.gcd_sub_mul_left_right,Int.gcd_comm]
theorem zLJ {c r:Int} (h:r≠0):(c.fmod r).natAbs < r.natAbs:=by
 rcases Int.lt_or_gt_of_ne h with hr | hr
 ·have e:c.fmod r = -((-c).fmod (-r)):=by rw [Int.neg_fmod_neg,Int.neg_neg]
  have h1:=Int.fmod_nonneg_of_pos (-c) (b:=-r) (by omega)
  have h2:=Int.fmod_lt_of_pos (-c) (b:=-r) (by omega)
  omega
 ·have h1:=Int.fmod_nonneg_of_pos c hr
  have h2:=Int.fmod_lt_of_pos c hr
  omega
theorem zOX (i:Int):(if i < 0 then -i else i)=(i.natAbs:Int):=by
 split <;> omega
theorem zNL (c i:Int):Int.gcd c (if i < 0 then -i else i)=Int.gcd c i:=by
 split
 ·rw [Int.gcd_neg]
 ·rfl
def cm (t b:Int):Int:=if b < 0 then -(Int.gcd t b:Int) else (Int.gcd t b:Int)
def lowT (t b:Int):Int:=t.fdiv (cm t b)
def lowB (t b:Int):Int:=b.fdiv (cm t b)
theorem zIT {t b:Int} (h:b≠0):0 < (Int.gcd t b:Int):=by
 have:0 < Int.gcd t b:=Int.gcd_pos_of_ne_zero_right _ h
 omega
theorem zNS {t b:Int} (h:b≠0):cm t b≠0:=by
 have:=zIT (t:=t) h
 unfold cm
 split <;> omega
theorem zJC (t b:Int):cm t b ∣ t:=by
 unfold cm
 split
 ·exact Int.neg_dvd.mpr (Int.gcd_dvd_left t b)
 ·exact Int.gcd_dvd_left t b
theorem zJD (t b:Int):cm t b ∣ b:=by
 unfold cm
 split
 ·exact Int.neg_dvd.mpr (Int.gcd_dvd_right t b)
 ·exact Int.gcd_dvd_right t b
theorem zHE (t b:Int):lowT t b * cm t b=t:=Int.fdiv_mul_cancel (zJC t b)
theorem zEq (t b:Int):lowB t b * cm t b=b:=Int.fdiv_mul_cancel (zJD t b)
theorem zFt {t b:Int} (h:b≠0):0 < lowB t b:=by
 have e:=zEq t b
 have g:=zIT (t:=t) h
 rcases Int.lt_trichotomy (lowB t b) 0 with hl | hl | hl
 ·exfalso
  unfold cm at e
  split at e
  ·rename_i hb
   have:=Int.mul_pos_of_neg_of_neg hl (show -(Int.gcd t b:Int) < 0 by omega)
   omega
  ·have:=Int.mul_neg_of_neg_of_pos hl g
   omega
 ·exfalso
  rw [hl,Int.zero_mul] at e
  omega
 ·exact hl
theorem zHf {t b:Int} (h:b≠0):lowT t b * b=t * lowB t b:=by
 have e1:=zHE t b
 have e2:=zEq t b
 calc lowT t b * b=lowT t b * (lowB t b * cm t b):=by rw [e2]
  _=(lowT t b * cm t b) * lowB t b:=by rw [Int.mul_assoc,Int.mul_comm (lowB t b)]
  _=t * lowB t b:=by rw [e1]
theorem zEz {t b:Int} (h:0 < b):cm t b=(Int.gcd t b:Int):=by
 unfold cm
 rw [if_neg (by omega)]
end Sh
namespace Sh
def zCt (st:Int × Int) (p:Int × Int × Int):Int × Int:=(st.1 * p.2.2 + p.1 * p.2.1 * st.2,st.2 * p.2.2)
def zDd (ws:List Int) (pts:List (Int × Int)):Int × Int:=(ws.zip pts).foldl zCt (0,1)
end Sh
namespace Sh
theorem zI8:∀ (ns:List Int) (c:Int),ns.foldl (fun c n=>(Int.gcd c n:Int)) c ∣ c/\∀ x∈ns,ns.foldl (fun c n=>(Int.gcd c n:Int)) c ∣ x
 | [],c=>⟨Int.dvd_refl c,fun x hx=>by cases hx⟩
 | a :: r,c=>by
  obtain ⟨h1,h2⟩:=zI8 r (Int.gcd c a:Int)
  rw [List.foldl_cons]
  refine ⟨Int.dvd_trans h1 (Int.gcd_dvd_left c a),fun x hx=>?_⟩
  rcases List.mem_cons.mp hx with rfl | hx
  ·exact Int.dvd_trans h1 (Int.gcd_dvd_right c x)
  ·exact h2 x hx
theorem zDb {ns:List Int} {x:Int} (h:x∈ns):zAM ns ∣ x:=(zI8 ns 0).2 x h
theorem zI7 {k:Int} (hk:0<=k):∀ (ns:List Int) (c:Int),(ns.map (· * k)).foldl (fun c n=>(Int.gcd c n:Int)) (c * k)=ns.foldl (fun c n=>(Int.gcd c n:Int)) c * k
 | [],c=>rfl
 | a :: r,c=>by
  rw [List.map_cons,List.foldl_cons,List.foldl_cons,<- zI7 hk r]
  congr 1
  rw [Int.gcd_mul_right]
  show ((Int.gcd c a * k.natAbs:Nat):Int)=_
  rw [Int.natCast_mul]
  congr 1
  omega
theorem zJ0 {k:Int} (hk:0<=k) (ns:List Int):zAM (ns.map (· * k))=zAM ns * k:=by
 have h:=zI7 hk ns 0
 rw [Int.zero_mul] at h
 exact h
def zBJ (ws:List Int):List Int:=ws.map (·.fdiv (zAM ws))
theorem zGA {ws:List Int} {g:Int} (h:∀ x∈ws,g ∣ x):(ws.map (·.fdiv g)).map (· * g)=ws:=by
 rw [List.map_map]
 refine (List.map_congr_left fun x hx=>?_).trans (List.map_id ws)
 exact Int.fdiv_mul_cancel (h x hx)
theorem zMm (ws:List Int):(zBJ ws).map (· * zAM ws)=ws:=zGA fun _ hx=>zDb hx
theorem zMn (ws:List Int):(zBJ ws).length=ws.length:=List.length_map _
theorem zMl {ws:List Int} (h:zAM ws=0):ws.map (· * 0)=ws:=by
 refine (List.map_congr_left fun x hx=>?_).trans (List.map_id ws)
 have d:=zDb hx
 rw [h] at d
 rw [Int.mul_zero]
 exact (Int.zero_dvd.mp d).symm
section
variable {β γ:Type}
def look (m:List (List Int × β)) (k:List Int):Option β:=(m.find? fun kv=>decide (kv.1=k)).map (·.2)
def put (m:List (List Int × β)) (k:List Int) (v:β):List (List Int × β):=
 if (m.any fun kv=>decide (kv.1=k))=true then m.map (fun kv=>if kv.1=k then (kv.1,v) else kv) else m++[(k,v)]
theorem zEC (m:List (List Int × β)) (k:List Int):(m.any fun kv=>decide (kv.1=k))=(look m k).isSome:=by
 induction m with
 | nil=>rfl
 | cons p r ih=>
  unfold look at ih |-
  rw [List.any_cons,List.find?_cons,ih]
  by_cases e:p.1=k
  ·rw [decide_eq_true e]; rfl
  ·rw [decide_eq_false e]; rfl
theorem zFu {m:List (List Int × β)} {k:List Int} {v:β} (h:look m k=some v):(k,v)∈m:=by
 unfold look at h
 obtain ⟨p,hp,e⟩:=Option.map_eq_some_iff.mp h
 have:=List.find?_some hp
 have e1:p.1=k:=of_decide_eq_true this
 have e2:=List.mem_of_find?_eq_some hp
 rw [<- e1,<- e]
 exact e2
theorem zK0 {m:List (List Int × β)} {k:List Int} (h:look m k=none):∀ p∈m,p.1≠k:=by
 intro p hp e
 have a:(m.any fun kv=>decide (kv.1=k))=true:=List.any_eq_true.mpr ⟨p,hp,decide_eq_true e⟩
 rw [zEC,h] at a
 cases a
theorem zG9 {m:List (List Int × β)} {k:List Int} (v:β) (h:look m k=none):put m k v=m++[(k,v)]:=by
 unfold put
 rw [zEC,h]
 exact if_neg Bool.false_ne_true
theorem zIu {m:List (List Int × β)} {k:List Int} {u:β} (v:β) (h:look m k=some u):put m k v=m.map (fun kv=>if kv.1=k then (kv.1,v) else kv):=by
 unfold put
 rw [zEC,h]
 exact if_pos rfl
theorem zF9 {m:List (List Int × β)} {k:List Int} {v:β} {p:List Int × β} (h:p∈put m k v):p=(k,v)\/p∈m:=by
 unfold put at h
 split at h
 ·obtain ⟨q,hq,e⟩:=List.mem_map.mp h
  by_cases c:q.1=k
  ·rw [if_pos c] at e
   exact .inl (by rw [<- e,c])
  ·rw [if_neg c] at e
   exact .inr (e ▸ hq)
 ·rcases List.mem_append.mp h with h | h
  ·exact .inr h
  ·exact .inl (List.mem_singleton.mp h)
theorem zOM (m:List (List Int × β)) (k:List Int) (v:β):(k,v)∈put m k v:=by
 cases h:look m k with
 | none=>
  rw [zG9 v h]
  exact List.mem_append_right _ List.mem_cons_self
 | some u=>
  rw [zIu v h]
  exact List.mem_map.mpr ⟨(k,u),zFu h,by rw [if_pos rfl]⟩
theorem zK9 {m:List (List Int × β)} {k:List Int} {v:β} {p:List Int × β} (h:p∈m) (n:p.1≠k):p∈put m k v:=by
 unfold put
 split
 ·exact List.mem_map.mpr ⟨p,h,by rw [if_neg n]⟩
 ·exact List.mem_append_left _ h
theorem zMF (m:List (List Int × β)) (k:List Int) (v:β):(put m k v).map (·.1)=if (look m k).isSome=true then m.map (·.1) else m.map (·.1)++[k]:=by
 unfold put
 rw [zEC]
 split
 ·rw [List.map_map]
  refine List.map_congr_left fun p _=>?_
  show (if p.1=k then (p.1,v) else p).1=p.1
  split <;> rfl
 ·rw [List.map_append]
  rfl
theorem zKv {m:List (List Int × β)} (k:List Int) (v:β) (h:(m.map (·.1)).Nodup):((put m k v).map (·.1)).Nodup:=by
 rw [zMF]
 split
 ·exact h
 ·rename_i c
  have n:look m k=none:=by
   cases e:look m k with
   | none=>rfl
   | some u=>rw [e] at c; exact absurd rfl c
  refine List.nodup_append.mpr ⟨h,by simp,fun a ha b hb e=>?_⟩
  obtain ⟨p,hp,e1⟩:=List.mem_map.mp ha
  rw [List.mem_singleton.mp hb] at e
  exact zK0 n p hp (e1.trans e)
theorem zI1 (f:β->γ) (m:List (List Int × β)) (k:List Int):look (m.map fun p=>(p.1,f p.2)) k=(look m k).map f:=by
 unfold look
 rw [List.find?_map]
 show Option.map _ (Option.map _ (m.find? fun kv=>decide (kv.1=k)))=_
 cases m.find? fun kv=>decide (kv.1=k) with
 | none=>rfl
 | some p=>rfl
theorem zKV (f:β->γ) (m:List (List Int × β)) (k:List Int) (v:β):put (m.map fun p=>(p.1,f p.2)) k (f v)=(put m k v).map fun p=>(p.1,f p.2):=by
 unfold put
 rw [zEC,zEC,zI1,Option.isSome_map]
 split
 ·rw [List.map_map,List.map_map]
  refine List.map_congr_left fun p _=>?_
  show (if p.1=k then (p.1,f v) else (p.1,f p.2))=_
  by_cases c:p.1=k
  ·rw [if_pos c]
   show _=(((if p.1=k then (p.1,v) else p).1),f (if p.1=k then (p.1,v) else p).2)
   rw [if_pos c]
  ·rw [if_neg c]
   show _=(((if p.1=k then (p.1,v) else p).1),f (if p.1=k then (p.1,v) else p).2)
   rw [if_neg c]
 ·rw [List.map_append]
  rfl
end
abbrev TS4:=List (List Int × (Int × Int)) × Option (List Int)
abbrev DS4:=List (List Int × (List Int × Int)) × Option (List Int)
def zBv (r:List Int × Int):Int × Int:=(lowT r.2 (zAM r.1),lowB r.2 (zAM r.1))
def zCX (st:TS4) (r:List Int × Int):TS4:=
 if zAM r.1≠0 then
  match look st.1 (zBJ r.1) with
  | none=>(put st.1 (zBJ r.1) (zBv r),st.2)
  | some o=>if (zBv r).1 * o.2 < o.1 * (zBv r).2 then (put st.1 (zBJ r.1) (zBv r),st.2) else st
 else if r.2 < 0 then (st.1,some r.1) else st
def zCv (st:DS4) (r:List Int × Int):DS4:=
 if zAM r.1≠0 then
  match look st.1 (zBJ r.1) with
  | none=>(put st.1 (zBJ r.1) r,st.2)
  | some o=>if r.2 * zAM o.1 < o.2 * zAM r.1 then (put st.1 (zBJ r.1) r,st.2) else st
 else if r.2 < 0 then (st.1,some r.1) else st
def zF0 (o:Option (List Int)):List (List Int × Int):=match o with
 | none=>[]
 | some ws=>[(ws,-1)]
def tidM (rows:List (List Int × Int)):List (List Int × Int):=(rows.foldl zCX ([],none)).1.map (fun p=>(p.1.map (· * p.2.2),p.2.1))++zF0 (rows.foldl zCX ([],none)).2
def zEJ (r:List Int × Int):List Int × Int:=(r.1.map (·.fdiv (max 1 (zAM (r.1++[r.2])))),r.2.fdiv (max 1 (zAM (r.1++[r.2]))))
def dueM (rows:List (List Int × Int)):List (List Int × Int):=(rows.foldl zCv ([],none)).1.map (fun p=>zEJ p.2)++zF0 (rows.foldl zCv ([],none)).2
structure DOk (st:DS4):Prop where
 g0:∀ p∈st.1,0 < zAM p.2.1
 way:∀ p∈st.1,p.1=zBJ p.2.1
 nd:(st.1.map (·.1)).Nodup
 z:∀ ws,st.2=some ws->zAM ws=0
theorem gpos {ws:List Int} (h:zAM ws≠0):0 < zAM ws:=by
 have:=zEt ws
 omega
theorem zIW:DOk ([],none):=⟨fun p hp=>(by cases hp),fun p hp=>(by cases hp),List.nodup_nil,fun ws h=>(by cases h)⟩
theorem DOk.put {st:DS4} (h:DOk st) {r:List Int × Int} (g:zAM r.1≠0):DOk (Sh.put st.1 (zBJ r.1) r,st.2):=by
 refine ⟨fun p hp=>?_,fun p hp=>?_,zKv _ _ h.nd,h.z⟩
 ·rcases zF9 hp with e | hp
  ·rw [e]; exact gpos g
  ·exact h.g0 p hp
 ·rcases zF9 hp with e | hp
  ·rw [e]
  ·exact h.way p hp
theorem DOk.step {st:DS4} (h:DOk st) (r:List Int × Int):DOk (zCv st r):=by
 unfold zCv
 split
 ·rename_i g
  split
  ·exact h.put g
  ·split
   ·exact h.put g
   ·exact h
 ·rename_i g
  have g0:zAM r.1=0:=Decidable.of_not_not g
  split
  ·refine ⟨h.g0,h.way,h.nd,fun ws e=>?_⟩
   cases e
   exact g0
  ·exact h
theorem DOk.fold {st:DS4} (h:DOk st):∀ rows:List (List Int × Int),DOk (rows.foldl zCv st)
 | []=>h
 | r :: rs=>by
  rw [List.foldl_cons]
  exact DOk.fold (h.step r) rs
theorem dok (rows:List (List Int × Int)):DOk (rows.foldl zCv ([],none)):=zIW.fold rows
theorem zJB {t b:Int} (h:0 < b):0 < cm t b:=by
 rw [zEz h]
 exact zIT (Int.ne_of_gt h)
theorem zMD {b g b' g':Int} (h:0 < g) (h':0 < g'):lowT b g * lowB b' g' < lowT b' g' * lowB b g ↔ b * g' < b' * g:=by
 have c:=zJB (t:=b) h
 have c':=zJB (t:=b') h'
 have e1:b * g'=lowT b g * lowB b' g' * (cm b g * cm b' g'):=by
  calc b * g'=(lowT b g * cm b g) * (lowB b' g' * cm b' g'):=by rw [zHE,zEq]
   _=_:=by rw [Int.mul_assoc,Int.mul_assoc,<- Int.mul_assoc (cm b g),Int.mul_comm (cm b g),Int.mul_assoc]
 have e2:b' * g=lowT b' g' * lowB b g * (cm b g * cm b' g'):=by
  calc b' * g=(lowT b' g' * cm b' g') * (lowB b g * cm b g):=by rw [zHE,zEq]
   _=_:=by rw [Int.mul_assoc,Int.mul_assoc,<- Int.mul_assoc (cm b' g'),Int.mul_comm (cm b' g'),Int.mul_assoc,Int.mul_comm (cm b' g')]
 rw [e1,e2]
 have p:=Int.mul_pos c c'
 exact ⟨fun z=>Int.mul_lt_mul_of_pos_right z p,fun z=>Int.lt_of_mul_lt_mul_right z (Int.le_of_lt p)⟩
theorem zKK {st:DS4} (h:DOk st) (r:List Int × Int):zCX (st.1.map (fun p=>(p.1,zBv p.2)),st.2) r=((zCv st r).1.map (fun p=>(p.1,zBv p.2)),(zCv st r).2):=by
 unfold zCX zCv
 split
 ·rename_i g
  rw [zI1]
  cases e:look st.1 (zBJ r.1) with
  | none=>
   show (put _ _ _,st.2)=_
   rw [zKV]
  | some o=>
   have go:0 < zAM o.1:=h.g0 _ (zFu e)
   have li:(zBv r).1 * (zBv o).2 < (zBv o).1 * (zBv r).2 ↔ r.2 * zAM o.1 < o.2 * zAM r.1:=zMD (gpos g) go
   show (if (zBv r).1 * (zBv o).2 < (zBv o).1 * (zBv r).2 then (put (st.1.map fun p=>(p.1,zBv p.2)) (zBJ r.1) (zBv r),st.2) else (st.1.map (fun p=>(p.1,zBv p.2)),st.2)) =
    ((if r.2 * zAM o.1 < o.2 * zAM r.1 then (put st.1 (zBJ r.1) r,st.2) else st).1.map (fun p=>(p.1,zBv p.2)),(if r.2 * zAM o.1 < o.2 * zAM r.1 then (put st.1 (zBJ r.1) r,st.2) else st).2)
   by_cases c:r.2 * zAM o.1 < o.2 * zAM r.1
   ·rw [if_pos (li.mpr c),if_pos c,zKV]
   ·rw [if_neg fun z=>c (li.mp z),if_neg c]
 ·split <;> rfl
theorem zHn {st:DS4} (h:DOk st):∀ rows:List (List Int × Int),rows.foldl zCX (st.1.map (fun p=>(p.1,zBv p.2)),st.2)=((rows.foldl zCv st).1.map (fun p=>(p.1,zBv p.2)),(rows.foldl zCv st).2)
 | []=>rfl
 | r :: rs=>by
  rw [List.foldl_cons,List.foldl_cons,zKK h r]
  exact zHn (h.step r) rs
theorem zLI (rows:List (List Int × Int)):rows.foldl zCX ([],none)=((rows.foldl zCv ([],none)).1.map (fun p=>(p.1,zBv p.2)),(rows.foldl zCv ([],none)).2):=zHn zIW rows
theorem zNB {r:List Int × Int} (h:0 < zAM r.1):((zBJ r.1).map (· * (zBv r).2),(zBv r).1)=zEJ r:=by
 have c:=zJB (t:=r.2) h
 have e:max 1 (zAM (r.1++[r.2]))=cm r.2 (zAM r.1):=by
  rw [zDn,Int.gcd_comm,<- zEz h]
  omega
 unfold zEJ
 rw [e]
 refine Prod.ext ?_ rfl
 show (r.1.map (·.fdiv (zAM r.1))).map (· * lowB r.2 (zAM r.1))=r.1.map (·.fdiv (cm r.2 (zAM r.1)))
 rw [List.map_map]
 refine List.map_congr_left fun x hx=>?_
 show x.fdiv (zAM r.1) * lowB r.2 (zAM r.1)=x.fdiv (cm r.2 (zAM r.1))
 have e1:=zEq r.2 (zAM r.1)
 have e2:x.fdiv (zAM r.1) * zAM r.1=x:=Int.fdiv_mul_cancel (zDb hx)
 have e3:x=(x.fdiv (zAM r.1) * lowB r.2 (zAM r.1)) * cm r.2 (zAM r.1):=by rw [Int.mul_assoc,e1,e2]
 have e4:=Int.mul_fdiv_cancel (x.fdiv (zAM r.1) * lowB r.2 (zAM r.1)) (Int.ne_of_gt c)
 rw [<- e3] at e4
 exact e4.symm
theorem zKF (rows:List (List Int × Int)):tidM rows=dueM rows:=by
 have h:=dok rows
 unfold tidM dueM
 rw [zLI]
 congr 1
 show ((rows.foldl zCv ([],none)).1.map fun p=>(p.1,zBv p.2)).map (fun p=>(p.1.map (· * p.2.2),p.2.1))=_
 rw [List.map_map]
 refine List.map_congr_left fun p hp=>?_
 show (p.1.map (· * (zBv p.2).2),(zBv p.2).1)=zEJ p.2
 rw [h.way p hp]
 exact zNB (h.g0 p hp)
section
variable (num:List Int->Int) (den:Int)
def hl (r:List Int × Int):Bool:=decide (num r.1<=r.2 * den)
variable (hden:0 < den) (lin:∀ (ws:List Int) (c:Int),num (ws.map (· * c))=num ws * c)
include hden lin
theorem zLC {ws:List Int} {b g:Int}:hl num den (ws.map (· * g),b)=true ↔ num ws * g<=b * den:=by
 unfold hl
 rw [decide_eq_true_iff,lin]
theorem zLB {ws:List Int} {b:Int} (h:zAM ws=0):hl num den (ws,b)=true ↔ 0<=b:=by
 have e:=zLC num den hden lin (ws:=ws) (b:=b) (g:=0)
 rw [zMl h,Int.mul_zero] at e
 rw [e]
 constructor
 ·intro z
  by_cases c:0<=b
  ·exact c
  ·have:=Int.mul_neg_of_neg_of_pos (show b < 0 by omega) hden
   omega
 ·intro z
  exact Int.mul_nonneg z (Int.le_of_lt hden)
theorem zOP {r:List Int × Int}:hl num den r=true ↔ num (zBJ r.1) * zAM r.1<=r.2 * den:=by
 have e:=zLC num den hden lin (ws:=zBJ r.1) (b:=r.2) (g:=zAM r.1)
 rw [zMm] at e
 exact e
theorem zI4 {r o:List Int × Int} (g:0 < zAM r.1) (g':0 < zAM o.1) (w:zBJ o.1=zBJ r.1) (c:r.2 * zAM o.1<=o.2 * zAM r.1) (h:hl num den r=true):hl num den o=true:=by
 rw [zOP num den hden lin] at h |-
 rw [w]
 have h1:=Int.mul_le_mul_of_nonneg_right h (Int.le_of_lt g')
 have h2:=Int.mul_le_mul_of_nonneg_right c (Int.le_of_lt hden)
 have e1:r.2 * den * zAM o.1=r.2 * zAM o.1 * den:=by rw [Int.mul_assoc,Int.mul_comm den,Int.mul_assoc]
 have e2:o.2 * zAM r.1 * den=o.2 * den * zAM r.1:=by rw [Int.mul_assoc,Int.mul_comm _ den,Int.mul_assoc]
 have e3:num (zBJ r.1) * zAM r.1 * zAM o.1=num (zBJ r.1) * zAM o.1 * zAM r.1:=by rw [Int.mul_assoc,Int.mul_comm (zAM r.1),Int.mul_assoc]
 have h3:num (zBJ r.1) * zAM o.1 * zAM r.1<=o.2 * den * zAM r.1:=by omega
 exact Int.le_of_mul_le_mul_right h3 g
theorem zMi {r:List Int × Int} (g:0 < zAM r.1):hl num den (zEJ r)=hl num den r:=by
 have c:=zJB (t:=r.2) g
 have e:max 1 (zAM (r.1++[r.2]))=cm r.2 (zAM r.1):=by
  rw [zDn,Int.gcd_comm,<- zEz g]
  omega
 have dv:∀ x∈r.1,cm r.2 (zAM r.1) ∣ x:=fun x hx=>Int.dvd_trans (zJD _ _) (zDb hx)
 have k1:hl num den (zEJ r)=true ↔ num (r.1.map (·.fdiv (cm r.2 (zAM r.1))))<=r.2.fdiv (cm r.2 (zAM r.1)) * den:=by
  unfold hl zEJ
  rw [e,decide_eq_true_iff]
 have k2:hl num den r=true ↔ num (r.1.map (·.fdiv (cm r.2 (zAM r.1)))) * cm r.2 (zAM r.1)<=r.2.fdiv (cm r.2 (zAM r.1)) * den * cm r.2 (zAM r.1):=by
  have z:=zLC num den hden lin (ws:=r.1.map (·.fdiv (cm r.2 (zAM r.1)))) (b:=r.2) (g:=cm r.2 (zAM r.1))
  rw [zGA dv] at z
  have y:r.2.fdiv (cm r.2 (zAM r.1)) * den * cm r.2 (zAM r.1)=r.2 * den:=by
   rw [Int.mul_assoc,Int.mul_comm den,<- Int.mul_assoc,Int.fdiv_mul_cancel (zJC _ _)]
  rw [y]
  exact z
 have k3:hl num den (zEJ r)=true ↔ hl num den r=true:=by
  rw [k1,k2]
  exact ⟨fun z=>Int.mul_le_mul_of_nonneg_right z (Int.le_of_lt c),fun z=>Int.le_of_mul_le_mul_right z c⟩
 cases a:hl num den (zEJ r) <;> cases b:hl num den r <;> simp_all
def HS (st:DS4):Prop:=(∀ p∈st.1,hl num den p.2=true)/\st.2=none
theorem zNH {st:DS4} (h:DOk st) (r:List Int × Int):HS num den (zCv st r) ↔ HS num den st/\hl num den r=true:=by
 unfold zCv
 by_cases g:zAM r.1≠0
 ·rw [if_pos g]
  have pg:=gpos g
  cases e:look st.1 (zBJ r.1) with
  | none=>
   show HS num den (put _ _ _,st.2) ↔ _
   rw [zG9 _ e]
   constructor
   ·rintro ⟨h1,h2⟩
    exact ⟨⟨fun p hp=>h1 p (List.mem_append_left _ hp),h2⟩,h1 _ (List.mem_append_right _ List.mem_cons_self)⟩
   ·rintro ⟨⟨h1,h2⟩,h3⟩
    refine ⟨fun p hp=>?_,h2⟩
    rcases List.mem_append.mp hp with hp | hp
    ·exact h1 p hp
    ·rw [List.mem_singleton.mp hp]; exact h3
  | some o=>
   have hm:=zFu e
   have go:0 < zAM o.1:=h.g0 _ hm
   have wo:zBJ o.1=zBJ r.1:=(h.way _ hm).symm
   show HS num den (if r.2 * zAM o.1 < o.2 * zAM r.1 then (put st.1 (zBJ r.1) r,st.2) else st) ↔ _
   by_cases c:r.2 * zAM o.1 < o.2 * zAM r.1
   ·rw [if_pos c]
    constructor
    ·rintro ⟨h1,h2⟩
     have h3:=h1 _ (zOM st.1 (zBJ r.1) r)
     refine ⟨⟨fun p hp=>?_,h2⟩,h3⟩
     by_cases q:p.1=zBJ r.1
     ·have wp:zBJ p.2.1=zBJ r.1:=(h.way p hp).symm.trans q
      have same:p=(zBJ r.1,o):=by
       have nd:=h.nd
       obtain ⟨i,hi,ei⟩:=List.getElem_of_mem hp
       obtain ⟨j,hj,ej⟩:=List.getElem_of_mem hm
       have k1:(st.1.map (·.1))[i]'(by simpa using hi)=(st.1.map (·.1))[j]'(by simpa using hj):=by
        rw [List.getElem_map,List.getElem_map,ei,ej,q]
       have k2:=(List.getElem_inj nd).mp k1
       subst k2
       rw [<- ei,<- ej]
      rw [same]
      exact zI4 num den hden lin pg go wo (Int.le_of_lt c) h3
     ·exact h1 p (zK9 hp q)
    ·rintro ⟨⟨h1,h2⟩,h3⟩
     refine ⟨fun p hp=>?_,h2⟩
     rcases zF9 hp with q | hp
     ·rw [q]; exact h3
     ·exact h1 p hp
   ·rw [if_neg c]
    constructor
    ·rintro ⟨h1,h2⟩
     exact ⟨⟨h1,h2⟩,zI4 num den hden lin (r:=o) (o:=r) go pg wo.symm (by omega) (h1 _ hm)⟩
    ·rintro ⟨h1,_⟩
     exact h1
 ·rw [if_neg g]
  have g0:zAM r.1=0:=Decidable.of_not_not g
  have hz:=zLB num den hden lin (b:=r.2) g0
  by_cases c:r.2 < 0
  ·rw [if_pos c]
   constructor
   ·rintro ⟨_,h2⟩
    cases h2
   ·rintro ⟨_,h3⟩
    have:=hz.mp h3
    omega
  ·rw [if_neg c]
   constructor
   ·intro h1
    exact ⟨h1,hz.mpr (by omega)⟩
   ·rintro ⟨h1,_⟩
    exact h1
theorem zLA {st:DS4} (h:DOk st):∀ rows:List (List Int × Int),HS num den (rows.foldl zCv st) ↔ HS num den st/\∀ r∈rows,hl num den r=true
 | []=>⟨fun z=>⟨z,fun r hr=>by cases hr⟩,fun z=>z.1⟩
 | r :: rs=>by
  rw [List.foldl_cons,zLA (h.step r) rs,zNH num den hden lin h r]
  constructor
  ·rintro ⟨⟨h1,h2⟩,h3⟩
   refine ⟨h1,fun q hq=>?_⟩
   rcases List.mem_cons.mp hq with rfl | hq
   ·exact h2
   ·exact h3 q hq
  ·rintro ⟨h1,h2⟩
   exact ⟨⟨h1,h2 r List.mem_cons_self⟩,fun q hq=>h2 q (List.mem_cons_of_mem _ hq)⟩
theorem zH6 (rows:List (List Int × Int)):(tidM rows).all (hl num den)=rows.all (hl num den):=by
 have h:=dok rows
 have a:=zLA num den hden lin zIW rows
 have k:(tidM rows).all (hl num den)=true ↔ rows.all (hl num den)=true:=by
  rw [zKF,List.all_eq_true,List.all_eq_true]
  have b:HS num den ([],none):=⟨fun p hp=>(by cases hp),rfl⟩
  have a':HS num den (rows.foldl zCv ([],none)) ↔ ∀ r∈rows,hl num den r=true:=⟨fun z=>(a.mp z).2,fun z=>a.mpr ⟨b,z⟩⟩
  rw [<- a']
  unfold dueM
  constructor
  ·intro z
   refine ⟨fun p hp=>?_,?_⟩
   ·rw [<- zMi num den hden lin (h.g0 p hp)]
    exact z _ (List.mem_append_left _ (List.mem_map.mpr ⟨p,hp,rfl⟩))
   ·cases q:(rows.foldl zCv ([],none)).2 with
    | none=>rfl
    | some ws=>
     have zz:=z (ws,-1) (List.mem_append_right _ (by rw [q]; exact List.mem_cons_self))
     have:=(zLB num den hden lin (h.z ws q)).mp zz
     omega
  ·rintro ⟨z1,z2⟩ x hx
   rw [z2] at hx
   rcases List.mem_append.mp hx with hx | hx
   ·obtain ⟨p,hp,e⟩:=List.mem_map.mp hx
    rw [<- e,zMi num den hden lin (h.g0 p hp)]
    exact z1 p hp
   ·cases hx
 cases x:(tidM rows).all (hl num den) <;> cases y:rows.all (hl num den) <;> simp_all
end
end Sh
namespace L2
open PySem
def zB4 (env:Env) (cs:List (Str × Addr)) (p:Str × NameKind):List (Str × Addr):=if (p.2 == .free)=true then (p.1,(env.cells.lookup p.1).getD 0) :: cs else cs
def zBj (scope:Scope) (env:Env):List (Str × Addr):=scope.names.foldl (zB4 env) []
theorem zJ5 {env:Env}:∀ (names:List (Str × NameKind)) (cs:List (Str × Addr)),(∀ p∈names,p.2=.free->(env.cells.lookup p.1).isSome=true)->
  (forIn names cs (fun (p:Str × NameKind) (r:List (Str × Addr))=>(if (p.2 == .free)=true then do let a <- cellOf env p.1; pure (ForInStep.yield ((p.1,a) :: r)) else pure (ForInStep.yield r):Sem (ForInStep (List (Str × Addr))))))=pure (names.foldl (zB4 env) cs):=by
 intro names
 induction names with
 | nil=>intro cs _; rfl
 | cons p r ih=>
  intro cs h
  obtain ⟨n,k⟩:=p
  rw [List.forIn_cons]
  by_cases hk:k=.free
  ·subst hk
   obtain ⟨c,hc⟩:=Option.isSome_iff_exists.mp (h (n,.free) List.mem_cons_self rfl)
   have e:cellOf env n=pure c:=by unfold cellOf; dsimp only at hc; rw [hc]
   have z:zB4 env cs (n,.free)=(n,c) :: cs:=by unfold zB4; dsimp only at hc |-; rw [hc]; rfl
   simp only [e,beq_self_eq_true,if_true,pure_bind,List.foldl_cons,z]
   exact ih _ fun q hq=>h q (List.mem_cons_of_mem _ hq)
  ·have b:(k == NameKind.free)=false:=by simpa using hk
   have z:zB4 env cs (n,k)=cs:=by unfold zB4; dsimp only; rw [b]; rfl
   simp only [b,Bool.false_eq_true,if_false,pure_bind,List.foldl_cons,z]
   exact ih _ fun q hq=>h q (List.mem_cons_of_mem _ hq)
theorem zEE {scope:Scope} {env:Env} (h:∀ p∈scope.names,p.2=.free->(env.cells.lookup p.1).isSome=true):closureFor scope env=pure (zBj scope env):=by
 unfold closureFor zBj
 have:=zJ5 scope.names [] h
 exact (congrArg (fun m=>m >>= fun r=>pure r) this).trans rfl
theorem zLU {env:Env}:∀ (names:List (Str × NameKind)) (cs:List (Str × Addr)) (x:Str) (c:Addr),(x,c)∈names.foldl (zB4 env) cs->(x,c)∈cs\/((x,NameKind.free)∈names/\c=(env.cells.lookup x).getD 0):=by
 intro names
 induction names with
 | nil=>intro cs x c h; exact .inl h
 | cons p r ih=>
  intro cs x c h
  obtain ⟨n,k⟩:=p
  rw [List.foldl_cons] at h
  rcases ih _ x c h with h1 | ⟨h1,h2⟩
  ·unfold zB4 at h1
   dsimp only at h1
   by_cases hk:k=.free
   ·subst hk
    simp only [beq_self_eq_true,if_true] at h1
    rcases List.mem_cons.mp h1 with e | h1
    ·injection e with e1 e2
     subst e1; subst e2
     exact .inr ⟨List.mem_cons_self,rfl⟩
    ·exact .inl h1
   ·have b:(k == NameKind.free)=false:=by simpa using hk
    simp only [b,Bool.false_eq_true,if_false] at h1
    exact .inl h1
  ·exact .inr ⟨List.mem_cons_of_mem _ h1,h2⟩
theorem zCf {α β:Type} [BEq α] [LawfulBEq α]:∀ {l:List (α × β)} {a:α} {b:β},l.lookup a=some b->(a,b)∈l
 | [],_,_,h=>by simp at h
 | (x,y) :: r,a,b,h=>by
  rw [List.lookup_cons] at h
  by_cases e:a=x
  ·subst e
   simp only [beq_self_eq_true,if_true] at h
   cases h
   exact List.mem_cons_self
  ·have:(a == x)=false:=by simpa using e
   simp only [this] at h
   exact List.mem_cons_of_mem _ (zCf h)
theorem zGC {α β:Type} [BEq α] [LawfulBEq α]:∀ {l:List (α × β)} {a:α} {b:β},(a,b)∈l->∃ c,l.lookup a=some c
 | [],_,_,h=>by cases h
 | (x,y) :: r,a,b,h=>by
  rw [List.lookup_cons]
  by_cases e:a=x
  ·subst e
   exact ⟨y,by simp⟩
  ·have z:(a == x)=false:=by simpa using e
   rcases List.mem_cons.mp h with q | q
   ·injection q with q1 _; exact absurd q1 e
   ·obtain ⟨c,hc⟩:=zGC q
    exact ⟨c,by simp only [z]; exact hc⟩
theorem zLV {env:Env}:∀ (names:List (Str × NameKind)) (cs:List (Str × Addr)) (x:Str),((x,NameKind.free)∈names\/∃ c,(x,c)∈cs)->∃ c,(x,c)∈names.foldl (zB4 env) cs:=by
 intro names
 induction names with
 | nil=>
  intro cs x h
  rcases h with h | h
  ·cases h
  ·exact h
 | cons p r ih=>
  intro cs x h
  rw [List.foldl_cons]
  refine ih _ x ?_
  rcases h with h | ⟨c,h⟩
  ·rcases List.mem_cons.mp h with e | h
   ·subst e
    exact .inr ⟨_,by unfold zB4; simp only [beq_self_eq_true,if_true]; exact List.mem_cons_self⟩
   ·exact .inl h
  ·refine .inr ⟨c,?_⟩
   unfold zB4
   split
   ·exact List.mem_cons_of_mem _ h
   ·exact h
theorem zCi {scope:Scope} {env:Env} (h:∀ p∈scope.names,p.2=.free->(env.cells.lookup p.1).isSome=true) {x:Str} {c:Addr} (e:(zBj scope env).lookup x=some c) :
  env.cells.lookup x=some c/\(x,NameKind.free)∈scope.names:=by
 rcases zLU scope.names [] x c (zCf e) with z | ⟨z,q⟩
 ·cases z
 ·obtain ⟨d,hd⟩:=Option.isSome_iff_exists.mp (h _ z rfl)
  dsimp only at hd
  rw [hd] at q
  exact ⟨by rw [hd,q]; rfl,z⟩
theorem zFI {scope:Scope} {env:Env} {x:Str} (h:(x,NameKind.free)∈scope.names):∃ c,(zBj scope env).lookup x=some c:=by
 obtain ⟨c,hc⟩:=zLV (env:=env) scope.names [] x (.inl h)
 exact zGC hc
theorem zFN {scope:Scope} {env:Env} {x:Str} {k:NameKind} (h:(relabel scope env).names.lookup x=some k):(k=.cell/\((x,NameKind.free)∈scope.names\/(x,NameKind.cell)∈scope.names))\/(x,k)∈scope.names:=by
 have m:=zCf h
 unfold relabel at m
 obtain ⟨⟨n,j⟩,hm,e⟩:=List.mem_map.mp m
 dsimp only at e
 split at e
 ·rename_i q
  injection e with e1 e2
  subst e1; subst e2
  have q1:j=NameKind.free:=by
   have:=(Bool.and_eq_true_iff.mp (Bool.and_eq_true_iff.mp q).1).1
   exact eq_of_beq this
  subst q1
  exact .inl ⟨rfl,.inl hm⟩
 ·injection e with e1 e2
  subst e1; subst e2
  exact .inr hm
end L2
namespace L2
open PySem
section
variable {prog:Program} {w:World} {A:Around} {R:Result->Shared->Prop} {s:Shared}
theorem zJ3 {elt target iter:Expr} {scope:Scope} {pos:Pos} {it acc:Value} {env:Env} (Wd:Nat->Shared->Prop)
  (turn:∀ n s,Wd n s->wpAny (model prog w) A (pyNext it) (fun r s1=>match r with
   | none=>R (.ok .next) s1
   | some v=>wpAny (model prog w) A (letOwnedTupleGo target it v) (fun _ s2=>wpAny (model prog w) A (assign target env v) (fun _ s3=>wpAny (model prog w) A (eval elt env) (fun x s4=>
     wpAny (model prog w) A (call (.builtin "list.append") [acc,x]) (fun _ s5=>∃ m,m < n/\Wd m s5) (fun _ _=>False) s4) (fun _ _=>False) s3) (fun _ _=>False) s2) (fun _ _=>False) s1) (fun _ _=>False) s)
  (n:Nat) (h:Wd n s):codeAny (model prog w) A (.compLoop (.ListComp elt [⟨target,iter,[],0⟩] scope pos) 0 it acc env) R s:=by
 refine codeAny_loop rfl Wd (fun n s hI=>?_) n h
 show wpAny _ _ (Sem.onRaise (compTurn (.ListComp elt [⟨target,iter,[],0⟩] scope pos) 0 it acc env) _) _ _ s
 refine wpAny_noted ?_
 rw [compTurn_list1]
 refine wpAny_bind (wpAny_standAt (wpAny_bind (wpAny_mono (turn n s hI) (fun r s1 h1=>?_) fun _ _ z=>False.elim z)))
 cases r with
 | none=>exact wpAny_pure h1
 | some v=>
  refine wpAny_bind (wpAny_mono h1 (fun _ s2 h2=>?_) fun _ _ z=>False.elim z)
  refine wpAny_bind (wpAny_mono h2 (fun _ s3 h3=>?_) fun _ _ z=>False.elim z)
  refine wpAny_bind (wpAny_bind (wpAny_mono h3 (fun x s4 h4=>?_) fun _ _ z=>False.elim z))
  exact wpAny_bind (wpAny_mono h4 (fun _ s5 h5=>wpAny_pure (wpAny_pure ⟨rfl,h5⟩)) fun _ _ z=>False.elim z)
end
end L2
namespace L2
open PySem PySem.Spec PyProof.Rows
def Bd (n:Nat) (i:Int):Prop:=i.natAbs < 2 ^ n
theorem Bd.mono {n m:Nat} {i:Int} (h:Bd n i) (k:n<=m:=by decide):Bd m i:=Nat.lt_of_lt_of_le h (Nat.pow_le_pow_right (by decide) k)
theorem Bd.of_le {n:Nat} {i j:Int} (h:Bd n j) (k:i.natAbs<=j.natAbs):Bd n i:=Nat.lt_of_le_of_lt k h
theorem Bd.mul {n m:Nat} {i j:Int} (h:Bd n i) (k:Bd m j):Bd (n + m) (i * j):=by
 unfold Bd
 rw [Int.natAbs_mul,Nat.pow_add]
 rcases Nat.eq_zero_or_pos j.natAbs with z | z
 ·rw [z,Nat.mul_zero]
  exact Nat.mul_pos (Nat.two_pow_pos _) (Nat.two_pow_pos _)
 ·exact Nat.lt_of_lt_of_le (Nat.mul_lt_mul_of_pos_right h z) (Nat.mul_le_mul_left _ (Nat.le_of_lt k))
theorem Bd.add {n:Nat} {i j:Int} (h:Bd n i) (k:Bd n j):Bd (n + 1) (i + j):=by
 have h':i.natAbs < 2 ^ n:=h
 have k':j.natAbs < 2 ^ n:=k
 unfold Bd
 rw [Nat.pow_succ]
 have:=Int.natAbs_add_le i j
 omega
theorem Bd.neg {n:Nat} {i:Int} (h:Bd n i):Bd n (-i):=by
 unfold Bd
 rw [Int.natAbs_neg]
 exact h
theorem Bd.sub {n:Nat} {i j:Int} (h:Bd n i) (k:Bd n j):Bd (n + 1) (i - j):=by
 rw [Int.sub_eq_add_neg]
 exact h.add k.neg
theorem Bd.lit {n:Nat} {i:Int} (h:i.natAbs < 2 ^ n:=by decide):Bd n i:=h
theorem Bd.bits {n:Nat} {i:Int} (h:Bd n i):Builtin.Int.intBits i<=n:=by
 have h':i.natAbs < 2 ^ n:=h
 unfold Builtin.Int.intBits
 split
 ·exact Nat.zero_le _
 ·rename_i z
  have nz:i.natAbs≠0:=by
   intro q
   apply z
   rw [Int.natAbs_eq_zero.mp q]
   rfl
  exact (Nat.log2_lt nz).mpr h'
theorem Bd.fdiv {n:Nat} {i:Int} (h:Bd n i) (j:Int):Bd n (i.fdiv j):=
 h.of_le (Int.natAbs_fdiv_le_natAbs i j)
def zNf (i j:Int):Prop:=Bd 60000 i/\Bd 60000 j
def CDivW (_ j:Int):Prop:=j≠0/\Bd 8000 j
section
variable {X:Cx}
theorem zNf.ok {i j:Int} (h:zNf i j):IntMulOk i j:=by
 have h1:=h.1.bits
 have h2:=h.2.bits
 have hc:Builtin.Int.intTooBig (Builtin.Int.intBits i + Builtin.Int.intBits j)=false:=by
  unfold Builtin.Int.intTooBig
  rw [bitsLine_eq]
  exact decide_eq_false (by omega)
 unfold IntMulOk
 rw [hc]
 simp
theorem zAd:OpR X (binaryOp .Mult) (rI zNf fun i j=>.int (i * j)):=opI fun _ _ _ _ _ _ _ hc q=>mul_int q hc.ok
theorem zBh:OpR X (binaryOp .FloorDiv) (rI CDivW fun i j=>.int (i.fdiv j)):=opI fun _ _ _ _ _ _ _ hc q=>by
 refine floordiv_int hc.1 q (.inl (PyProof.noPylong_of_log2 ?_))
 have h':_ < 2 ^ 8000:=hc.2
 have nz:_≠0:=fun z=>hc.1 (Int.natAbs_eq_zero.mp z)
 exact Nat.lt_trans ((Nat.log2_lt nz).mpr h') (by decide)
end
section
variable {X:Cx}
def rInst (K:PySem.W.Frag):List V->Hp->VK->Prop:=fun xs H Q=>∃ x c t b,xs=[x,.ty c]/\TyOf K H x t/\PySem.W.kitOne K t (.type c)=some b/\Q (.bl b) H
theorem zIc:zDr X (.builtin "isinstance") (rInst X.K):=by
 intro pins s σ H xs us Q I r h
 obtain ⟨x,c,t,b,rfl,ty,e,q⟩:=h
 obtain ⟨u,v,rfl,ru,rv⟩:=zMp r
 cases (show v=Value.type c from rv)
 exact zHj I ru ty e fun tk=>⟨.bl b,H,I.tok tk,rfl,q⟩
end
mutual
inductive Dp (K:PySem.W.Frag) (H:Hp):V->PyData->Prop where
 | non:Dp K H .non .none
 | bl (b:Bool):Dp K H (.bl b) (.bool b)
 | int (i:Int):Dp K H (.int i) (.int i)
 | str (x:Str):Dp K H (.str x) (.str x)
 | lst {a:Addr} {xs:List V} {ds:List PyData} (e:SqL K H a xs) (h:zGT K H xs ds):Dp K H (.ref a) (.list ds)
 | tup {a:Addr} {xs:List V} {ds:List PyData} (e:SqT K H a xs) (h:zGT K H xs ds):Dp K H (.ref a) (.tuple ds)
inductive zGT (K:PySem.W.Frag) (H:Hp):List V->List PyData->Prop where
 | nil:zGT K H [] []
 | cons {x:V} {xs:List V} {d:PyData} {ds:List PyData} (h:Dp K H x d) (t:zGT K H xs ds):zGT K H (x :: xs) (d :: ds)
end
section
variable {X:Cx} {pins:List (Addr × Obj)} {σ:St} {H:Hp} {s:Shared}
mutual
theorem Dp.reads (I:Inv X pins σ H s):∀ {x:V} {d:PyData} {u:Value},Dp X.K H x d->RelV x u->∃ as,Reads s.heap u d as
 | _,_,_,.non,r=>by cases r; exact ⟨_,.none⟩
 | _,_,_,.bl b,r=>by cases r; exact ⟨_,.bool b⟩
 | _,_,_,.int i,r=>by obtain ⟨t,rfl⟩:=r; exact ⟨_,.int i t⟩
 | _,_,_,.str x,r=>by obtain ⟨t,rfl⟩:=r; exact ⟨_,.str x t⟩
 | _,_,_,.lst e h,r=>by
  cases r
  obtain ⟨its,rv,⟨o,n,e1,e2,_,e3⟩,_⟩:=I.list e
  obtain ⟨as,q⟩:=zGT.reads I h rv
  exact ⟨_,.list e1 e2 e3 (by simpa using q)⟩
 | _,_,_,.tup e h,r=>by
  cases r
  obtain ⟨its,rv,⟨o,e1,e2,n,e3⟩,_⟩:=I.tuple e
  obtain ⟨as,q⟩:=zGT.reads I h rv
  exact ⟨_,.tuple e1 e2 e3 (by simpa using q)⟩
theorem zGT.reads (I:Inv X pins σ H s):∀ {xs:List V} {ds:List PyData} {us:List Value},zGT X.K H xs ds->Vals xs us->∃ as,ReadsAll s.heap us ds as
 | _,_,_,.nil,r=>by cases r; exact ⟨_,.nil⟩
 | _,_,_,.cons h t,r=>by
  cases r with
  | cons r1 r2=>
   obtain ⟨_,q1⟩:=Dp.reads I h r1
   obtain ⟨_,q2⟩:=zGT.reads I t r2
   exact ⟨_,.cons q1 q2⟩
end
end
section
variable {X:Cx}
end
section
variable {X:Cx}
theorem zDE (hc:X.calm=true):zDr X (.builtin "all") (fun xs H Q=>∃ (p:Addr) (bs:List Bool),xs=[.ref p]/\SqL X.K H p (bs.map V.bl)/\Q (.bl (bs.all id)) H):=by
 intro pins s σ H xs us Q I r h
 obtain ⟨p,bs,rfl,hq,q⟩:=h
 obtain ⟨u,rfl,ru⟩:=zHO r
 cases ru
 obtain ⟨its,rv,pl,hz⟩:=I.list hq
 have hh:X.A.in1.handled=none:=I.ok.hd hc
 have hlt:p < s.heap.objs.size:=by obtain ⟨o,n,e,_⟩:=pl; exact Heap.lt_size e
 refine call_all_walk (wpAny_pyIter_list pl.isList ?_)
 have hlen:its.length=bs.length:=by rw [<- rv.length,List.length_map]
 refine ⟨s.heap.objs.size,_,_,_,_,_,fun i=>bs.getD i true,rfl,Walks.list hh s.heap.objs.size p (Nat.ne_of_lt hlt) its.toArray,⟨⟨_,Heap.get?_push_size _ rfl,rfl,rfl⟩,pl.isList.push _⟩,?_,fun h' tk kk=>?_⟩
 ·intro i v s' Q' E' hP hQ'
  have e1:its[i]? = some v:=by simpa using hP
  have hi:i < its.length:=(List.getElem?_eq_some_iff.mp e1).1
  have hb:(bs.map V.bl)[i]? = some (.bl (bs.getD i true)):=by
   rw [List.getElem?_map,List.getElem?_eq_getElem (by omega),List.getD_eq_getElem?_getD,List.getElem?_eq_getElem (by omega)]
   rfl
  obtain ⟨u',e2,r2⟩:=rv.get hb
  rw [e1] at e2
  cases e2
  cases r2
  exact wpAny_truthy_bool hQ'
 ·have e:(List.range its.toArray.size).all (fun i=>bs.getD i true)=bs.all id:=by
   rw [List.size_toArray,hlen]
   rw [Bool.eq_iff_iff,List.all_eq_true,List.all_eq_true]
   constructor
   ·intro z b hb
    obtain ⟨i,hi,rfl⟩:=List.mem_iff_getElem.mp hb
    have:=z i (List.mem_range.mpr hi)
    rw [List.getD_eq_getElem?_getD,List.getElem?_eq_getElem hi] at this
    exact this
   ·intro z i hi
    have hi':=List.mem_range.mp hi
    rw [List.getD_eq_getElem?_getD,List.getElem?_eq_getElem hi']
    exact z _ (List.getElem_mem hi')
  refine ⟨.bl (bs.all id),H,I.kept (h':=h') (t':=tk) fun b o eb=>kk b o ?_ (Heap.get?_push_of_some _ eb),?_,q⟩
  ·intro hb
   have:b=s.heap.objs.size:=by simpa using hb
   rw [this] at eb
   exact absurd (Heap.lt_size eb) (Nat.lt_irrefl _)
  ·rw [e]
   rfl
end
end L2
namespace L2
open PySem PySem.Spec PyProof.Rows
def zFJ (own:List Str) (caps:List (Nat × Str)) (σ:St):St:=own.map (fun _=>none)++caps.map fun p=>(σ[p.1]?).getD none
abbrev blkN (own:List Str) (caps:List (Nat × Str)):List Str:=own++caps.map (·.2)
theorem zFM {scope:Scope} {env:Env} {x:Str}:(relabel scope env).names.lookup x=(scope.names.lookup x).map fun k=>if (k == .free && env.scope.kind == .function && env.kindOf x == some .cell)=true then .cell else k:=by
 unfold relabel
 generalize scope.names=l
 induction l with
 | nil=>rfl
 | cons p r ih=>
  obtain ⟨n,k⟩:=p
  rw [List.map_cons]
  by_cases e:x=n
  ·subst e
   by_cases c:(k == NameKind.free && env.scope.kind == .function && env.kindOf x == some .cell)=true
   ·simp only [c,if_true,List.lookup_cons,beq_self_eq_true,Option.map_some]
   ·simp only [c,if_false,List.lookup_cons,beq_self_eq_true,Option.map_some,Bool.false_eq_true]
  ·have z:(x == n)=false:=by simpa using e
   dsimp only
   split <;> simp only [List.lookup_cons,z] <;> exact ih
def zEK (J:It) (g:TG) (te:TE) (Q:VK) (σ0:St) (H1:Hp):Prop:=∃ W:Nat->Nat->List V->St->Hp->Prop,(∃ m,W 0 m [] σ0 H1)∧
 ∀ i m ys σ1 H,W i m ys σ1 H->(J.stop i H/\∀ p,H p=none->Q (.ref p) (upd H p (.lst ys)))∨
  (J.go i H/\ys.length < sizeLine/\∃ N:V->St->Hp->Prop,(∀ y σ' H',N y σ' H'->∃ m',m' < m/\W (i + 1) m' (ys++[y]) σ' H')/\∀ x H',J.yld i H x H'->g x σ1 H' fun σ2 H2=>te σ2 H2 fun y H3=>N y σ2 H3)
def zNm (own:List Str) (caps:List (Nat × Str)) (wi:TI) (g:TG) (te:TE):TE:=fun σ H Q=>wi σ H fun J H1=>zEK J g te Q (zFJ own caps σ) H1
section
variable {X:Cx} {scope:Scope} {own:List Str} {caps:List (Nat × Str)} {pins:List (Addr × Obj)} {σ:St} {H:Hp} {s s4:Shared} {C D:Addr} {fp:List Addr}
theorem zMR {i:Nat} {x:Str} {v:V} (h1:(blkN own caps)[i]? = some x) (h2:(zFJ own caps σ)[i]? = some (some v)):∃ j,(j,x)∈caps/\σ[j]? = some (some v):=by
 unfold zFJ at h2
 by_cases hi:i < own.length
 ·rw [List.getElem?_append_left (by simpa using hi),List.getElem?_map] at h2
  cases e:own[i]? with
  | none=>rw [e] at h2; cases h2
  | some a=>rw [e] at h2; cases h2
 ·rw [List.getElem?_append_right (by simpa using hi),List.length_map,List.getElem?_map] at h2
  unfold blkN at h1
  rw [List.getElem?_append_right (by omega),List.getElem?_map] at h1
  cases e:caps[i - own.length]? with
  | none=>rw [e] at h1; cases h1
  | some p=>
   obtain ⟨j,n⟩:=p
   rw [e] at h1 h2
   cases h1
   refine ⟨j,List.mem_of_getElem? e,?_⟩
   simp only [Option.map_some,Option.some.injEq] at h2
   cases q:σ[j]? with
   | none=>rw [q] at h2; cases h2
   | some o=>rw [q] at h2; exact congrArg some h2
abbrev lobj (its:List Value) (k:Nat):Obj:={ cls:=.type "list",data:=.seq its.toArray k }
theorem zJH {Y:Cx} {its:List Value} {k:Nat} {y:Value} {pl:List (Addr × Obj)} {Q:Value->Shared->Prop} {E:Value->Shared->Prop} (I:Inv Y ((D,lobj its k) :: pl) σ H s) (hn:FpOk Y [] H D) (hp:Y.pn=[]) (hz:its.length<=sizeLine)
  (q:∀ h' k' tk,(∀ b o,b≠D->s.heap.get? b=some o->h'.get? b=some o)->Inv Y [(D,lobj (its++[y]) k')] σ H { s with heap:=h',toks:=tk }->Q .none { s with heap:=h',toks:=tk }) :
  wpAny (model Y.prog Y.w) Y.A (call (.builtin "list.append") [.ref D,y]) Q E s:=by
 have pD:=I.pin (D,lobj its k) (List.mem_append_right _ List.mem_cons_self)
 have e:s.heap.get? D=some (lobj its k):=pD.1
 refine call_meets F.slot_list_append ⟨_,e,rfl⟩ F.entry_list_append (F.args_list_append_2 _ _) (PySem.list_append D its.toArray k y (by rw [List.size_toArray]; exact hz)) ⟨e,?_⟩
 have e2:=PySem.IsL.update e (·.push y)
 have ea:its.toArray.push y=(its++[y]).toArray:=by simp
 have keep:∀ b o,b≠D->s.heap.get? b=some o->(s.heap.update D (Obj.mapSeq (·.push y))).get? b=some o:=fun b o hb eb=>(Heap.get?_update_other s.heap _ (Ne.symm hb)).trans eb
 have I0:Inv Y [] σ H s:=I.pins_of fun p hp'=>by cases hp'
 have I1:Inv Y [] σ H { s with heap:=s.heap.update D (Obj.mapSeq (·.push y)),toks:=s.toks }:=I0.turned keep hn.1 hn.2.1 hn.2.2.2.1 hn.2.2.2.2.1 hn.2.2.2.2.2
 have e3:(s.heap.update D (Obj.mapSeq (·.push y))).get? D=some (lobj (its++[y]) _):=e2.trans (by rw [ea])
 have I2:Inv Y [(D,lobj (its++[y]) (if ((its++[y]).toArray.size == its.toArray.size)=true then k else k + 1))] σ H { s with heap:=s.heap.update D (Obj.mapSeq (·.push y)),toks:=s.toks }:=I1.pins_of fun p hp'=>by
  rw [List.mem_singleton.mp hp']
  exact ⟨e3,hn.1,hn.2.1,hn.2.2.1,fun v z=>by cases z⟩
 exact q _ _ s.toks keep I2
end
section
variable {X:Cx} {scope:Scope} {own:List Str} {caps:List (Nat × Str)} {elt tg iter:Expr} {wi:TI} {g:TG} {te:TE} {pos:Pos}
end
end L2
namespace L2
open PySem PySem.Spec PyProof.Rows
theorem zBQ {K:PySem.W.Frag} {a:Addr} {xs:List V} {g:TG} {te:TE} {σ0:St} {H:Hp} {Q:VK} (Pv:Nat->List V->St->Hp->Prop) (h0:Pv 0 [] σ0 H) (hl:∀ i ys σ H,i<=xs.length->Pv i ys σ H->SqL K H a xs/\ys.length<=i) (hz:xs.length<=sizeLine)
  (hs:∀ i x ys σ H,xs[i]? = some x->Pv i ys σ H->g x σ H fun σ2 H2=>te σ2 H2 fun y H3=>Pv (i + 1) (ys++[y]) σ2 H3)
  (hd:∀ ys σ H,Pv xs.length ys σ H->∀ p,H p=none->Q (.ref p) (upd H p (.lst ys))) :
  zEK (Itl K a) g te Q σ0 H:=by
 refine ⟨fun i m ys σ H=>m=xs.length - i/\i<=xs.length/\Pv i ys σ H,⟨xs.length,by simp,Nat.zero_le _,h0⟩,?_⟩
 rintro i m ys σ H ⟨rfl,hi,p⟩
 obtain ⟨q,hy⟩:=hl i ys σ H hi p
 by_cases hlt:i < xs.length
 ·refine .inr ⟨⟨xs,xs[i],q,by simp [hlt]⟩,by omega,fun y σ' H'=>Pv (i + 1) (ys++[y]) σ' H',fun y σ' H' z=>⟨xs.length - (i + 1),by omega,rfl,hlt,z⟩,fun x H' y=>?_⟩
  obtain ⟨e,y⟩:=y
  subst e
  exact hs i x ys σ _ (y xs q) p
 ·have e:i=xs.length:=by omega
  subst e
  exact .inl ⟨⟨xs,q,Nat.le_refl _⟩,hd ys σ H p⟩
theorem zB8 {lo:Int} {n:Nat} {g:TG} {te:TE} {σ0:St} {H:Hp} {Q:VK} (Pv:Nat->List V->St->Hp->Prop) (h0:Pv 0 [] σ0 H) (hl:∀ i ys σ H,Pv i ys σ H->ys.length<=i) (hz:n<=sizeLine)
  (hs:∀ i ys σ H,i < n->Pv i ys σ H->g (.int (lo + i)) σ H fun σ2 H2=>te σ2 H2 fun y H3=>Pv (i + 1) (ys++[y]) σ2 H3)
  (hd:∀ ys σ H,Pv n ys σ H->∀ p,H p=none->Q (.ref p) (upd H p (.lst ys))):zEK (Itr lo n) g te Q σ0 H:=by
 refine ⟨fun i m ys σ H=>m=n - i/\i<=n/\Pv i ys σ H,⟨n,by simp,Nat.zero_le _,h0⟩,?_⟩
 rintro i m ys σ H ⟨rfl,hi,p⟩
 have hy:=hl i ys σ H p
 by_cases hlt:i < n
 ·refine .inr ⟨hlt,by omega,fun y σ' H'=>Pv (i + 1) (ys++[y]) σ' H',fun y σ' H' z=>⟨n - (i + 1),by omega,rfl,hlt,z⟩,fun x H' y=>?_⟩
  obtain ⟨e,y⟩:=y
  subst e y
  exact hs i ys σ _ hlt p
 ·have e:i=n:=by omega
  subst e
  exact .inl ⟨Nat.le_refl _,hd ys σ H p⟩
structure Fn (P:Program) (w:World) (K:PySem.W.Frag) (mg:Str->Option Value) (base:Heap) (x:Str) (ps:List Str) (k:Nat) (sp:Sp):Prop where
 ex:∃ f fd,FnOk P w K mg base CX0 k f fd ps sp/\mg x=some (.ref f)/\PySem.W.keepIn K (.ref f)=true/\zEH K fd ps []
theorem Fn.mono {P:Program} {w:World} {K:PySem.W.Frag} {mg:Str->Option Value} {base:Heap} {x:Str} {ps:List Str} {j k:Nat} {sp:Sp} (F:Fn P w K mg base x ps j sp) (h:j<=k:=by decide):Fn P w K mg base x ps k sp:=by
 obtain ⟨f,fd,a,b,c,d⟩:=F.ex
 exact ⟨f,fd,a.mono h,b,c,d⟩
theorem zAG {X:Cx} {x:Str} {ps:List Str} {k:Nat} {sp:Sp} {e:Expr} {es:List Expr} {t:TA} {p pos:Pos} (F:Fn X.prog X.w X.K X.mg X.base x ps k sp) (hr:Room k X.A) (hg:Gl X x) (ha:PA X (e :: es) t)
  (hdb:(x == ("__debug__" : Str))=false:=by decide) (he:starEach (e :: es) X.env=(false,eval e X.env) :: starEach es X.env:=by rfl) (hpl:(backTo pos (starEach es X.env)).any (·.1)=false:=by rfl) :
  PE X (.Call (.Name x p) (e :: es) [] pos) (zKH sp [] E0 t):=by
 obtain ⟨f,fd,a,b,c,d⟩:=F.ex
 exact zH8 a hr hg b c d .nil zL2 ha hdb he hpl
end L2
namespace L2
open PySem PySem.Spec PyProof.Rows
theorem zAT:bootBuiltins "isinstance" = some (.builtin "isinstance"):=by decide +kernel
theorem zAv:bootBuiltins "len" = some (.builtin "len"):=by decide +kernel
theorem zHt:bootBuiltins "abs" = some (.builtin "abs"):=by decide +kernel
theorem zCn:bootBuiltins "all" = some (.builtin "all"):=by decide +kernel
theorem zE2:bootBuiltins "int" = some (.type "int"):=by decide +kernel
theorem zGo:bootBuiltins "bool" = some (.type "bool"):=by decide +kernel
theorem zAn:bootBuiltins "tuple" = some (.type "tuple"):=by decide +kernel
theorem zAm:bootBuiltins "list" = some (.type "list"):=by decide +kernel
section
variable (K:PySem.W.Frag)
theorem zGF:PySem.W.kitOne K (.type "int") (.type "int")=some true:=by first | rfl | decide +kernel | (unfold PySem.W.kitOne; rw [if_pos (by decide +kernel)])
theorem zFQ:PySem.W.kitOne K (.type "int") (.type "bool")=some false:=by first | rfl | decide +kernel | (unfold PySem.W.kitOne; rw [if_neg (by decide +kernel)]; rfl)
theorem zBz:PySem.W.kitOne K (.type "tuple") (.type "tuple")=some true:=by first | rfl | decide +kernel | (unfold PySem.W.kitOne; rw [if_pos (by decide +kernel)])
end
structure FunD (K:PySem.W.Frag) (x qual:Str) (st:Stmt) (f:Addr) (fd:FuncData) (d:Value):Prop where
 ex:∃ (oc:Value) (od:Option Addr) (kV doc pm:Value) (an:Option Addr) (cdv ct:Value) (osl:Array (Option Value)) (T:Addr) (oT:Obj) (n:Nat),
  fd=PySem.W.fnOf x qual (zAN st) (zAL st) (zAC st) (.ref T) kV doc pm an cdv ct/\K.lookup f=some ⟨oc,od,.func fd,osl⟩/\PySem.W.codeIn K cdv qual=true/\K.lookup T=some oT/\oT.data=.seq #[d] n
 kp:PySem.W.keepIn K (.ref f)=true
theorem FunD.ok {P:Program} {w:World} {K:PySem.W.Frag} {mg:Str->Option Value} {base:Heap} {x qual:Str} {st:Stmt} {f:Addr} {fd:FuncData} {d:Value} {N ps:List Str} {k:Nat} {sp:Sp} (F:FunD K x qual st f fd d) (S:zAP N ps (zAC st))
  (len:∀ vs H Q E,sp vs H Q E->vs.length=ps.length)
  (hbody:∀ (cdv:Value) (A:Around) (outer:List Env) (s:Shared) (H:Hp) (vs:List V) (Q:VK) (E:XK),Room k (A.deeper (envOfC qual (zAC st) s.heap.objs.size f cdv))->sp vs H Q E->
   ∃ t,PSs (cxOf CX0 P w K mg base N qual (zAC st) f cdv A outer s H E).nox (zAL st) t/\t { nx:=fun _ H'=>Q .non H',rt:=Q } (zGV N vs) H):FnOk P w K mg base CX0 (k + 1) f fd ps sp:=by
 obtain ⟨oc,od,kV,doc,pm,an,cdv,ct,osl,T,oT,n,rfl,lk,hcd,_⟩:=F.ex
 refine zNN lk hcd S len fun A outer s H vs Q E hr hsp=>?_
 obtain ⟨t,h,q⟩:=hbody cdv A outer s H vs Q E hr hsp
 exact ⟨t,h.nox,q⟩
end L2
namespace L2
open PySem PySem.Spec PyProof.Rows
theorem zIU {K:PySem.W.Frag} {x qual:Str} {st:Stmt} {f T:Addr} {oc kV doc pm cdv ct d:Value} {od an:Option Addr} {osl:Array (Option Value)} {oT:Obj} {n:Nat} (l:K.lookup f=some ⟨oc,od,.func (PySem.W.fnOf x qual (zAN st) (zAL st) (zAC st) (.ref T) kV doc pm an cdv ct),osl⟩)
  (c:PySem.W.codeIn K cdv qual=true) (k:PySem.W.keepIn K (.ref f)=true) (t:K.lookup T=some oT) (e:oT.data=.seq #[d] n):FunD K x qual st f (PySem.W.fnOf x qual (zAN st) (zAL st) (zAC st) (.ref T) kV doc pm an cdv ct) d:=
 ⟨⟨oc,od,kV,doc,pm,an,cdv,ct,osl,T,oT,n,rfl,l,c,t,e⟩,k⟩
theorem FunD.binds {K:PySem.W.Frag} {x qual:Str} {st:Stmt} {f:Addr} {fd:FuncData} {d:Value} {ps:List Str} (F:FunD K x qual st f fd d)
  (h:∀ (T:Addr) (kV doc pm:Value) (an:Option Addr) (cdv ct:Value) (us:List Value),us.length=ps.length->∃ k:Option (Array Value)->Sem (List (Str × Value)),
   bindArgs (PySem.W.fnOf x qual (zAN st) (zAL st) (zAC st) (.ref T) kV doc pm an cdv ct) ⟨us,[]⟩=seqItems? (.ref T) >>= k/\k (some #[d])=pure (ps.zip us)):zEH K fd ps []:=by
 obtain ⟨oc,od,kV,doc,pm,an,cdv,ct,osl,T,oT,n,rfl,lk,hcd,t,e⟩:=F.ex
 intro s us X hl
 rw [List.append_nil] at hl |-
 obtain ⟨k,h1,h2⟩:=h T kV doc pm an cdv ct us hl
 exact .of_defaults (T:=T) rfl (X T oT t) e h1 h2
end L2
namespace L2
open PySem PySem.Spec PyProof.Rows
structure FnD (P:Program) (w:World) (K:PySem.W.Frag) (mg:Str->Option Value) (base:Heap) (x:Str) (ps:List Str) (k:Nat) (sp:Sp) (dv:V):Prop where
 ex:∃ f fd d,FnOk P w K mg base CX0 k f fd ps sp/\mg x=some (.ref f)/\PySem.W.keepIn K (.ref f)=true/\zEH K fd ps []/\zEH K fd ps [d]/\RelV dv d
theorem FnD.mono {P:Program} {w:World} {K:PySem.W.Frag} {mg:Str->Option Value} {base:Heap} {x:Str} {ps:List Str} {j k:Nat} {sp:Sp} {dv:V} (F:FnD P w K mg base x ps j sp dv) (h:j<=k:=by decide):FnD P w K mg base x ps k sp dv:=by
 obtain ⟨f,fd,d,a,b,c,e⟩:=F.ex
 exact ⟨f,fd,d,a.mono h,b,c,e⟩
theorem FnD.fn {P:Program} {w:World} {K:PySem.W.Frag} {mg:Str->Option Value} {base:Heap} {x:Str} {ps:List Str} {k:Nat} {sp:Sp} {dv:V} (F:FnD P w K mg base x ps k sp dv):Fn P w K mg base x ps k sp:=by
 obtain ⟨f,fd,d,a,b,c,e,_⟩:=F.ex
 exact ⟨f,fd,a,b,c,e⟩
theorem zDY {X:Cx} {x:Str} {ps:List Str} {k:Nat} {sp:Sp} {e:Expr} {es:List Expr} {t:TA} {p pos:Pos} {dv:V} (F:FnD X.prog X.w X.K X.mg X.base x ps k sp dv) (hr:Room k X.A) (hg:Gl X x) (ha:PA X (e :: es) t)
  (hdb:(x == ("__debug__" : Str))=false:=by decide) (he:starEach (e :: es) X.env=(false,eval e X.env) :: starEach es X.env:=by rfl) (hpl:(backTo pos (starEach es X.env)).any (·.1)=false:=by rfl) :
  PE X (.Call (.Name x p) (e :: es) [] pos) (zKH sp [dv] E0 t):=by
 obtain ⟨f,fd,d,a,b,c,_,h2,r⟩:=F.ex
 exact zH8 a hr hg b c h2 (.cons r .nil) zL2 ha hdb he hpl
theorem FunD.binds1 {K:PySem.W.Frag} {x qual:Str} {st:Stmt} {f:Addr} {fd:FuncData} {d:Value} {ps:List Str} (F:FunD K x qual st f fd d)
  (h:∀ (T:Addr) (kV doc pm:Value) (an:Option Addr) (cdv ct:Value) (us:List Value),us.length + 1=ps.length->∃ k:Option (Array Value)->Sem (List (Str × Value)),
   bindArgs (PySem.W.fnOf x qual (zAN st) (zAL st) (zAC st) (.ref T) kV doc pm an cdv ct) ⟨us,[]⟩=seqItems? (.ref T) >>= k/\k (some #[d])=pure (ps.zip (us++[d]))):zEH K fd ps [d]:=by
 obtain ⟨oc,od,kV,doc,pm,an,cdv,ct,osl,T,oT,n,rfl,lk,hcd,t,e⟩:=F.ex
 intro s us X hl
 rw [List.length_append,List.length_singleton] at hl
 obtain ⟨k,h1,h2⟩:=h T kV doc pm an cdv ct us hl
 exact .of_defaults (T:=T) rfl (X T oT t) e h1 h2
theorem zDo (xs:List V) (v:V):cutV (xs++[v]) none (some (-1))=xs:=by
 unfold cutV
 have e1:HT.sIx (xs++[v]).length 0 none=0:=rfl
 have e2:HT.sIx (xs++[v]).length (xs++[v]).length (some (-1))=xs.length:=by
  show (if (-1:Int) < 0 then ((-1:Int) + ((xs++[v]).length:Int)).toNat else min (-1:Int).toNat (xs++[v]).length)=xs.length
  rw [if_pos (by decide),List.length_append,List.length_singleton]
  omega
 rw [e1,e2]
 simp
theorem zBV (xs:List V) (v:V):¬ (HT.sIx (xs++[v]).length 0 none=0/\HT.sIx (xs++[v]).length (xs++[v]).length (some (-1))=(xs++[v]).length):=by
 rintro ⟨_,e⟩
 have e2:HT.sIx (xs++[v]).length (xs++[v]).length (some (-1))=xs.length:=by
  show (if (-1:Int) < 0 then ((-1:Int) + ((xs++[v]).length:Int)).toNat else min (-1:Int).toNat (xs++[v]).length)=xs.length
  rw [if_pos (by decide),List.length_append,List.length_singleton]
  omega
 rw [e2,List.length_append,List.length_singleton] at e
 omega
end L2
namespace L2
theorem zCU {b:Bool} {A B:Prop} (e:b=true) (h:A):if b=true then A else B:=by
 rw [if_pos e]
 exact h
theorem zB0 {b:Bool} {A B:Prop} (e:b=false) (h:B):if b=true then A else B:=by
 rw [if_neg (by rw [e]; exact Bool.false_ne_true)]
 exact h
theorem zDH {i j:Int} (h:i=j):decide (V.int i=V.int j)=true:=decide_eq_true (by rw [h])
theorem zC9 {i j:Int} (h:i≠j):decide (V.int i=V.int j)=false:=decide_eq_false fun e=>h (by injection e)
theorem zF8 {i j:Int} (h:i≠j):(!decide (V.int i=V.int j))=true:=by rw [zC9 h]; rfl
theorem zFs {i j:Int} (h:i=j):(!decide (V.int i=V.int j))=false:=by rw [zDH h]; rfl
end L2
set_option maxRecDepth 100000
namespace L2
open PySem
section
variable {prog:Program} {w:World} {A:Around} {E:Value->Shared->Prop} {s:Shared}
theorem zCm (hh:A.handled=none) (it t:Addr) (hne:t≠it) (items:Array Value) :
  Draws prog w A it [it,t] items.size (fun i v=>items[i]? = some v) (fun i h=>h.IsTupleIter it t i/\h.IsTuple t items) where
 live:=fun _ _ st=>let ⟨o,ho,_⟩:=st.1; ⟨o,ho⟩
 frame:=fun _ _ _ st hk=>⟨let ⟨o,e,r⟩:=st.1; ⟨o,hk it (by simp) o e,r⟩,let ⟨o,e,r⟩:=st.2; ⟨o,hk t (by simp) o e,r⟩⟩
 item:=fun i s Q E hi st hQ=>by
  obtain ⟨hit,ht⟩:=st
  obtain ⟨o,ho,hc,hd⟩:=id hit
  obtain ⟨ol,hol,_,nl,hdl⟩:=id ht
  have hx:items[i]? = some items[i]:=by simp [hi]
  unfold Builtin.SmallTypes.nextOf
  refine wpAny_bind (wpAny_callSpecial?_slot (name:=Str.ofString "__next__") hit.typeIs F.slot_tuple_iterator_next (wpAny_call_entry F.slot_tuple_iterator_next hit.typeIs F.entry_tuple_iterator_next ?_ (F.args_tuple_iterator_next_1 _)))
  change wpAny _ _ (field (.ref it) 0 >>= _) _ _ s
  refine wpAny_bind (wpAny_field ho hd (x:=.ref t) rfl ?_)
  change wpAny _ _ (if (Value.ref t == Value.none)=true then _ else _) _ _ s
  rw [if_neg (show (Value.ref t == Value.none)≠true from Bool.false_ne_true)]
  change wpAny _ _ (field (.ref it) 1 >>= _) _ _ s
  refine wpAny_bind (wpAny_field ho hd (x:=.int i 0) rfl ?_)
  change wpAny _ _ (seqItems? (.ref t) >>= _) _ _ s
  refine wpAny_bind (wpAny_seqItems hol hdl ?_)
  simp only [Int.toNat_natCast,hx]
  refine wpAny_bind (wpAny_setField ho hd (by simp) (wpAny_pure ⟨items[i],rfl,wpAny_pure (hQ _ _ s.toks hx ⟨?_,?_⟩ (Heap.SameBut.update ..))⟩))
  ·exact ⟨_,Heap.get?_update_self _ ho (Obj.isFreed_of_fields (Obj.data_mapFields hd _)),(Obj.cls_mapFields ..).trans hc,by rw [Obj.data_mapFields hd]; simp [rawInt]⟩
  ·exact ht.extBut (Heap.SameBut.update ..).extBut hne
 done:=fun s Q E st hE=>by
  obtain ⟨hit,ht⟩:=st
  obtain ⟨o,ho,hc,hd⟩:=id hit
  obtain ⟨ol,hol,_,nl,hdl⟩:=id ht
  have hx:items[items.size]? = none:=by simp
  unfold Builtin.SmallTypes.nextOf
  refine wpAny_bind (wpAny_callSpecial?_slot (name:=Str.ofString "__next__") hit.typeIs F.slot_tuple_iterator_next (wpAny_call_entry F.slot_tuple_iterator_next hit.typeIs F.entry_tuple_iterator_next ?_ (F.args_tuple_iterator_next_1 _)))
  change wpAny _ _ (field (.ref it) 0 >>= _) _ _ s
  refine wpAny_bind (wpAny_field ho hd (x:=.ref t) rfl ?_)
  change wpAny _ _ (if (Value.ref t == Value.none)=true then _ else _) _ _ s
  rw [if_neg (show (Value.ref t == Value.none)≠true from Bool.false_ne_true)]
  change wpAny _ _ (field (.ref it) 1 >>= _) _ _ s
  refine wpAny_bind (wpAny_field ho hd (x:=.int items.size 0) rfl ?_)
  change wpAny _ _ (seqItems? (.ref t) >>= _) _ _ s
  refine wpAny_bind (wpAny_seqItems hol hdl ?_)
  simp only [Int.toNat_natCast,hx]
  refine wpAny_bind (wpAny_rule (wpAny_bind (wpAny_setField ho hd (by simp) ?_)))
  change wpAny _ _ (newExc (.type "StopIteration") [] >>= _) _ _ _
  refine wpAny_bind ?_
  simp only [newExc,newTuple]
  refine wpAny_bind (wpAny_newObj_type ?_ (by size_fits))
  refine wpAny_bind (m:=firstArgMember _ _) (wpAny_of_eq (a:=Value.none) (by first | rfl | (simp only [firstArgMember]; rfl)) ?_)
  refine wpAny_newObj_type ?_ (by size_fits)
  simp only [raiseNew]
  refine wpAny_bind (wpAny_handled ?_)
  first | rw [show A.in1.handled=none from hh] | rw [hh]
  refine wpAny_bind (wpAny_pure (wpAny_throw ?_))
  exact hE _ _ (((Heap.SameBut.update ..).extBut.push _).push _) ⟨_,Heap.get?_push_size _ rfl,rfl⟩
structure Zp (z TI TO i1 i2:Addr) (f1 f2:List Addr):Prop where
 a1:TI≠z
 a2:TO≠z
 a3:i1≠z
 a4:i2≠z
 a5:TI≠TO
 a6:TI≠i1
 a7:TI≠i2
 a8:TO≠i1
 a9:TO≠i2
 b1:z∉f1
 b2:z∉f2
 b3:TO∉f1
 b4:TO∉f2
 b5:i1∉f2
 b6:i2∉f1
theorem zLn {z TI TO i1 i2:Addr} {f1 f2:List Addr} {n1 n2 k:Nat} {P1 P2:Nat->Value->Prop} {S1 S2:Nat->Heap->Prop} {a b:Value} {Q:Value->Shared->Prop}
  (D1:Draws prog w A i1 f1 n1 P1 S1) (D2:Draws prog w A i2 f2 n2 P2 S2) (Z:Zp z TI TO i1 i2 f1 f2) (hz:IsZip s.heap z TI TO .none) (hI:IsPair s.heap TI (.ref i1) (.ref i2)) (hO:IsPair s.heap TO a b)
  (s1:S1 k s.heap) (s2:S2 k s.heap) (k1:k < n1) (k2:k < n2)
  (hQ:∀ x y h' tk,P1 k x->P2 k y->IsZip h' z TI TO (rawInt s.heap.objs.size)->IsPair h' TI (.ref i1) (.ref i2)->IsPair h' TO x y->S1 (k + 1) h'->S2 (k + 1) h'->IsPair h' s.heap.objs.size x y->
   (∀ c o,c≠z->c≠TO->c≠i1->c≠i2->s.heap.get? c=some o->h'.get? c=some o)->Q (.ref s.heap.objs.size) { s with heap:=h',toks:=tk }) :
  wpAny (model prog w) A (Builtin.«zip.__next__» ⟨[.ref z],[]⟩) (fun fin s'=>∃ v,fin=.done (.ret v)/\Q v s') E s:=by
 change wpAny _ _ (field (.ref z) 2 >>= _) _ _ _
 refine wpAny_bind (wpAny_field hz rfl (x:=.bool false) rfl ?_)
 change wpAny _ _ (field (.ref z) 3 >>= _) _ _ _
 refine wpAny_bind (wpAny_field hz rfl (x:=.ref TI) rfl ?_)
 refine wpAny_bind (wpAny_seqItems hI rfl ?_)
 change wpAny _ _ (Builtin.SmallTypes.ownedTupleIsFree (.ref z) >>= _) _ _ _
 refine wpAny_bind ?_
 unfold Builtin.SmallTypes.ownedTupleIsFree
 refine wpAny_bind (wpAny_field hz rfl (x:=.none) rfl (wpAny_pure ?_))
 simp only [if_true]
 refine wpAny_bind (wpAny_rule ?_)
 refine wpAny_bind (wpAny_field hz rfl (x:=.ref TO) rfl ?_)
 refine wpAny_bind (wpAny_setField_rec hz (by simp) fun g1 z1 m1=>?_)
 replace z1:IsZip g1 z TI TO .ellipsis:=z1
 refine wpAny_bind ?_
 simp only [List.zipIdx_cons,List.zipIdx_nil,List.forIn_cons,List.forIn_nil]
 refine wpAny_bind (wpAny_bind (wpAny_onRaise ?_))
 change wpAny _ _ (Builtin.SmallTypes.nextOf (.ref i1) >>= _) _ _ _
 refine wpAny_bind (D1.item k _ _ _ k1 (D1.frame _ _ _ s1 fun c hc o e=>m1.extBut c o (fun q=>Z.b1 (q ▸ hc)) e) fun x g2 t2 px s12 m2=>wpAny_pure ?_)
 have o2:IsPair g2 TO a b:=m2.extBut _ _ Z.a8 (m1.extBut _ _ Z.a2 hO)
 refine wpAny_bind (wpAny_seqItems o2 rfl ?_)
 refine wpAny_bind (wpAny_updateSeq_pair o2 fun g3 o3 m3=>?_)
 replace o3:IsPair g3 TO x b:=o3
 refine wpAny_bind (wpAny_letGo (wpAny_pure ?_))
 refine wpAny_bind (wpAny_bind (wpAny_onRaise ?_))
 change wpAny _ _ (Builtin.SmallTypes.nextOf (.ref i2) >>= _) _ _ _
 refine wpAny_bind (D2.item k _ _ _ k2 (D2.frame _ _ _ s2 fun c hc o e=>m3.extBut c o (fun q=>Z.b4 (q ▸ hc)) (m2.extBut c o (fun q=>Z.b5 (q ▸ hc)) (m1.extBut c o (fun q=>Z.b2 (q ▸ hc)) e))) fun y g4 t4 py s24 m4=>wpAny_pure ?_)
 have o4:IsPair g4 TO x b:=m4.extBut _ _ Z.a9 o3
 refine wpAny_bind (wpAny_seqItems o4 rfl ?_)
 refine wpAny_bind (wpAny_updateSeq_pair o4 fun g5 o5 m5=>?_)
 replace o5:IsPair g5 TO x y:=o5
 refine wpAny_bind (wpAny_letGo (wpAny_pure (wpAny_pure ?_)))
 refine wpAny_bind (wpAny_seqItems o5 rfl ?_)
 refine wpAny_bind (wpAny_newTuple ?_)
 have sz:g5.objs.size=s.heap.objs.size:=by
  have q5:g5.objs.size=g4.objs.size:=m5.1
  have q4:g4.objs.size=g3.objs.size:=m4.1
  have q3:g3.objs.size=g2.objs.size:=m3.1
  have q2:g2.objs.size=g1.objs.size:=m2.1
  have q1:g1.objs.size=s.heap.objs.size:=m1.1
  omega
 have all5:∀ c o,c≠z->c≠TO->c≠i1->c≠i2->s.heap.get? c=some o->g5.get? c=some o:=fun c o c1 c2 c3 c4 e=>m5.extBut _ _ c2 (m4.extBut _ _ c4 (m3.extBut _ _ c2 (m2.extBut _ _ c3 (m1.extBut _ _ c1 e))))
 have z5:IsZip g5 z TI TO .ellipsis:=m5.extBut _ _ Z.a2.symm (m4.extBut _ _ Z.a4.symm (m3.extBut _ _ Z.a2.symm (m2.extBut _ _ Z.a3.symm z1)))
 have I5:IsPair g5 TI (.ref i1) (.ref i2):=all5 _ _ Z.a1 Z.a5 Z.a6 Z.a7 hI
 have u1:S1 (k + 1) g5:=D1.frame _ _ _ s12 fun c hc o e=>m5.extBut c o (fun q=>Z.b3 (q ▸ hc)) (m4.extBut c o (fun q=>Z.b6 (q ▸ hc)) (m3.extBut c o (fun q=>Z.b3 (q ▸ hc)) e))
 have u2:S2 (k + 1) g5:=D2.frame _ _ _ s24 fun c hc o e=>m5.extBut c o (fun q=>Z.b4 (q ▸ hc)) e
 have lt:z < g5.objs.size:=Heap.lt_size z5
 change wpAny _ _ (Builtin.SmallTypes.ownedTupleHandOut (.ref z) (.ref g5.objs.size) >>= _) _ _ _
 refine wpAny_bind ?_
 unfold Builtin.SmallTypes.ownedTupleHandOut
 have z6:IsZip (g5.push { cls:=.type "tuple",data:=.seq #[x,y] }) z TI TO .ellipsis:=Heap.get?_push_of_some _ z5
 refine wpAny_bind (wpAny_setField_rec z6 (by simp) fun g7 z7 m7=>?_)
 replace z7:IsZip g7 z TI TO (rawInt g5.objs.size):=z7
 refine wpAny_setField_rec z7 (by simp) fun g8 z8 m8=>?_
 replace z8:IsZip g8 z TI TO (rawInt g5.objs.size):=z8
 have up:∀ c o,c≠z->g5.get? c=some o->g8.get? c=some o:=fun c o c1 e=>m8.extBut _ _ c1 (m7.extBut _ _ c1 (Heap.get?_push_of_some _ e))
 have T8:IsPair g8 g5.objs.size x y:=m8.extBut _ _ (Nat.ne_of_gt lt) (m7.extBut _ _ (Nat.ne_of_gt lt) (Heap.get?_push_size _ rfl))
 rw [sz] at z8 T8
 refine wpAny_pure ⟨_,rfl,?_⟩
 change Q (.ref g5.objs.size) _
 rw [sz]
 exact hQ x y g8 _ px py z8 (up _ _ Z.a1 I5) (up _ _ Z.a2 o5) (D1.frame _ _ _ u1 fun c hc o e=>up c o (fun q=>Z.b1 (q ▸ hc)) e) (D2.frame _ _ _ u2 fun c hc o e=>up c o (fun q=>Z.b2 (q ▸ hc)) e) T8
  fun c o c1 c2 c3 c4 e=>up c o c1 (all5 c o c1 c2 c3 c4 e)
theorem zLm {z TI TO i1 i2:Addr} {f1 f2:List Addr} {n1 n2 k:Nat} {P1 P2:Nat->Value->Prop} {S1 S2:Nat->Heap->Prop} {a b:Value} {Q:Fin->Shared->Prop}
  (D1:Draws prog w A i1 f1 n1 P1 S1) (D2:Draws prog w A i2 f2 n2 P2 S2) (Z:Zp z TI TO i1 i2 f1 f2) (hz:IsZip s.heap z TI TO .none) (hI:IsPair s.heap TI (.ref i1) (.ref i2)) (hO:IsPair s.heap TO a b)
  (s1:S1 k s.heap) (s2:S2 k s.heap) (k1:k<=n1) (k2:k<=n2) (ke:k=n1\/k=n2)
  (hE:∀ h' e tk,(∀ c o,c≠z->c≠TO->c≠i1->c≠i2->s.heap.get? c=some o->h'.get? c=some o)->(∃ o,h'.get? e=some o/\o.cls=.type "StopIteration")->E (.ref e) { s with heap:=h',toks:=tk }) :
  wpAny (model prog w) A (Builtin.«zip.__next__» ⟨[.ref z],[]⟩) Q E s:=by
 change wpAny _ _ (field (.ref z) 2 >>= _) _ _ _
 refine wpAny_bind (wpAny_field hz rfl (x:=.bool false) rfl ?_)
 change wpAny _ _ (field (.ref z) 3 >>= _) _ _ _
 refine wpAny_bind (wpAny_field hz rfl (x:=.ref TI) rfl ?_)
 refine wpAny_bind (wpAny_seqItems hI rfl ?_)
 change wpAny _ _ (Builtin.SmallTypes.ownedTupleIsFree (.ref z) >>= _) _ _ _
 refine wpAny_bind ?_
 unfold Builtin.SmallTypes.ownedTupleIsFree
 refine wpAny_bind (wpAny_field hz rfl (x:=.none) rfl (wpAny_pure ?_))
 simp only [if_true]
 refine wpAny_bind (wpAny_rule ?_)
 refine wpAny_bind (wpAny_field hz rfl (x:=.ref TO) rfl ?_)
 refine wpAny_bind (wpAny_setField_rec hz (by simp) fun g1 z1 m1=>?_)
 replace z1:IsZip g1 z TI TO .ellipsis:=z1
 refine wpAny_bind ?_
 simp only [List.zipIdx_cons,List.zipIdx_nil,List.forIn_cons,List.forIn_nil]
 refine wpAny_bind (wpAny_bind (wpAny_onRaise ?_))
 change wpAny _ _ (Builtin.SmallTypes.nextOf (.ref i1) >>= _) _ _ _
 have s1':S1 k g1:=D1.frame _ _ _ s1 fun c hc o e=>m1.extBut c o (fun q=>Z.b1 (q ▸ hc)) e
 by_cases c1:k=n1
 ·subst c1
  refine wpAny_bind (D1.done _ _ _ s1' fun g2 e m2 he=>?_)
  obtain ⟨oe,he1,he2⟩:=he
  have z2:IsZip g2 z TI TO .ellipsis:=m2 _ _ Z.a3.symm z1
  have nez:e≠z:=fun q=>by subst q; rw [z2] at he1; cases he1; simp at he2
  exact wpAny_setField_rec z2 (by simp) fun g3 _ m3=>hE g3 e _ (fun c o c1 c2 c3 c4 q=>m3.extBut _ _ c1 (m2 _ _ c3 (m1.extBut _ _ c1 q))) ⟨oe,m3.extBut _ _ nez he1,he2⟩
 ·have c2:k=n2:=ke.resolve_left c1
  subst c2
  refine wpAny_bind (D1.item k _ _ _ (by omega) s1' fun x g2 t2 px s12 m2=>wpAny_pure ?_)
  have o2:IsPair g2 TO a b:=m2.extBut _ _ Z.a8 (m1.extBut _ _ Z.a2 hO)
  refine wpAny_bind (wpAny_seqItems o2 rfl ?_)
  refine wpAny_bind (wpAny_updateSeq_pair o2 fun g3 o3 m3=>?_)
  refine wpAny_bind (wpAny_letGo (wpAny_pure ?_))
  refine wpAny_bind (wpAny_bind (wpAny_onRaise ?_))
  change wpAny _ _ (Builtin.SmallTypes.nextOf (.ref i2) >>= _) _ _ _
  refine wpAny_bind (D2.done _ _ _ (D2.frame _ _ _ s2 fun c hc o e=>m3.extBut c o (fun q=>Z.b4 (q ▸ hc)) (m2.extBut c o (fun q=>Z.b5 (q ▸ hc)) (m1.extBut c o (fun q=>Z.b2 (q ▸ hc)) e))) fun g4 e m4 he=>?_)
  obtain ⟨oe,he1,he2⟩:=he
  have z4:IsZip g4 z TI TO .ellipsis:=m4 _ _ Z.a4.symm (m3.extBut _ _ Z.a2.symm (m2.extBut _ _ Z.a3.symm z1))
  have nez:e≠z:=fun q=>by subst q; rw [z4] at he1; cases he1; simp at he2
  exact wpAny_setField_rec z4 (by simp) fun g5 _ m5=>hE g5 e _ (fun c o c1 c2 c3 c4 q=>m5.extBut _ _ c1 (m4 _ _ c4 (m3.extBut _ _ c2 (m2.extBut _ _ c3 (m1.extBut _ _ c1 q))))) ⟨oe,m5.extBut _ _ nez he1,he2⟩
end
abbrev zq1 (h:Heap) (t:Addr):Heap:=h.push { cls:=.type "tuple_iterator",data:=.fields #[.ref t,.int 0 0] }
abbrev zq2 (h:Heap) (t l:Addr):Heap:=(zq1 h t).push { cls:=.type "list_iterator",data:=.fields #[.ref l,.int 0 0] }
abbrev zq3 (h:Heap) (t l:Addr):Heap:=(zq2 h t l).push { cls:=.type "tuple",data:=.seq #[.ref h.objs.size,.ref (zq1 h t).objs.size] }
abbrev zq4 (h:Heap) (t l:Addr):Heap:=(zq3 h t l).push { cls:=.type "tuple",data:=.seq #[.none,.none] }
abbrev zq5 (h:Heap) (t l:Addr):Heap:=(zq4 h t l).push { cls:=.type "zip",data:=.fields #[.none,.bool false,.bool false,.ref (zq2 h t l).objs.size,.ref (zq3 h t l).objs.size] }
theorem zJN (t l:Addr) (xs ys:Array Value) :
  Meets (Builtin.«zip.__new__» ⟨[.type "zip",.ref t,.ref l],[]⟩) (fun _ R s=>s.heap.IsTuple t xs/\s.heap.IsList l ys/\R (.ok (.ret (.ref (zq4 s.heap t l).objs.size))) { s with heap:=zq5 s.heap t l }):=
 .of_wp fun prog w A R s h=>by
  obtain ⟨hp,g,d,tk,os⟩:=s; obtain ⟨h1,h2,h⟩:=h
  have hsub:=sub_zip
  have e1:Heap.IsTuple (Shared.heap ⟨hp,g,d,tk,os⟩) t xs:=h1
  have e2:Heap.IsList (Shared.heap ⟨hp.push { cls:=.type "tuple_iterator",data:=.fields #[.ref t,.int 0 0] },g,d,tk,os⟩) l ys:=Heap.IsList.push h2 _
  wp_walk using wpAny_pyIter_tuple e1,wpAny_pyIter_list e2
  exact ⟨_,rfl,h⟩
theorem zIa {prog:Program} {w:World} {A:Around} {E:Value->Shared->Prop} {s:Shared} {t l:Addr} {xs ys:Array Value} {Q:Value->Shared->Prop} (h1:s.heap.IsTuple t xs) (h2:s.heap.IsList l ys)
  (h:∀ h',IsZip h' (s.heap.objs.size + 4) (s.heap.objs.size + 2) (s.heap.objs.size + 3) .none->IsPair h' (s.heap.objs.size + 2) (.ref s.heap.objs.size) (.ref (s.heap.objs.size + 1))->IsPair h' (s.heap.objs.size + 3) .none .none->
   h'.IsTupleIter s.heap.objs.size t 0->h'.IsListIter (s.heap.objs.size + 1) l 0->(∀ c o,s.heap.get? c=some o->h'.get? c=some o)->Q (.ref (s.heap.objs.size + 4)) { s with heap:=h' }) :
  wpAny (model prog w) A (call (.type "zip") [.ref t,.ref l]) Q E s:=by
 refine callType_new F.called_zip (by decide) (F.typeCall_zip_2 _ _) (F.newCall_zip_2 _ _) (fun obj=>F.args_object_init_3 obj _ _) F.entry_zip_new (zJN t l xs ys) ⟨h1,h2,?_⟩
 have n1:(zq1 s.heap t).objs.size=s.heap.objs.size + 1:=Heap.size_push ..
 have n2:(zq2 s.heap t l).objs.size=s.heap.objs.size + 2:=by rw [Heap.size_push,n1]
 have n3:(zq3 s.heap t l).objs.size=s.heap.objs.size + 3:=by rw [Heap.size_push,n2]
 have n4:(zq4 s.heap t l).objs.size=s.heap.objs.size + 4:=by rw [Heap.size_push,n3]
 have p5:(zq5 s.heap t l).get? (zq4 s.heap t l).objs.size=some _:=Heap.get?_push_size _ rfl
 have p4:(zq5 s.heap t l).get? (zq3 s.heap t l).objs.size=some _:=Heap.get?_push_of_some _ (Heap.get?_push_size _ rfl)
 have p3:(zq5 s.heap t l).get? (zq2 s.heap t l).objs.size=some _:=Heap.get?_push_of_some _ (Heap.get?_push_of_some _ (Heap.get?_push_size _ rfl))
 have p2:(zq5 s.heap t l).get? (zq1 s.heap t).objs.size=some _:=Heap.get?_push_of_some _ (Heap.get?_push_of_some _ (Heap.get?_push_of_some _ (Heap.get?_push_size _ rfl)))
 have p1:(zq5 s.heap t l).get? s.heap.objs.size=some _:=Heap.get?_push_of_some _ (Heap.get?_push_of_some _ (Heap.get?_push_of_some _ (Heap.get?_push_of_some _ (Heap.get?_push_size _ rfl))))
 change _/\_
 rw [n2,n3,n4] at p5
 rw [n1,n2] at p3
 rw [n3] at p4
 rw [n1] at p2
 rw [n4]
 exact ⟨⟨_,p5,rfl⟩,h _ p5 p3 p4 ⟨_,p1,rfl,rfl⟩ ⟨_,p2,rfl,rfl⟩ fun c o x=>Heap.get?_push_of_some _ (Heap.get?_push_of_some _ (Heap.get?_push_of_some _ (Heap.get?_push_of_some _ (Heap.get?_push_of_some _ x))))⟩
section
variable {prog:Program} {w:World} {A:Around} {E:Value->Shared->Prop} {s:Shared}
theorem zFZ {z TI TO i1 i2:Addr} {f1 f2:List Addr} {n1 n2 k:Nat} {P1 P2:Nat->Value->Prop} {S1 S2:Nat->Heap->Prop} {a b:Value} {Q:Option Value->Shared->Prop}
  (D1:Draws prog w A.in1 i1 f1 n1 P1 S1) (D2:Draws prog w A.in1 i2 f2 n2 P2 S2) (Z:Zp z TI TO i1 i2 f1 f2) (hz:IsZip s.heap z TI TO .none) (hI:IsPair s.heap TI (.ref i1) (.ref i2)) (hO:IsPair s.heap TO a b)
  (s1:S1 k s.heap) (s2:S2 k s.heap) (k1:k < n1) (k2:k < n2)
  (hQ:∀ x y h' tk,P1 k x->P2 k y->IsZip h' z TI TO (rawInt s.heap.objs.size)->IsPair h' TI (.ref i1) (.ref i2)->IsPair h' TO x y->S1 (k + 1) h'->S2 (k + 1) h'->IsPair h' s.heap.objs.size x y->
   (∀ c o,c≠z->c≠TO->c≠i1->c≠i2->s.heap.get? c=some o->h'.get? c=some o)->Q (some (.ref s.heap.objs.size)) { s with heap:=h',toks:=tk }) :
  wpAny (model prog w) A (pyNext (.ref z)) Q E s:=by
 have ty:s.TypeIs (.ref z) "zip":=⟨_,hz,rfl⟩
 unfold pyNext
 refine wpAny_bind (wpAny_attempt (wpAny_callSpecial?_slot (name:=Str.ofString "__next__") ty F.slot_zip_next (wpAny_call_entry F.slot_zip_next ty F.entry_zip_next ?_ (F.args_zip_next_1 _))))
 exact zLn D1 D2 Z hz hI hO s1 s2 k1 k2 fun x y h' tk c1 c2 c3 c4 c5 c6 c7 c8 c9=>wpAny_pure (hQ x y h' tk c1 c2 c3 c4 c5 c6 c7 c8 c9)
theorem zGt {z TI TO i1 i2:Addr} {f1 f2:List Addr} {n1 n2 k:Nat} {P1 P2:Nat->Value->Prop} {S1 S2:Nat->Heap->Prop} {a b:Value} {Q:Option Value->Shared->Prop}
  (D1:Draws prog w A.in1 i1 f1 n1 P1 S1) (D2:Draws prog w A.in1 i2 f2 n2 P2 S2) (Z:Zp z TI TO i1 i2 f1 f2) (hz:IsZip s.heap z TI TO .none) (hI:IsPair s.heap TI (.ref i1) (.ref i2)) (hO:IsPair s.heap TO a b)
  (s1:S1 k s.heap) (s2:S2 k s.heap) (k1:k<=n1) (k2:k<=n2) (ke:k=n1\/k=n2)
  (hQ:∀ h' tk,(∀ c o,c≠z->c≠TO->c≠i1->c≠i2->s.heap.get? c=some o->h'.get? c=some o)->Q none { s with heap:=h',toks:=tk }) :
  wpAny (model prog w) A (pyNext (.ref z)) Q E s:=by
 have ty:s.TypeIs (.ref z) "zip":=⟨_,hz,rfl⟩
 unfold pyNext
 refine wpAny_bind (wpAny_attempt (wpAny_callSpecial?_slot (name:=Str.ofString "__next__") ty F.slot_zip_next (wpAny_call_entry F.slot_zip_next ty F.entry_zip_next
  (zLm D1 D2 Z hz hI hO s1 s2 k1 k2 ke fun h' e tk keep he=>?_) (F.args_zip_next_1 _))))
 obtain ⟨o,ho,hc⟩:=he
 refine wpAny_bind (wpAny_isInstance (T:="StopIteration") (b:=true) ⟨o,ho,hc⟩ isSubtype_stop ?_)
 exact wpAny_pure (hQ _ _ keep)
end
end L2
namespace L2
open PySem PySem.Spec PyProof.Rows
def Itz (K:PySem.W.Frag) (a b:Addr):It:=
 ⟨fun i H=>∃ xs ys x y,SqT K H a xs/\SqL K H b ys/\xs[i]? = some x/\ys[i]? = some y,
  fun i H v H'=>∃ T x y,v=.ref T/\H T=none/\H'=upd H T (.tup [x,y])/\(∀ xs,SqT K H a xs->xs[i]? = some x)/\∀ ys,SqL K H b ys->ys[i]? = some y,
  fun i H=>∃ xs ys,SqT K H a xs/\SqL K H b ys/\i<=xs.length/\i<=ys.length/\(i=xs.length\/i=ys.length)⟩
theorem zAl {vs:Array Value} (v:Option Value):Data.fields vs≠Data.cell v:=fun z=>by cases z
theorem zBw {vs:Array Value} {n:Nat} (v:Option Value):Data.seq vs n≠Data.cell v:=fun z=>by cases z
theorem Inv.turnT {X:Cx} {pins:List (Addr × Obj)} {σ:St} {H:Hp} {s:Shared} {h':Heap} {tk:Nat} {ch:List Addr} {T:Addr} {x y:V} {u v:Value} (I:Inv X pins σ H s) (hf:∀ b∈ch,FpOk X pins H b) (keep:∀ b o,b∉ch->s.heap.get? b=some o->h'.get? b=some o)
  (hT:s.heap.objs.size<=T) (p:IsPair h' T u v) (rx:RelV x u) (ry:RelV y v):Inv X pins σ (upd H T (.tup [x,y])) { s with heap:=h',toks:=tk }:=by
 have fr:H T=none:=I.hok.fresh hT
 have nT:∀ b o,s.heap.get? b=some o->b≠T:=fun b o e z=>by rw [z] at e; exact absurd (Nat.lt_of_lt_of_le (Heap.lt_size e) hT) (Nat.lt_irrefl _)
 have trk:∀ b o,H b=some o->b∉ch:=fun b o e z=>by rw [(hf b z).1] at e; cases e
 refine I.step (ch:=ch) (fun b hb=>⟨(hf b hb).2.2.2.1,(hf b hb).2.1,(hf b hb).2.2.2.2.1,(hf b hb).2.2.2.2.2⟩) (fun b o _ _ hc e _=>keep b o hc e) (fun b o _ _ hc e _=>⟨o.slots,keep b o hc e⟩)
  (fun b o _ e n=>by rw [zAW (nT b o e)]; exact n) (fun b o hc e=>⟨o,keep b o hc e⟩) (fun b xs e=>by rw [zAW (zAo e fr)]; exact e) (fun b o w e=>by rw [zAW (zAo e fr)]; exact e)
  (fun b ps e=>⟨#[],by rw [zAW (zAo e fr),e]; simp⟩) (fun m hm=>?_) (fun b w e=>?_) I.bare
 ·obtain ⟨o,es,ep,ho,r⟩:=hm
  exact ⟨o,es,ep,keep _ o (fun z=>(hf _ z).2.1 rfl) ho,r⟩
 ·by_cases hb:b=T
  ·subst hb
   rw [zAF] at e
   cases e
   exact ⟨by show 2<=sizeLine; decide,[u,v],.cons rx (.cons ry .nil),⟨_,p,rfl,_,rfl⟩⟩
  ·rw [zAW hb] at e
   refine (I.hok b w e).stay (fun c q hc ec=>keep c q ?_ ec) (fun c ec=>by rw [zAW (zAo ec fr)]; exact ec) fun c xs ec=>by rw [zAW (zAo ec fr)]; exact ec
   rcases hc with z | z
   ·rw [z]
    exact trk b w e
   ·exact trk c _ z
theorem Inv.turnN {X:Cx} {pins:List (Addr × Obj)} {σ:St} {H:Hp} {s:Shared} {h':Heap} {tk:Nat} {ch:List Addr} (I:Inv X pins σ H s) (hf:∀ b∈ch,FpOk X pins H b) (keep:∀ b o,b∉ch->s.heap.get? b=some o->h'.get? b=some o) :
  Inv X pins σ H { s with heap:=h',toks:=tk }:=by
 have trk:∀ b o,H b=some o->b∉ch:=fun b o e z=>by rw [(hf b z).1] at e; cases e
 refine I.step (ch:=ch) (fun b hb=>⟨(hf b hb).2.2.2.1,(hf b hb).2.1,(hf b hb).2.2.2.2.1,(hf b hb).2.2.2.2.2⟩) (fun b o _ _ hc e _=>keep b o hc e) (fun b o _ _ hc e _=>⟨o.slots,keep b o hc e⟩)
  (fun b o _ e n=>n) (fun b o hc e=>⟨o,keep b o hc e⟩) (fun b xs e=>e) (fun b o w e=>e) (fun b ps e=>⟨#[],by rw [e]; simp⟩) (fun m hm=>?_) (fun b w e=>?_) I.bare
 ·obtain ⟨o,es,ep,ho,r⟩:=hm
  exact ⟨o,es,ep,keep _ o (fun z=>(hf _ z).2.1 rfl) ho,r⟩
 ·refine (I.hok b w e).stay (fun c q hc ec=>keep c q ?_ ec) (fun c ec=>ec) fun c xs ec=>ec
  rcases hc with z | z
  ·rw [z]
   exact trk b w e
  ·exact trk c _ z
theorem zLo {P:Program} {w:World} {K:PySem.W.Frag} {es:List Expr} {kk:Nat} {tp:Pos} {a b z TI TO i1 i2:Addr} (Z:Zp z TI TO i1 i2 [i1,a] [i2,b]) (na:a≠i1) (nb:b≠i2) :
  Turn P w K (.Tuple es kk tp) (Itz K a b) [z,TI,TO,i1,i2] z (fun i h=>IsZip h z TI TO .none/\IsPair h TI (.ref i1) (.ref i2)/\(∃ x y,IsPair h TO x y)/\h.IsTupleIter i1 a i/\h.IsListIter i2 b i) where
 mem:=by simp
 obj:=fun i h ⟨t1,t2,⟨x,y,t3⟩,t4,t5⟩ c hc=>by
  simp only [List.mem_cons,List.not_mem_nil,or_false] at hc
  rcases hc with rfl | rfl | rfl | rfl | rfl
  ·exact ⟨_,t1,zAl⟩
  ·exact ⟨_,t2,zBw⟩
  ·exact ⟨_,t3,zBw⟩
  ·obtain ⟨o,e,_,d⟩:=t4
   exact ⟨o,e,by rw [d]; exact zAl⟩
  ·obtain ⟨o,e,_,d⟩:=t5
   exact ⟨o,e,by rw [d]; exact zAl⟩
 keep:=fun i h h' ⟨t1,t2,⟨x,y,t3⟩,t4,t5⟩ k=>⟨k z (by simp) _ t1,k TI (by simp) _ t2,⟨x,y,k TO (by simp) _ t3⟩,(by obtain ⟨o,e,r⟩:=t4; exact ⟨o,k i1 (by simp) o e,r⟩),(by obtain ⟨o,e,r⟩:=t5; exact ⟨o,k i2 (by simp) o e,r⟩)⟩
 item:=by
  intro X hP hw hK hc i pins s σ H E I hf ⟨t1,t2,⟨x0,y0,t3⟩,t4,t5⟩ hg
  subst hP hw hK
  obtain ⟨xs,ys,x,y,hq1,hq2,hx,hy⟩:=hg
  obtain ⟨its1,rv1,p1,_⟩:=I.tuple hq1
  obtain ⟨its2,rv2,p2,_⟩:=I.list hq2
  obtain ⟨u,hu,ru⟩:=rv1.get hx
  obtain ⟨v,hv,rv⟩:=rv2.get hy
  have hh:X.A.in1.handled=none:=I.ok.hd hc
  have l1:i < its1.toArray.size:=by rw [List.size_toArray]; exact (List.getElem?_eq_some_iff.mp hu).1
  have l2:i < its2.toArray.size:=by rw [List.size_toArray]; exact (List.getElem?_eq_some_iff.mp hv).1
  refine zFZ (zCm hh i1 a na its1.toArray) (Draws.list hh i2 b nb its2.toArray) Z t1 t2 t3 ⟨t4,p1⟩ ⟨t5,p2.isList⟩ l1 l2 ?_
  intro x' y' h1 tk px py z1 z2 z3 z4 z5 z6 keep
  have ex:x'=u:=by
   have q:its1.toArray[i]? = some x':=px
   simp only [List.getElem?_toArray] at q
   rw [hu] at q
   exact (Option.some.inj q).symm
  have ey:y'=v:=by
   have q:its2.toArray[i]? = some y':=py
   simp only [List.getElem?_toArray] at q
   rw [hv] at q
   exact (Option.some.inj q).symm
  subst ex ey
  refine ⟨_,rfl,wpAny_letOwnedTupleGo_zip (s:={ s with heap:=h1,toks:=tk }) z1 fun h2 z7 sb=>?_⟩
  have zlt:z < s.heap.objs.size:=Heap.lt_size t1
  have keep2:∀ c o,c∉[z,TI,TO,i1,i2]->s.heap.get? c=some o->h2.get? c=some o:=fun c o hc e=>by
   simp only [List.mem_cons,List.not_mem_nil,or_false,not_or] at hc
   exact sb.extBut c o hc.1 (keep c o hc.1 hc.2.2.1 hc.2.2.2.1 hc.2.2.2.2 e)
  have pT:IsPair h2 s.heap.objs.size x' y':=sb.extBut _ _ (Nat.ne_of_gt zlt) z6
  have I':=I.turnT (h':=h2) (tk:=tk) (ch:=[z,TI,TO,i1,i2]) (x:=x) (y:=y) hf keep2 (Nat.le_refl _) pT ru rv
  refine ⟨.ref s.heap.objs.size,_,I',rfl,⟨s.heap.objs.size,x,y,rfl,I.hok.fresh (Nat.le_refl _),rfl,fun xs' q=>by rw [I.tuple_inj q hq1]; exact hx,fun ys' q=>by rw [I.list_inj q hq2]; exact hy⟩,
   ⟨z7,sb.extBut _ _ Z.a1 z2,⟨_,_,sb.extBut _ _ Z.a2 z3⟩,z4.1.extBut sb.extBut Z.a3,z5.1.extBut sb.extBut Z.a4⟩,fun c hc=>?_⟩
  have:=(hf c hc).1
  rw [zAW]
  ·exact this
  ·intro q
   obtain ⟨o,e,_⟩:∃ o,s.heap.get? c=some o/\True:=by
    simp only [List.mem_cons,List.not_mem_nil,or_false] at hc
    rcases hc with rfl | rfl | rfl | rfl | rfl
    ·exact ⟨_,t1,trivial⟩
    ·exact ⟨_,t2,trivial⟩
    ·exact ⟨_,t3,trivial⟩
    ·obtain ⟨o,e,_⟩:=t4; exact ⟨o,e,trivial⟩
    ·obtain ⟨o,e,_⟩:=t5; exact ⟨o,e,trivial⟩
   rw [q] at e
   exact absurd (Heap.lt_size e) (Nat.lt_irrefl _)
 done:=by
  intro X hP hw hK hc i pins s σ H E I hf ⟨t1,t2,⟨x0,y0,t3⟩,t4,t5⟩ hg
  subst hP hw hK
  obtain ⟨xs,ys,hq1,hq2,e1,e2,e3⟩:=hg
  obtain ⟨its1,rv1,p1,_⟩:=I.tuple hq1
  obtain ⟨its2,rv2,p2,_⟩:=I.list hq2
  have hh:X.A.in1.handled=none:=I.ok.hd hc
  have n1:its1.toArray.size=xs.length:=by rw [List.size_toArray]; exact rv1.length.symm
  have n2:its2.toArray.size=ys.length:=by rw [List.size_toArray]; exact rv2.length.symm
  refine zGt (zCm hh i1 a na its1.toArray) (Draws.list hh i2 b nb its2.toArray) Z t1 t2 t3 ⟨t4,p1⟩ ⟨t5,p2.isList⟩ (by omega) (by omega) (by omega) ?_
  intro h1 tk keep
  refine ⟨rfl,I.turnN (h':=h1) (tk:=tk) (ch:=[z,TI,TO,i1,i2]) hf fun c o hc e=>?_⟩
  simp only [List.mem_cons,List.not_mem_nil,or_false,not_or] at hc
  exact keep c o hc.1 hc.2.2.1 hc.2.2.2.1 hc.2.2.2.2 e
 self:=fun _ _ _ _ _ st h=>wpAny_pyIter_zip st.1 h
theorem nin2 {x y z:Nat} (h1:x≠y) (h2:x≠z):x∉[y,z]:=by simp [h1,h2]
theorem zLh (n a b:Nat) (la:a < n) (lb:b < n):Zp (n + 4) (n + 2) (n + 3) n (n + 1) [n,a] [n + 1,b]:=by
 have e:∀ x y:Nat,x≠y->(x:Addr)≠y:=fun _ _ h=>h
 exact ⟨e _ _ (by omega),e _ _ (by omega),e _ _ (by omega),e _ _ (by omega),e _ _ (by omega),e _ _ (by omega),e _ _ (by omega),e _ _ (by omega),e _ _ (by omega),
  nin2 (by omega) (by omega),nin2 (by omega) (by omega),nin2 (by omega) (by omega),nin2 (by omega) (by omega),nin2 (by omega) (by omega),nin2 (by omega) (by omega)⟩
section
variable {X:Cx} {es:List Expr} {kk:Nat} {tp:Pos}
end
theorem zNM {K:PySem.W.Frag} {a b:Addr} {xs ys:List V} {g:TG} {tb:TS} {D:Ends} {σ:St} {H:Hp} (Pv:Nat->St->Hp->Prop) (h0:Pv 0 σ H) (hl:∀ i σ H,i<=xs.length->Pv i σ H->SqT K H a xs/\SqL K H b ys) (hlen:xs.length<=ys.length)
  (hs:∀ i x y T σ H,xs[i]? = some x->ys[i]? = some y->H T=none->Pv i σ H->g (.ref T) σ (upd H T (.tup [x,y])) fun σ2 H2=>tb { D with nx:=Pv (i + 1),ct:=Pv (i + 1),bk:=D.nx } σ2 H2) (hd:∀ σ H,Pv xs.length σ H->D.nx σ H) :
  ∃ W:Nat->Nat->St->Hp->Prop,(∃ m,W 0 m σ H)/\∀ i m σ H,W i m σ H->
   ((Itz K a b).stop i H/\D.nx σ H)\/((Itz K a b).go i H/\∃ N:St->Hp->Prop,(∀ σ' H',N σ' H'->∃ m',m' < m/\W (i + 1) m' σ' H')/\∀ x H',(Itz K a b).yld i H x H'->g x σ H' fun σ2 H2=>tb { D with nx:=N,ct:=N,bk:=D.nx } σ2 H2):=by
 refine ⟨fun i m σ H=>m=xs.length - i/\i<=xs.length/\Pv i σ H,⟨xs.length,by simp,Nat.zero_le _,h0⟩,?_⟩
 rintro i m σ H ⟨rfl,hi,p⟩
 obtain ⟨q1,q2⟩:=hl i σ H hi p
 by_cases hlt:i < xs.length
 ·have hlt2:i < ys.length:=by omega
  refine .inr ⟨⟨xs,ys,xs[i],ys[i],q1,q2,by simp [hlt],by simp [hlt2]⟩,Pv (i + 1),fun σ' H' p'=>⟨xs.length - (i + 1),by omega,rfl,hlt,p'⟩,fun v H' y=>?_⟩
  obtain ⟨T,x,y,rfl,hT,rfl,c1,c2⟩:=y
  exact hs i x y T σ H (c1 xs q1) (c2 ys q2) hT p
 ·have e:i=xs.length:=by omega
  subst e
  exact .inl ⟨⟨xs,ys,q1,q2,Nat.le_refl _,hlen,.inl rfl⟩,hd σ H p⟩
end L2
namespace L2
open PySem PySem.Spec PyProof.Rows
section
variable {κ:Type} [DecidableEq κ]
def valV (kvs:List (κ × V)) (k:κ):Option V:=(kvs.find? fun kv=>decide (kv.1=k)).map (·.2)
def putK (kvs:List (κ × V)) (k:κ) (v:V):List (κ × V):=
 if (kvs.any fun kv=>decide (kv.1=k))=true then kvs.map (fun kv=>if kv.1=k then (kv.1,v) else kv) else kvs++[(k,v)]
theorem zFa {p:κ × V} {r:List (κ × V)} {k:κ} (e:p.1=k):valV (p :: r) k=some p.2:=by simp [valV,List.find?_cons,e]
theorem zFb {p:κ × V} {r:List (κ × V)} {k:κ} (e:¬ p.1=k):valV (p :: r) k=valV r k:=by simp [valV,List.find?_cons,e]
theorem zGv (k:κ):∀ kvs:List (κ × V),(kvs.any fun kv=>decide (kv.1=k))=(valV kvs k).isSome
 | []=>rfl
 | p :: r=>by
  rw [List.any_cons]
  by_cases e:p.1=k
  ·simp only [zFa e,decide_eq_true e,Bool.true_or,Option.isSome_some]
  ·rw [zFb e,decide_eq_false e,Bool.false_or]; exact zGv k r
theorem zGD (kvs:List (κ × V)) (k:κ) (v:V):(putK kvs k v).length<=kvs.length + 1:=by
 unfold putK
 split
 ·rw [List.length_map]; omega
 ·rw [List.length_append,List.length_cons,List.length_nil]; omega
theorem RelO.isSome_eq {o:Option V} {u:Option Value} (r:RelO o u):o.isSome=u.isSome:=by
 cases o with
 | none=>cases u with
  | none=>rfl
  | some _=>exact (show False from r).elim
 | some _=>cases u with
  | none=>exact (show False from r).elim
  | some _=>rfl
theorem KV.val {kvs:List (κ × V)} {vs:List (κ × Value)} (r:KV kvs vs) (k:κ):RelO (valV kvs k) (valueAt vs k):=by
 unfold KV at r
 induction r with
 | nil=>exact True.intro
 | @cons p q ps qs h t ih=>
  obtain ⟨h1,h2⟩:=h
  by_cases e:p.1=k
  ·have e':q.1=k:=h1.symm.trans e
   have b:valueAt (q :: qs) k=some q.2:=by simp [valueAt,List.find?_cons,e']
   rw [zFa e,b]; exact h2
  ·have e':¬ q.1=k:=fun z=>e (h1.trans z)
   have b:valueAt (q :: qs) k=valueAt qs k:=by simp [valueAt,List.find?_cons,e']
   rw [zFb e,b]; exact ih
theorem KV.any {kvs:List (κ × V)} {vs:List (κ × Value)} (r:KV kvs vs) (k:κ):(kvs.any fun kv=>decide (kv.1=k))=vs.any fun kv=>decide (kv.1=k):=by
 unfold KV at r
 induction r with
 | nil=>rfl
 | cons h t ih=>rw [List.any_cons,List.any_cons,ih,h.1]
theorem KV.repl {kvs:List (κ × V)} {vs:List (κ × Value)} (r:KV kvs vs) (k:κ) {y:V} {u:Value} (ry:RelV y u) :
  KV (kvs.map fun kv=>if kv.1=k then (kv.1,y) else kv) (vs.map fun kv=>if kv.1=k then (kv.1,u) else kv):=by
 unfold KV at r |-
 induction r with
 | nil=>exact .nil
 | @cons p q ps qs h t ih=>
  rw [List.map_cons,List.map_cons]
  refine .cons ?_ ih
  obtain ⟨h1,h2⟩:=h
  by_cases e:p.1=k
  ·rw [if_pos e,if_pos (h1.symm.trans e)]; exact ⟨h1,ry⟩
  ·rw [if_neg e,if_neg (fun z=>e (h1.trans z))]; exact ⟨h1,h2⟩
theorem KV.put {kvs:List (κ × V)} {vs:List (κ × Value)} (r:KV kvs vs) (k:κ) {y:V} {u:Value} (ry:RelV y u):KV (putK kvs k y) (stored vs k u):=by
 unfold putK stored
 rw [r.any k]
 by_cases e:(vs.any fun kv=>decide (kv.1=k))=true
 ·rw [if_pos e,if_pos e]; exact r.repl k ry
 ·rw [if_neg e,if_neg e]; exact Paired.snoc r ⟨rfl,ry⟩
theorem KV.length {kvs:List (κ × V)} {vs:List (κ × Value)} (r:KV kvs vs):kvs.length=vs.length:=Paired.length r
end
theorem zMG {P:Program} {w:World} {k:Key} {u:Value} (r:RelV (kV k) u):(zCS P w).is k u=true:=by
 cases k with
 | inl i=>obtain ⟨t,e⟩:=(show ∃ t,u=Value.int i t from r); subst e; exact zIQ P w i t
 | inr x=>obtain ⟨t,e⟩:=(show ∃ t,u=Value.str x t from r); subst e; exact zIP P w x t
theorem zHi {P:Program} {w:World}:∀ {ks:List Key} {us:List Value},Vals (ks.map kV) us->ItemsAre (zCS P w) ks us
 | [],_,r=>by rw [List.map_nil] at r; cases r; exact .nil
 | k :: ks,_,r=>by
  rw [List.map_cons] at r
  cases r with
  | cons h t=>exact .cons (zMG h) (zHi t)
abbrev KT (H:Hp):List (List Key × V)->List (List Key × Addr × Value)->Prop:=Paired fun p q=>p.1=q.1/\H q.2.1=some (.tup (p.1.map kV))/\RelV p.2 q.2.2
theorem KT.val {H:Hp} {kvs:List (List Key × V)} {xs:List (List Key × Addr × Value)} (r:KT H kvs xs) (k:List Key):RelO (valV kvs k) ((atKey xs k).map (·.2)):=by
 induction r with
 | nil=>exact True.intro
 | @cons p q ps qs h t ih=>
  obtain ⟨h1,_,h2⟩:=h
  by_cases e:p.1=k
  ·have e':q.1=k:=h1.symm.trans e
   have b:atKey (q :: qs) k=some q.2:=by simp [atKey,List.find?_cons,e']
   rw [zFa e,b]; exact h2
  ·have e':¬ q.1=k:=fun z=>e (h1.trans z)
   have b:atKey (q :: qs) k=atKey qs k:=by simp [atKey,List.find?_cons,e']
   rw [zFb e,b]; exact ih
theorem KT.repl {H:Hp} {kvs:List (List Key × V)} {xs:List (List Key × Addr × Value)} (r:KT H kvs xs) (k:List Key) {y:V} {u:Value} (ry:RelV y u) :
  KT H (kvs.map fun kv=>if kv.1=k then (kv.1,y) else kv) (xs.map (putAt k u)):=by
 induction r with
 | nil=>exact .nil
 | @cons p q ps qs h t ih=>
  rw [List.map_cons,List.map_cons]
  refine .cons ?_ ih
  obtain ⟨h1,h2,h3⟩:=h
  unfold putAt
  by_cases e:p.1=k
  ·rw [if_pos e,if_pos (h1.symm.trans e)]; exact ⟨h1,h2,ry⟩
  ·rw [if_neg e,if_neg (fun z=>e (h1.trans z))]; exact ⟨h1,h2,h3⟩
theorem KT.put {H:Hp} {kvs:List (List Key × V)} {xs:List (List Key × Addr × Value)} (r:KT H kvs xs) (k:List Key) {b:Addr} {y:V} {u:Value} (hb:H b=some (.tup (k.map kV))) (ry:RelV y u) :
  KT H (putK kvs k y) (storedH xs k b u):=by
 have e:(kvs.any fun kv=>decide (kv.1=k))=(atKey xs k).isSome:=by
  rw [zGv,(r.val k).isSome_eq,Option.isSome_map]
 unfold putK storedH
 rw [e]
 by_cases q:(atKey xs k).isSome=true
 ·rw [if_pos q,if_pos q]; exact r.repl k ry
 ·rw [if_neg q,if_neg q]; exact Paired.snoc r ⟨rfl,hb,ry⟩
theorem KT.keeps {H H':Hp} {kvs:List (List Key × V)} {xs:List (List Key × Addr × Value)} (r:KT H kvs xs) (ht:∀ b ys,H b=some (.tup ys)->H' b=some (.tup ys)):KT H' kvs xs:=
 Paired.mapP r fun _ _ z=>⟨z.1,ht _ _ z.2.1,z.2.2⟩
section
variable {P:Program} {w:World} {H:Hp} {h:Heap} {a:Addr}
theorem zNv {u:HO} (ok:HOk P w H h) (e:Rd H a u):zB5 P w H h a u:=e.ok ok
theorem zMO {kvs:List (Key × V)} (ok:HOk P w H h) (e:Rd H a (.dK kvs)):kvs.length<=sizeLine/\(a == sysModules)=false/\∃ vs,KV kvs vs/\h.DictOf (zCS P w) a vs:=
 show zB5 P w H h a (.dK kvs) from zNv ok e
theorem dk_of {kvs:List (Key × V)} (ok:HOk P w H h) (e:H a=some (.dK kvs)):kvs.length<=sizeLine/\(a == sysModules)=false/\∃ vs,KV kvs vs/\h.DictOf (zCS P w) a vs:=zMO ok (.inl e)
theorem zI2 {ks:List Key} (ok:HOk P w H h) (e:H a=some (.tup (ks.map kV))):(tupleKind (zCS P w)).is h ks a:=by
 obtain ⟨_,its,r,o,h1,h2,n,h3⟩:=(show zB5 P w H h a (.tup (ks.map kV)) from ok a _ e)
 exact ⟨o,its.toArray,n,h1,h2,h3,by simpa using zHi r⟩
theorem zML {kvs:List (List Key × V)} (ok:HOk P w H h) (e:Rd H a (.dT kvs)):kvs.length<=sizeLine/\(a == sysModules)=false∧
  ∃ xs,KT H kvs xs/\h.DictOfH (tupleKind (zCS P w)) a xs:=by
 obtain ⟨z,y,xs,r,o,es,ep,h1,h2,h3,h4,h5⟩:=(show zB5 P w H h a (.dT kvs) from zNv ok e)
 refine ⟨z,y,xs,r,o,es,ep,h1,h2,h3,h4,fun x hx=>?_,h5⟩
 have all:∀ {l:List (List Key × V)} {m:List (List Key × Addr × Value)},KT H l m->∀ x∈m,(tupleKind (zCS P w)).is h x.1 x.2.1:=by
  intro l m q
  induction q with
  | nil=>intro x hx; exact nomatch hx
  | @cons p q ps qs hq t ih=>
   intro x hx
   rcases List.mem_cons.mp hx with e | hx
   ·subst e
    exact zI2 ok (by rw [<- hq.1]; exact hq.2.1)
   ·exact ih x hx
 exact all r x hx
theorem dt_of {kvs:List (List Key × V)} (ok:HOk P w H h) (e:H a=some (.dT kvs)):kvs.length<=sizeLine/\(a == sysModules)=false∧
  ∃ xs,KT H kvs xs/\h.DictOfH (tupleKind (zCS P w)) a xs:=zML ok (.inl e)
end
def DGet (H:Hp) (a:Addr) (y:V) (r:Option V):Prop:=
 (∃ kvs k,Rd H a (.dK kvs)/\y=kV k/\r=valV kvs k)\/∃ kvs k b,Rd H a (.dT kvs)/\y=.ref b/\H b=some (.tup (k.map kV))/\r=valV kvs k
def DPut (H:Hp) (a:Addr) (y v:V) (H':Hp):Prop:=
 (∃ kvs k,H a=some (.dK kvs)/\y=kV k/\kvs.length < sizeLine/\H'=upd H a (.dK (putK kvs k v)))∨
 ∃ kvs k b,H a=some (.dT kvs)/\y=.ref b/\H b=some (.tup (k.map kV))/\kvs.length < sizeLine/\H'=upd H a (.dT (putK kvs k v))
theorem DGet.t {H:Hp} {a b:Addr} {kvs:List (List Key × V)} {k:List Key} (e:H a=some (.dT kvs)) (eb:H b=some (.tup (k.map kV))):DGet H a (.ref b) (valV kvs k):=.inr ⟨kvs,k,b,.inl e,rfl,eb,rfl⟩
theorem DPut.t {H:Hp} {a b:Addr} {kvs:List (List Key × V)} {k:List Key} {v:V} (e:H a=some (.dT kvs)) (eb:H b=some (.tup (k.map kV))) (hl:kvs.length < sizeLine) :
  DPut H a (.ref b) v (upd H a (.dT (putK kvs k v))):=.inr ⟨kvs,k,b,e,rfl,eb,hl,rfl⟩
section
variable {X:Cx} {pins:List (Addr × Obj)} {σ:St} {H:Hp} {s:Shared} {a:Addr} {y v:V} {u r:Value} {o:Option V} {A:Around} {E:Value->Shared->Prop}
theorem Inv.big (I:Inv X pins σ H s):sysModules < s.heap.objs.size:=by
 have h:mainGlobals < s.heap.objs.size:=(I.mod.glob.keeps I.bk).lt
 exact Nat.lt_trans (by decide) h
theorem zLR {Q:Value->Shared->Prop} (hu:A.units + 1 < cLine) (I:Inv X pins σ H s) (g:DGet H a y (some v)) (ry:RelV y u) (h:∀ w' s',Inv X pins σ H s'->RelV v w'->Q w' s') :
  wpAny (model X.prog X.w) A (getItem (.ref a) u) Q E s:=by
 rcases g with ⟨kvs,k,e,ey,l⟩ | ⟨kvs,k,b,e,ey,eb,l⟩
 ·subst ey
  obtain ⟨z,hd,vs,rel,dd⟩:=zMO I.hok e
  obtain ⟨w',hw,rw'⟩:=RelO.some_of (v:=v) (o:=valueAt vs k) (by rw [l]; exact rel.val k)
  exact wpAny_getItem_of (zMG ry) dd.mapOf hw (h w' _ (I.tok _) rw')
 ·subst ey
  cases (show u=Value.ref b from ry)
  obtain ⟨z,hd,xs,rel,dd⟩:=zML I.hok e
  obtain ⟨w',hw,rw'⟩:=RelO.some_of (v:=v) (o:=(atKey xs k).map (·.2)) (by rw [l]; exact rel.val k)
  obtain ⟨p,hp,hp2⟩:=Option.map_eq_some_iff.mp hw
  refine wpAny_getItem_heap (tupleKind_room_in1 hu) (zI2 I.hok eb) dd hp ?_
  rw [hp2]
  exact h w' _ (I.tok _) rw'
theorem zNR {Q:Value->Shared->Prop} (hu:A.units + 1 < cLine) (I:Inv X pins σ H s) (g:DGet H a y o) (ry:RelV y u) (h:∀ s',Inv X pins σ H s'->Q (.bool (!o.isSome)) s') :
  wpAny (model X.prog X.w) A (compareOp .NotIn u (.ref a)) Q E s:=by
 rcases g with ⟨kvs,k,e,ey,l⟩ | ⟨kvs,k,b,e,ey,eb,l⟩
 ·subst ey
  obtain ⟨z,hd,vs,rel,dd⟩:=zMO I.hok e
  refine wpAny_notIn_of (zMG ry) hd dd.mapOf ?_
  rw [<- (rel.val k).isSome_eq,<- l]
  exact h _ (I.tok _)
 ·subst ey
  cases (show u=Value.ref b from ry)
  obtain ⟨z,hd,xs,rel,dd⟩:=zML I.hok e
  refine wpAny_notIn_heap (tupleKind_room_in1 hu) (zI2 I.hok eb) hd dd ?_
  have q:=(rel.val k).isSome_eq
  rw [Option.isSome_map] at q
  rw [<- q,<- l]
  exact h _ (I.tok _)
theorem zLP {h':Heap} {t':Nat} {ob:HO} (I:Inv X pins σ H s) (mu:Mut (H a)) (hs:Heap.SameBut a s.heap h') (he:∃ q,h'.get? a=some q) (new:zB5 X.prog X.w (upd H a ob) h' a ob) :
  Inv X pins σ (upd H a ob) { s with heap:=h',toks:=t' }:=
 I.write (x:=a) (e:=a) mu (.inl rfl) (fun b q hb z=>(hs.2 b hb).trans z) he new
theorem zOQ {P:Program} {w:World} {H':Hp} {h':Heap} {kvs:List (Key × V)} {vs:List (Key × Value)} (z:kvs.length<=sizeLine) (hd:(a == sysModules)=false) (rel:KV kvs vs) (dd:h'.DictOf (zCS P w) a vs) :
  zB5 P w H' h' a (.dK kvs):=⟨z,hd,vs,rel,dd⟩
theorem zLQ {H':Hp} {Q:Unit->Shared->Prop} (hu:A.units + 1 < cLine) (I:Inv X pins σ H s) (g:DPut H a y v H') (ry:RelV y u) (rv:RelV v r) (h:∀ s',Inv X pins σ H' s'->Q () s') :
  wpAny (model X.prog X.w) A (setItem (.ref a) u r) Q E s:=by
 rcases g with ⟨kvs,k,e,ey,l,eH⟩ | ⟨kvs,k,b,e,ey,eb,l,eH⟩
 ·subst ey eH
  obtain ⟨z,hd,vs,rel,dd⟩:=dk_of I.hok e
  have hz:vs.length<=sizeLine:=by rw [<- rel.length]; exact z
  have hl:(putK kvs k v).length<=sizeLine:=by have:=zGD kvs k v; omega
  refine wpAny_setItem_pairs (hsz:=hz) (zMG ry) dd fun h' dd' hs=>h _ ?_
  have he:∃ q,h'.get? a=some q:=let ⟨q,_,_,hq,_⟩:=dd'; ⟨q,hq⟩
  exact zLP I (by rw [e]; exact True.intro) hs he (zOQ hl hd (rel.put k rv) dd')
 ·subst ey eH
  cases (show u=Value.ref b from ry)
  obtain ⟨z,hd,xs,rel,dd⟩:=dt_of I.hok e
  have hz:xs.length<=sizeLine:=by rw [<- Paired.length rel]; exact z
  have hl:(putK kvs k v).length<=sizeLine:=by have:=zGD kvs k v; omega
  refine wpAny_setItem_heap (hsz:=hz) (tupleKind_room_in1 hu) (zI2 I.hok eb) dd fun h' dd' hs=>h _ ?_
  obtain ⟨q,es,ep,hq,h2,h3,h4,_,h5⟩:=dd'
  refine zLP I (by rw [e]; exact True.intro) hs ⟨q,hq⟩ ⟨hl,hd,_,(rel.put k eb rv).keeps fun c ys ec=>?_,q,es,ep,hq,h2,h3,h4,h5⟩
  rw [zAW (zKx ec e (fun z=>nomatch z))]
  exact ec
end
section
variable {X:Cx} {pins:List (Addr × Obj)} {σ:St} {H:Hp} {s:Shared} {a:Addr} {kvs:List (Key × V)} {k:Key} {u:Value} {A:Around} {E:Value->Shared->Prop}
end
def NoSl (i:Expr):Prop:=∀ ov iv,subscripted i false ov iv=operate [ov,iv] (getItem ov iv)
theorem zMv {prog:Program} {w:World} {A:Around} {E:Value->Shared->Prop} {s:Shared} {env:Env} {value slice:Expr} {pos:Pos} {T id:String} {Q:Value->Shared->Prop}
  (hl:typeLookup (.type T) "__getitem__" = pure (some (.builtin id))) (hs:NoSl slice)
  (h:wpAny (model prog w) A (eval value env) (fun o s₁=>wpAny (model prog w) A (eval slice env) (fun i s₂=>s₂.TypeIs o T/\wpAny (model prog w) A (getItem o i) Q E s₂) E s₁) E s) :
  wpAny (model prog w) A (eval (.Subscript value slice pos) env) Q E s:=by
 refine Subscript_ (wpAny_mono h (fun o s₁ h₁=>wpAny_mono h₁ (fun i s₂ h₂=>?_) fun _ _ x=>x) fun _ _ x=>x)
 obtain ⟨hT,h₂⟩:=h₂
 unfold subscriptTail
 refine wpAny_bind ?_
 rw [getitemInPython_of_ne hT.not_modules]
 refine wpAny_bind (wpAny_specialOf hT hl ?_)
 have fin:wpAny (model prog w) A (subscripted slice false o i) (fun r s₃=>wpAny (model prog w) A (letTemporaryGo value o r >>= fun _=>pure r) Q E s₃) E s₂:=by
  rw [hs o i]
  exact wpAny_operating (wpAny_mono h₂ (fun r s₃ h₃=>wpAny_bind (wpAny_letTemporaryGo (wpAny_pure h₃))) fun _ _ x=>x)
 first
  | exact wpAny_pure (wpAny_bind fin)
  | exact wpAny_bind (wpAny_pure (wpAny_bind fin))
  | exact wpAny_bind fin
theorem zIX {X:Cx} {pins:List (Addr × Obj)} {σ:St} {H:Hp} {s:Shared} {a:Addr} {y:V} {o:Option V} (I:Inv X pins σ H s) (g:DGet H a y o):s.TypeIs (.ref a) "dict":=by
 rcases g with ⟨kvs,k,e,_,_⟩ | ⟨kvs,k,b,e,_,_,_⟩
 ·obtain ⟨_,_,vs,_,dd⟩:=zMO I.hok e
  exact dd.typeIs
 ·obtain ⟨_,_,xs,_,dd⟩:=zML I.hok e
  exact dd.typeIs
def tDGet (td ty:TE):TE:=fun σ H Q=>td σ H fun x H1=>ty σ H1 fun y H2=>∃ a v,x=.ref a/\DGet H2 a y (some v)/\Q v H2
def zMu (ty td:TE):TE:=fun σ H Q=>ty σ H fun y H1=>td σ H1 fun x H2=>∃ a o,x=.ref a/\DGet H2 a y o/\Q (.bl (!o.isSome)) H2
def sDPut (td ty tv:TE):TS:=fun D σ H=>tv σ H fun v H1=>td σ H1 fun x H2=>ty σ H2 fun y H3=>∃ a H4,x=.ref a/\DPut H3 a y v H4/\D.nx σ H4
section
variable {X:Cx} {o i e value:Expr} {pos pos' tpos:Pos} {td ty tv:TE}
theorem zM5 (hu:X.A.units + 1 < cLine) (ho:PE X o td) (hi:PE X i ty) (hs:NoSl i):PE X (.Subscript o i pos) (tDGet td ty):=by
 intro pins s σ H Q I h
 refine zMv PySem.F.slot_dict_getitem.lookup hs (thn (ho pins s σ H _ I h) fun u s1 ⟨x,H1,I1,rx,q1⟩=>thn (hi pins s1 σ H1 _ I1 q1) fun iv s2 ⟨y,H2,I2,ry,a,v,ex,g,q2⟩=>?_)
 subst ex
 obtain rfl:u=Value.ref a:=rx
 exact ⟨zIX I2 g,zLR hu I2 g ry fun w' s3 I3 rw'=>⟨v,H2,I3,rw',q2⟩⟩
theorem zKd (hu:X.A.units + 1 < cLine) (hi:PE X i ty) (ho:PE X o td):PC X .NotIn i o (zMu ty td):=by
 intro pins s σ H Q I h
 refine thn (hi pins s σ H _ I h) fun iv s1 ⟨y,H1,I1,ry,q1⟩=>thn (ho pins s1 σ H1 _ I1 q1) fun u s2 ⟨x,H2,I2,rx,a,ov,ex,g,q2⟩=>?_
 subst ex
 obtain rfl:u=Value.ref a:=rx
 exact zNR hu I2 g ry fun s3 I3=>⟨.bl (!ov.isSome),H2,I3,rfl,q2⟩
theorem zM3 (hu:X.A.units + 1 < cLine) (ho:PE X o td) (hi:PE X i ty) (hv:PE X value tv) (hs:swapsWith value (some (.Subscript o i pos')) pos.line X.env=pure false) :
  PS X (.Assign [.Subscript o i pos'] value pos) (sDPut td ty tv):=by
 intro pins s σ H D I h
 refine wpAny_Assign_Subscript (thn (hv pins s σ H _ I h) fun r s1 ⟨v,H1,I1,rv,q1⟩=>thn (ho pins s1 σ H1 _ I1 q1) fun u s2 ⟨x,H2,I2,rx,q2⟩=>thn (hi pins s2 σ H2 _ I2 q2) fun iv s3 ⟨y,H3,I3,ry,a,H4,ex,g,q3⟩=>?_) hs
 subst ex
 obtain rfl:u=Value.ref a:=rx
 exact zLQ hu I3 g ry rv fun s4 I4=>⟨σ,H4,I4,q3⟩
end
theorem zMM {P:Program} {w:World} {H:Hp} (h:Heap) (hb:sysModules < h.objs.size):zB5 P w H (h.push { cls:=.type "dict",data:=.dict #[] }) h.objs.size (.dT []):=
 ⟨Nat.zero_le _,beq_eq_false_iff_ne.mpr (Ne.symm (Nat.ne_of_lt hb)),[],.nil,_,#[],0,Heap.get?_push_size _ rfl,⟨rfl,rfl,rfl⟩,rfl,rfl,List.nodup_nil⟩
def zNl:TE:=fun _ H Q=>∀ p,H p=none->Q (.ref p) (upd H p (.dT []))
section
variable {X:Cx} {pos:Pos}
theorem zL0:PE X (.Dict [] [] pos) zNl:=fun pins s σ H Q I h=>
 wpAny_Dict_empty ⟨.ref s.heap.objs.size,_,I.laid (a:=s.heap.objs.size) (o:=.dT []) (t':=s.toks) (fun _ _ q=>Heap.get?_push_of_some _ q) (Nat.le_refl _) (zMM s.heap I.big),rfl,h _ (I.hok.fresh (Nat.le_refl _))⟩
end
end L2
namespace L2
open PySem
section
variable {prog:Program} {w:World} {A:Around} {R:Result->Shared->Prop} {s:Shared}
theorem zIY {elt target iter cond:Expr} {scope:Scope} {pos:Pos} {it acc:Value} {env:Env} (Wd:Nat->Shared->Prop)
  (turn:∀ n s,Wd n s->wpAny (model prog w) A (pyNext it) (fun r s1=>match r with
   | none=>R (.ok .next) s1
   | some v=>wpAny (model prog w) A (letOwnedTupleGo target it v) (fun _ s2=>wpAny (model prog w) A (assign target env v) (fun _ s3=>wpAny (model prog w) A (isTrue cond env (eval cond env)) (fun ok s4=>
     if ok=true then wpAny (model prog w) A (eval elt env) (fun x s5=>wpAny (model prog w) A (call (.builtin "list.append") [acc,x]) (fun _ s6=>∃ m,m < n/\Wd m s6) (fun _ _=>False) s5) (fun _ _=>False) s4
     else ∃ m,m < n/\Wd m s4) (fun _ _=>False) s3) (fun _ _=>False) s2) (fun _ _=>False) s1) (fun _ _=>False) s)
  (n:Nat) (h:Wd n s):codeAny (model prog w) A (.compLoop (.ListComp elt [⟨target,iter,[cond],0⟩] scope pos) 0 it acc env) R s:=by
 refine codeAny_loop rfl Wd (fun n s hI=>?_) n h
 show wpAny _ _ (Sem.onRaise (compTurn (.ListComp elt [⟨target,iter,[cond],0⟩] scope pos) 0 it acc env) _) _ _ s
 refine wpAny_noted ?_
 rw [compTurn_list]
 refine wpAny_bind (wpAny_standAt (wpAny_bind (wpAny_mono (turn n s hI) (fun r s1 h1=>?_) fun _ _ z=>False.elim z)))
 cases r with
 | none=>exact wpAny_pure h1
 | some v=>
  refine wpAny_bind (wpAny_mono h1 (fun _ s2 h2=>?_) fun _ _ z=>False.elim z)
  refine wpAny_bind (wpAny_mono h2 (fun _ s3 h3=>?_) fun _ _ z=>False.elim z)
  refine wpAny_bind (wpAny_tests_one (wpAny_mono h3 (fun ok s4 h4=>?_) fun _ _ z=>False.elim z))
  cases ok with
  | false=>exact wpAny_pure ⟨rfl,h4⟩
  | true=>exact wpAny_bind (wpAny_bind (wpAny_mono h4 (fun x s5 h5=>wpAny_bind (wpAny_mono h5 (fun _ s6 h6=>wpAny_pure (wpAny_pure ⟨rfl,h6⟩)) fun _ _ z=>False.elim z)) fun _ _ z=>False.elim z))
end
end L2
namespace L2
open PySem PySem.Spec PyProof.Rows
def zLc (J:It) (g:TG) (tc:TT) (te:TE) (Q:VK) (σ0:St) (H0:Hp):Prop:=∃ W:Nat->Nat->List V->St->Hp->Prop,(∃ m,W 0 m [] σ0 H0)/\∀ i m ys σ1 H,W i m ys σ1 H->
 (J.stop i H/\∀ p,H p=none->Q (.ref p) (upd H p (.lst ys)))\/(J.go i H/\ys.length < sizeLine/\∃ (N:V->St->Hp->Prop) (N0:St->Hp->Prop),(∀ y σ' H',N y σ' H'->∃ m',m' < m/\W (i + 1) m' (ys++[y]) σ' H')/\(∀ σ' H',N0 σ' H'->∃ m',m' < m/\W (i + 1) m' ys σ' H')∧
    ∀ x H',J.yld i H x H'->g x σ1 H' fun σ2 H2=>tc σ2 H2 fun b H3=>if b=true then te σ2 H3 fun y H4=>N y σ2 H4 else N0 σ2 H3)
def zMY (own:List Str) (caps:List (Nat × Str)) (wi:TI) (g:TG) (tc:TT) (te:TE):TE:=fun σ H Q=>wi σ H fun J H1=>zLc J g tc te Q (zFJ own caps σ) H1
section
variable {X:Cx} {scope:Scope} {own:List Str} {caps:List (Nat × Str)} {elt tg iter cond:Expr} {wi:TI} {g:TG} {tc:TT} {te:TE} {pos:Pos}
end
theorem zDc {K:PySem.W.Frag} {a:Addr} {xs:List V} {g:TG} {tc:TT} {te:TE} {σ0:St} {H:Hp} {Q:VK} (Pv:Nat->List V->St->Hp->Prop) (h0:Pv 0 [] σ0 H) (hl:∀ i ys σ H,i<=xs.length->Pv i ys σ H->SqL K H a xs/\ys.length<=i) (hz:xs.length<=sizeLine)
  (hs:∀ i x ys σ H,xs[i]? = some x->Pv i ys σ H->g x σ H fun σ2 H2=>tc σ2 H2 fun b H3=>if b=true then te σ2 H3 fun y H4=>Pv (i + 1) (ys++[y]) σ2 H4 else Pv (i + 1) ys σ2 H3)
  (hd:∀ ys σ H,Pv xs.length ys σ H->∀ p,H p=none->Q (.ref p) (upd H p (.lst ys))) :
  zLc (Itl K a) g tc te Q σ0 H:=by
 refine ⟨fun i m ys σ H=>m=xs.length - i/\i<=xs.length/\Pv i ys σ H,⟨xs.length,by simp,Nat.zero_le _,h0⟩,?_⟩
 rintro i m ys σ H ⟨rfl,hi,p⟩
 obtain ⟨q,hy⟩:=hl i ys σ H hi p
 by_cases hlt:i < xs.length
 ·refine .inr ⟨⟨xs,xs[i],q,by simp [hlt]⟩,by omega,fun y σ' H'=>Pv (i + 1) (ys++[y]) σ' H',fun σ' H'=>Pv (i + 1) ys σ' H',fun y σ' H' z=>⟨xs.length - (i + 1),by omega,rfl,hlt,z⟩,fun σ' H' z=>⟨xs.length - (i + 1),by omega,rfl,hlt,z⟩,fun x H' y=>?_⟩
  obtain ⟨e,y⟩:=y
  subst e
  exact hs i x ys σ _ (y xs q) p
 ·have e:i=xs.length:=by omega
  subst e
  exact .inl ⟨⟨xs,q,Nat.le_refl _⟩,hd ys σ H p⟩
end L2
namespace L2
open PySem PySem.Spec PyProof.Rows
section
variable {prog:Program} {w:World} {A:Around} {E:Value->Shared->Prop} {s:Shared}
theorem zJt {d:Addr} {Q:Value->Shared->Prop} (hd:(d == sysModules)=false) (hT:s.TypeIs (.ref d) "dict")
  (q:Q (.ref s.heap.objs.size) { s with heap:=s.heap.push { cls:=.type "dict_items",data:=.fields #[.ref d] } }):wpAny (model prog w) A (call (.builtin "dict.items") [.ref d]) Q E s:=by
 refine call_meets (S:=fun _ R s=>s.TypeIs (.ref d) "dict"/\R (.ok (.ret (.ref s.heap.objs.size))) { s with heap:=s.heap.push { cls:=.type "dict_items",data:=.fields #[.ref d] } }) F.slot_dict_items hT F.entry_dict_items (F.args_dict_items_1 _)
  (.of_wp fun prog w A R s ⟨ht,hk⟩=>?_) ⟨hT,q⟩
 unfold Builtin.«dict.items» Builtin.Dict.noArgs
 refine wpAny_bind (wpAny_bind (wpAny_notOrdered_dict ht ?_))
 show wpAny _ _ (pure d) _ _ s
 refine wpAny_pure ?_
 show wpAny _ _ (Builtin.Dict.showsAll d >>= _) _ _ s
 unfold Builtin.Dict.showsAll
 rw [if_neg (by rw [hd]; exact Bool.false_ne_true)]
 exact wpAny_bind (wpAny_pure (wpAny_bind (wpAny_newObj_type (wpAny_pure ⟨_,rfl,hk⟩))))
theorem zIS {v d:Addr} {od:Obj} {es:Array DictEntry} {ep:Nat} {Q:Value->Shared->Prop} (hv:s.heap.IsItemsView v d) (ho:s.heap.get? d=some od) (hdat:od.data=.dict es ep)
  (q:Q (.ref s.heap.objs.size) { s with heap:=s.heap.push { cls:=.type "dict_itemiterator",data:=.fields #[.none,.bool false,.ref d,.int 0 0,.int es.size 0,.int ep 0,.none,.none] } }) :
  wpAny (model prog w) A (pyIter (.ref v)) Q E s:=by
 obtain ⟨vo,hvo,_,vdat⟩:=id hv
 refine wpAny_pyIter_slot hv.typeIs F.slot_dict_items_iter (wpAny_call_entry F.slot_dict_items_iter hv.typeIs F.entry_dict_items_iter ?_ (F.args_dict_items_iter_1 _))
 unfold Builtin.«dict_items.__iter__» Builtin.Dict_items.dictOf Builtin.Dict_items.newIterator
 refine wpAny_bind (wpAny_pure (wpAny_bind (wpAny_bind (wpAny_field hvo vdat (x:=.ref d) rfl (wpAny_pure (wpAny_bind (wpAny_bind (wpAny_dictEntries ho hdat (wpAny_bind (wpAny_dictEpoch ho hdat ?_))))))))))
 have owns:Builtin.Dict_items.ownsTuple "dict_itemiterator" = true:=by decide
 simp only [owns,if_true]
 refine wpAny_newObj_type (wpAny_pure ⟨_,rfl,"dict_itemiterator",_,⟨_,Heap.get?_push_size _ rfl,rfl⟩,F.slot_dict_itemiterator_next.lookup,?_⟩)
  (by simp only [sizeOk,Builtin.Dict_items.ownedTupleFields,List.size_toArray,List.length_append,List.length_cons,List.length_nil,sizeLine_eq]; omega)
 simpa [rawInt,Builtin.Dict_items.ownedTupleFields] using q
theorem zJv {it d:Addr} {i n ep:Nat} {od:Obj} {es:Array DictEntry} {ok ov:Value} {en:DictEntry} {Q:Option Value->Shared->Prop} (hit:IsItemIter s.heap it d i n ep ok ov) (hod:s.heap.get? d=some od) (hdd:od.data=.dict es ep) (hsz:es.size=n) (hx:es[i]? = some en)
  (hQ:∀ h',IsItemIterOut h' it d (i + 1) n ep en.key en.val s.heap.objs.size->h'.get? s.heap.objs.size=some { cls:=.type "tuple",data:=.seq #[en.key,en.val] }->
   (∀ b o,b≠it->s.heap.get? b=some o->h'.get? b=some o)->Q (some (.ref s.heap.objs.size)) { s with heap:=h' }) :
  wpAny (model prog w) A (pyNext (.ref it)) Q E s:=by
 obtain ⟨h0,gs,dr,t0,o0⟩:=s
 have ty:Shared.TypeIs ⟨h0,gs,dr,t0,o0⟩ (.ref it) "dict_itemiterator":=⟨_,hit,rfl⟩
 unfold pyNext
 refine wpAny_bind (wpAny_attempt (wpAny_callSpecial?_slot (name:=Str.ofString "__next__") ty F.slot_dict_itemiterator_next (wpAny_call_entry F.slot_dict_itemiterator_next ty F.entry_dict_itemiterator_next ?_ (F.args_dict_itemiterator_next_1 _))))
 refine wpAny_bind (wpAny_pure (wpAny_bind (wpAny_bind ?_)))
 first | refine wpAny_bind (wpAny_typeNameOfWhole_itemiter ty (wpAny_pure ?_)) | refine wpAny_bind (wpAny_typeNameOf_itemiter ty (wpAny_pure ?_))
 refine wpAny_bind (wpAny_fieldsOf hit rfl ?_)
 have owns:Builtin.Dict_items.ownsTuple "dict_itemiterator" = true:=by decide
 simp only [owns,if_true]
 show wpAny _ _ (if (Value.ref d == Value.none)=true then _ else _) _ _ _
 rw [if_neg (show ¬ ((Value.ref d == Value.none)=true) from fun z=>Bool.false_ne_true z)]
 refine wpAny_bind (wpAny_pure (wpAny_bind (wpAny_dictEntries hod hdd ?_)))
 rw [if_neg (by rw [hsz]; simp)]
 refine wpAny_bind (wpAny_pure (wpAny_bind (wpAny_dictEpoch hod hdd ?_)))
 rw [if_neg (by simp)]
 refine wpAny_pure ?_
 obtain ⟨il,ie⟩:=Array.getElem?_eq_some_iff.mp hx
 simp only [show ¬ ((i:Int) < 0) from by omega,if_false,Int.toNat_natCast,hx]
 refine wpAny_bind ?_
 first | refine wpAny_bind (wpAny_typeNameOfWhole_itemiter ty (wpAny_pure ?_)) | refine wpAny_bind (wpAny_typeNameOf_itemiter ty (wpAny_pure ?_))
 refine wpAny_bind (wpAny_isOneOf_itemiter ty ?_)
 show wpAny _ _ (setField (.ref it) 3 (rawInt ((i:Int) + 1)) >>= _) _ _ _
 refine wpAny_bind (wpAny_setField_rec hit (by simp) fun u1 e1 b1=>?_)
 replace b1:Heap.SameBut it h0 u1:=b1
 replace e1:IsItemIter u1 it d (i + 1) n ep ok ov:=by
  have e:((i + 1:Nat):Int)=(i:Int) + 1:=by omega
  unfold IsItemIter
  rw [e]
  simpa [rawInt] using e1
 have ty1:Shared.TypeIs ⟨u1,gs,dr,t0,o0⟩ (.ref it) "dict_itemiterator":=⟨_,e1,rfl⟩
 refine wpAny_bind (wpAny_holding (wpAny_bind (wpAny_isOneOf_itemiter ty1 (wpAny_bind (wpAny_isOneOf_itemiter ty1 ?_)))))
 show wpAny _ _ (Builtin.Dict_items.pairFromOwner (.ref it) 6 en.key en.val) _ _ _
 unfold Builtin.Dict_items.pairFromOwner
 refine wpAny_bind (wpAny_newTuple ?_)
 have e2:IsItemIter (u1.push { cls:=.type "tuple",data:=.seq #[en.key,en.val] }) it d (i + 1) n ep ok ov:=Heap.get?_push_of_some _ e1
 generalize eq2:u1.push { cls:=.type "tuple",data:=.seq #[en.key,en.val] }=u2 at e2
 have z1:u1.objs.size=h0.objs.size:=b1.1
 have il0:it < h0.objs.size:=Heap.lt_size hit
 have t2:u2.get? h0.objs.size=some { cls:=.type "tuple",data:=.seq #[en.key,en.val] }:=by rw [<- eq2,<- z1]; exact Heap.get?_push_size _ rfl
 have k2:∀ b o,b≠it->h0.get? b=some o->u2.get? b=some o:=fun b o hb e=>by rw [<- eq2]; exact Heap.get?_push_of_some _ (b1.extBut b o hb e)
 show wpAny _ _ (Builtin.Dict_items.ownedTupleIsFree (.ref it) >>= _) _ _ ⟨u2,gs,dr,t0,o0⟩
 rw [z1]
 clear eq2 e1 b1 ty1 z1 u1
 unfold Builtin.Dict_items.ownedTupleIsFree
 refine wpAny_bind (wpAny_bind (wpAny_field e2 rfl (x:=.none) rfl (wpAny_pure ?_)))
 simp only [if_true]
 refine wpAny_bind (wpAny_field e2 rfl (x:=ok) rfl (wpAny_bind (wpAny_field e2 rfl (x:=ov) rfl (wpAny_bind (wpAny_setField_rec e2 (by simp) fun u3 e3 b3=>?_)))))
 replace b3:Heap.SameBut it u2 u3:=b3
 replace e3:IsItemIter u3 it d (i + 1) n ep en.key ov:=e3
 refine wpAny_bind (wpAny_setField_rec e3 (by simp) fun u4 e4 b4=>?_)
 replace b4:Heap.SameBut it u3 u4:=b4
 replace e4:IsItemIter u4 it d (i + 1) n ep en.key en.val:=e4
 refine wpAny_bind (wpAny_setField_rec e4 (by simp) fun u5 e5 b5=>?_)
 replace b5:Heap.SameBut it u4 u5:=b5
 replace e5:IsItemIterOut u5 it d (i + 1) n ep en.key en.val h0.objs.size:=e5
 refine wpAny_bind (wpAny_setField_rec e5 (by simp) fun u6 e6 b6=>?_)
 replace b6:Heap.SameBut it u5 u6:=b6
 replace e6:IsItemIterOut u6 it d (i + 1) n ep en.key en.val h0.objs.size:=e6
 have far:h0.objs.size≠it:=Nat.ne_of_gt il0
 refine wpAny_bind (wpAny_letGo (wpAny_pure (wpAny_pure ⟨_,rfl,wpAny_pure (hQ u6 e6 ?_ fun b o hb e=>?_)⟩)))
 ·exact b6.extBut _ _ far (b5.extBut _ _ far (b4.extBut _ _ far (b3.extBut _ _ far t2)))
 ·exact b6.extBut b o hb (b5.extBut b o hb (b4.extBut b o hb (b3.extBut b o hb (k2 b o hb e))))
theorem zK7 {it d:Addr} {i n ep:Nat} {od:Obj} {es:Array DictEntry} {ok ov:Value} {Q:Option Value->Shared->Prop} (hh:A.handled=none) (hit:IsItemIter s.heap it d i n ep ok ov) (hod:s.heap.get? d=some od) (hdd:od.data=.dict es ep) (hsz:es.size=n) (hx:es.size<=i)
  (hQ:∀ h',Heap.ExtBut it s.heap h'->Q none { s with heap:=h' }):wpAny (model prog w) A (pyNext (.ref it)) Q E s:=by
 have ty:s.TypeIs (.ref it) "dict_itemiterator":=⟨_,hit,rfl⟩
 unfold pyNext
 refine wpAny_bind (wpAny_attempt (wpAny_callSpecial?_slot (name:=Str.ofString "__next__") ty F.slot_dict_itemiterator_next (wpAny_call_entry F.slot_dict_itemiterator_next ty F.entry_dict_itemiterator_next ?_ (F.args_dict_itemiterator_next_1 _))))
 refine wpAny_bind (wpAny_pure (wpAny_bind (wpAny_bind ?_)))
 first | refine wpAny_bind (wpAny_typeNameOfWhole_itemiter ty (wpAny_pure ?_)) | refine wpAny_bind (wpAny_typeNameOf_itemiter ty (wpAny_pure ?_))
 refine wpAny_bind (wpAny_fieldsOf hit rfl ?_)
 have owns:Builtin.Dict_items.ownsTuple "dict_itemiterator" = true:=by decide
 simp only [owns,if_true]
 show wpAny _ _ (if (Value.ref d == Value.none)=true then _ else _) _ _ _
 rw [if_neg (show ¬ ((Value.ref d == Value.none)=true) from fun z=>Bool.false_ne_true z)]
 refine wpAny_bind (wpAny_pure (wpAny_bind (wpAny_dictEntries hod hdd ?_)))
 rw [if_neg (by rw [hsz]; simp)]
 refine wpAny_bind (wpAny_pure (wpAny_bind (wpAny_dictEpoch hod hdd ?_)))
 rw [if_neg (by simp)]
 refine wpAny_pure ?_
 simp only [show ¬ ((i:Int) < 0) from by omega,if_false,Int.toNat_natCast,Array.getElem?_eq_none hx]
 refine wpAny_bind ?_
 first | refine wpAny_bind (wpAny_typeNameOfWhole_itemiter ty (wpAny_pure ?_)) | refine wpAny_bind (wpAny_typeNameOf_itemiter ty (wpAny_pure ?_))
 show wpAny _ _ (setField (.ref it) 2 .none >>= _) _ _ _
 refine wpAny_bind (wpAny_setField hit rfl (by simp) ?_)
 show wpAny _ _ (newExc (.type "StopIteration") [] >>= _) _ _ _
 simp only [newExc,newTuple]
 refine wpAny_bind (wpAny_bind (wpAny_newObj_type ?_ (by size_fits)))
 refine wpAny_bind (m:=firstArgMember _ _) (wpAny_of_eq (a:=Value.none) (by first | rfl | (simp only [firstArgMember]; rfl)) (wpAny_newObj_type ?_ (by size_fits)))
 simp only [raiseNew]
 refine wpAny_bind (wpAny_handled ?_)
 rw [show A.in1.handled=none from hh]
 refine wpAny_bind (wpAny_pure (wpAny_throw ?_))
 refine wpAny_bind (wpAny_isInstance (b:=true) (T:="StopIteration") ⟨_,Heap.get?_push_size _ rfl,rfl⟩ isSubtype_stop ?_)
 exact wpAny_pure (hQ _ (((Heap.SameBut.update ..).extBut.push _).push _))
theorem zES:entryFor table "dict_itemiterator.__iter__" = some Builtin.«dict_keyiterator.__iter__»:=entryFor_alias (id':="dict_keyiterator.__iter__") (by kernel_rfl) rfl (by decide +kernel) (by kernel_rfl)
theorem zJu {it d:Addr} {i n ep:Nat} {ok ov:Value} {Q:Value->Shared->Prop} (hit:IsItemIter s.heap it d i n ep ok ov) (h:Q (.ref it) s):wpAny (model prog w) A (pyIter (.ref it)) Q E s:=by
 have ty:s.TypeIs (.ref it) "dict_itemiterator":=⟨_,hit,rfl⟩
 refine wpAny_pyIter_slot ty F.slot_dict_itemiterator_iter (wpAny_call_entry F.slot_dict_itemiterator_iter ty zES ?_ (F.args_dict_itemiterator_iter_1 _))
 show wpAny _ _ (ret (.ref it)) _ _ s
 exact wpAny_pure ⟨_,rfl,"dict_itemiterator",_,ty,F.slot_dict_itemiterator_next.lookup,h⟩
end
theorem Inv.freeze {X:Cx} {pins:List (Addr × Obj)} {σ:St} {H:Hp} {s:Shared} {d:Addr} {ob:Obj} {kvs:List (List Key × V)} (I:Inv X pins σ H s) (e:H d=some (.dT kvs)) (ho:s.heap.get? d=some ob):Inv X pins σ (upd H d (.frz ob (.dT kvs))) s:=by
 have ne:∀ b u,H b=some u->u≠.dT kvs->b≠d:=fun b u q n=>zKx q e n
 refine ⟨I.ok,I.os,I.bare,⟨I.base.keep,I.base.slot,fun b o q n hx=>?_,I.base.there,fun b xs q=>?_,fun b o u q=>?_,fun b ps q=>?_⟩,I.loc,I.cell,?_,fun x c q=>?_,fun p hp=>?_,fun b u q=>?_,I.len⟩
 ·have z:=I.base.free b o q n hx
  rw [zAW fun y=>by rw [y,e] at z; cases z]
  exact z
 ·have z:=I.base.tups b xs q
  rw [zAW (ne _ _ z (by intro y; cases y))]
  exact z
 ·have z:=I.base.frzs b o u q
  rw [zAW (ne _ _ z (by intro y; cases y))]
  exact z
 ·obtain ⟨m,z⟩:=I.base.tbls b ps q
  exact ⟨m,by rw [zAW (ne _ _ z (by intro y; cases y))]; exact z⟩
 ·rw [zAW fun y=>by have z:=I.free; rw [y,e] at z; cases z]
  exact I.free
 ·rw [zAW fun y=>by have z:=I.freeC x c q; rw [y,e] at z; cases z]
  exact I.freeC x c q
 ·obtain ⟨a1,a2,a3,a4,a5⟩:=I.pin p hp
  exact ⟨a1,by rw [zAW fun y=>by rw [y,e] at a2; cases a2]; exact a2,a3,a4,a5⟩
 ·have st:∀ {b:Addr} {u:HO},zB5 X.prog X.w H s.heap b u->zB5 X.prog X.w (upd H d (.frz ob (.dT kvs))) s.heap b u:=fun x=>x.stay (fun _ _ _ r=>r) (fun c r=>by rw [zAW (ne _ _ r (by intro y; cases y))]; exact r) fun c xs r=>by rw [zAW (ne _ _ r (by intro y; cases y))]; exact r
  by_cases hb:b=d
  ·subst hb
   rw [zAF] at q
   cases q
   exact ⟨ho,st (I.hok b _ e)⟩
  ·rw [zAW hb] at q
   exact st (I.hok b u q)
def Itd (d:Addr) (od:Obj):It:=
 ⟨fun i H=>∃ kvs p,H d=some (.frz od (.dT kvs))/\kvs[i]? = some p,
  fun i H v H'=>∃ (T b:Addr) (x:V) (k:List Key),v=.ref T/\H T=none/\H'=upd H T (.tup [.ref b,x])/\H b=some (.tup (k.map kV))/\∀ kvs,H d=some (.frz od (.dT kvs))->kvs[i]? = some (k,x),
  fun i H=>∃ kvs,H d=some (.frz od (.dT kvs))/\kvs.length<=i⟩
theorem zMh {H:Hp}:∀ {kvs:List (List Key × V)} {xs:List (List Key × Addr × Value)} {i:Nat} {p:List Key × V},KT H kvs xs->kvs[i]? = some p->∃ q,xs[i]? = some q/\p.1=q.1/\H q.2.1=some (.tup (p.1.map kV))/\RelV p.2 q.2.2
 | _,_,_,_,.nil,e=>by simp at e
 | _,_,0,_,.cons r _,e=>by simp at e; subst e; exact ⟨_,rfl,r⟩
 | _,_,i + 1,p,.cons _ t,e=>by
  obtain ⟨q,h1,h2⟩:=zMh (i:=i) (p:=p) t (by simpa using e)
  exact ⟨q,by simpa using h1,h2⟩
theorem zJT {P:Program} {w:World} {K:PySem.W.Frag} {ts:List Expr} {kk:Nat} {tp:Pos} {d it:Addr} {od:Obj} {es:Array DictEntry} {ep:Nat} (hdd:od.data=.dict es ep) :
  Turn P w K (.Tuple ts kk tp) (Itd d od) [it] it (fun i h=>∃ ok ov,IsItemIter h it d i es.size ep ok ov) where
 mem:=by simp
 obj:=fun i h ⟨ok,ov,t⟩ b hb=>by
  rw [List.mem_singleton.mp hb]
  exact ⟨_,t,zAl⟩
 keep:=fun i h h' ⟨ok,ov,t⟩ k=>⟨ok,ov,k it (by simp) _ t⟩
 item:=by
  intro X hP hw hK hc i pins s σ H E I hf ⟨ok,ov,t⟩ hg
  subst hP hw hK
  obtain ⟨kvs,p,hd,hp⟩:=hg
  obtain ⟨ho,_,_,xs,rel,o,es',ep',h1,_,h3,h4,_⟩:=(show zB5 X.prog X.w H s.heap d (.frz od (.dT kvs)) from I.hok d _ hd)
  rw [ho] at h1
  cases h1
  rw [hdd] at h3
  cases h3
  obtain ⟨q,hq,e1,e2,e3⟩:=zMh rel hp
  have hen:es[i]? = some (entryOfKey (tupleKind (zCS X.prog X.w)) q):=by
   rw [<- Array.getElem?_toList,h4,List.getElem?_map,hq]
   rfl
  refine zJv t ho hdd rfl hen fun h' o1 o2 keep=>?_
  refine ⟨_,rfl,wpAny_letOwnedTupleGo_items (s:={ s with heap:=h' }) o1 fun h2 i2 sb=>?_⟩
  have il:it < s.heap.objs.size:=Heap.lt_size t
  have keep2:∀ c ob,c∉[it]->s.heap.get? c=some ob->h2.get? c=some ob:=fun c ob hcn e=>by
   have n:c≠it:=fun z=>hcn (by rw [z]; exact List.mem_singleton.mpr rfl)
   exact sb.extBut c ob n (keep c ob n e)
  have pT:IsPair h2 s.heap.objs.size (.ref q.2.1) q.2.2:=sb.extBut _ _ (Nat.ne_of_gt il) o2
  have I':=I.turnT (h':=h2) (tk:=s.toks) (ch:=[it]) (x:=.ref q.2.1) (y:=p.2) hf keep2 (Nat.le_refl _) pT rfl e3
  refine ⟨.ref s.heap.objs.size,_,I',rfl,⟨s.heap.objs.size,q.2.1,p.2,p.1,rfl,I.hok.fresh (Nat.le_refl _),rfl,e2,fun kvs' z=>?_⟩,⟨_,_,i2⟩,fun c hcn=>?_⟩
  ·rw [hd] at z
   cases z
   exact hp
  ·rw [List.mem_singleton.mp hcn,zAW (Nat.ne_of_lt il)]
   exact (hf it (List.mem_singleton.mpr rfl)).1
 done:=by
  intro X hP hw hK hc i pins s σ H E I hf ⟨ok,ov,t⟩ hg
  subst hP hw hK
  obtain ⟨kvs,hd,hl⟩:=hg
  obtain ⟨ho,_,_,xs,rel,o,es',ep',h1,_,h3,h4,_⟩:=(show zB5 X.prog X.w H s.heap d (.frz od (.dT kvs)) from I.hok d _ hd)
  rw [ho] at h1
  cases h1
  rw [hdd] at h3
  cases h3
  have n1:es.size=kvs.length:=by
   rw [<- Array.length_toList,h4,List.length_map]
   exact (Paired.length rel).symm
  refine zK7 (I.ok.hd hc) t ho hdd rfl (by omega) fun h' k=>⟨rfl,?_⟩
  refine I.turnN (h':=h') (tk:=s.toks) (ch:=[it]) hf fun c ob hcn e=>k c ob (fun z=>hcn (by rw [z]; exact List.mem_singleton.mpr rfl)) e
 self:=by
  intro A i s Q E ⟨ok,ov,t⟩ q
  exact zJu t q
def zOO (td:TE):TI:=fun σ H R=>td σ H fun x H1=>∃ (d:Addr) (kvs:List (List Key × V)),x=.ref d/\H1 d=some (.dT kvs)/\∀ od,R (Itd d od) (upd H1 d (.frz od (.dT kvs)))
theorem zLy {X:Cx} {o:Expr} {td:TE} {ts:List Expr} {kk:Nat} {tp apos cpos:Pos} (ho:PE X o td) (hbase:attributeBase o "items" X.env (eval o X.env)=eval o X.env:=by rfl) (hline:(apos.endLine == cpos.line)=true:=by rfl) :
  PI X (.Tuple ts kk tp) (.Call (.Attribute o "items" apos) [] [] cpos) (zOO td):=by
 intro pins s σ H R I h
 refine wpAny_Call_method0_late hbase hline (thn (ho pins s σ H _ I h) fun v s1 ⟨x,H1,I1,r1,d,kvs,ex,e,q⟩=>?_)
 subst ex
 cases r1
 obtain ⟨h1,h2⟩:=zMU (T:="dict") (x:=.ref d) I1 rfl (.inr (.inr (.inl ⟨rfl,.inr ⟨kvs,e⟩⟩)))
 obtain ⟨z,hsm,xs,rel,od,es,ep,o1,o2,o3,o4,o5⟩:=(show zB5 X.prog X.w H1 s1.heap d (.dT kvs) from I1.hok d _ e)
 refine ⟨"dict","dict.items",PySem.F.plainAttrs_dict,F.slot_dict_items,F.type_dict_items,h1,h2,Calls.callWith_builtin rfl (PySem.evalArgs_none (zJt hsm h1 ?_))⟩
 have I2:Inv X pins σ H1 { s1 with heap:=s1.heap.push { cls:=.type "dict_items",data:=.fields #[.ref d] },toks:=s1.toks }:=I1.kept fun b u q=>Heap.get?_push_of_some _ q
 refine zIS (s:={ s1 with heap:=s1.heap.push { cls:=.type "dict_items",data:=.fields #[.ref d] } }) ⟨_,Heap.get?_push_size _ rfl,rfl,rfl⟩ (Heap.get?_push_of_some _ o1) o3 ?_
 have sz:(s1.heap.push { cls:=.type "dict_items",data:=.fields #[.ref d] }).objs.size=s1.heap.objs.size + 1:=Heap.size_push ..
 have I3:=I2.kept (h':=(s1.heap.push { cls:=.type "dict_items",data:=.fields #[.ref d] }).push { cls:=.type "dict_itemiterator",data:=.fields #[.none,.bool false,.ref d,.int 0 0,.int es.size 0,.int ep 0,.none,.none] }) (t':=s1.toks) fun b u q=>Heap.get?_push_of_some _ q
 have I4:=I3.freeze e (Heap.get?_push_of_some _ (Heap.get?_push_of_some _ o1))
 refine ⟨_,[_],_,Itd d od,_,rfl,I4,zJT o3,⟨.none,.none,Heap.get?_push_size _ rfl⟩,fun b hb=>?_,q od⟩
 rw [List.mem_singleton.mp hb]
 refine I1.fpOk (by rw [sz]; omega) ?_
 rw [zAW fun y=>?_]
 ·exact I1.hok.fresh (by rw [sz]; omega)
 ·have small:=Heap.lt_size o1
  rw [sz] at y
  exact absurd small (by rw [<- y]; exact Nat.not_lt.mpr (Nat.le_succ _))
end L2
namespace L2
open PySem PySem.Spec PyProof.Rows
theorem zEy {K:PySem.W.Frag} {a:Addr} {xs:List V} {g:TG} {te:TE} {σ0:St} {H:Hp} {Q:VK} (Pv:Nat->List V->St->Hp->Prop) (h0:Pv 0 [] σ0 H) (hl:∀ i ys σ H,i<=xs.length->Pv i ys σ H->SqT K H a xs/\ys.length<=i) (hz:xs.length<=sizeLine)
  (hs:∀ i x ys σ H,xs[i]? = some x->Pv i ys σ H->g x σ H fun σ2 H2=>te σ2 H2 fun y H3=>Pv (i + 1) (ys++[y]) σ2 H3)
  (hd:∀ ys σ H,Pv xs.length ys σ H->∀ p,H p=none->Q (.ref p) (upd H p (.lst ys))) :
  zEK (Itt K a) g te Q σ0 H:=by
 refine ⟨fun i m ys σ H=>m=xs.length - i/\i<=xs.length/\Pv i ys σ H,⟨xs.length,by simp,Nat.zero_le _,h0⟩,?_⟩
 rintro i m ys σ H ⟨rfl,hi,p⟩
 obtain ⟨q,hy⟩:=hl i ys σ H hi p
 by_cases hlt:i < xs.length
 ·refine .inr ⟨⟨xs,xs[i],q,by simp [hlt]⟩,by omega,fun y σ' H'=>Pv (i + 1) (ys++[y]) σ' H',fun y σ' H' z=>⟨xs.length - (i + 1),by omega,rfl,hlt,z⟩,fun x H' y=>?_⟩
  obtain ⟨e,y⟩:=y
  subst e
  exact hs i x ys σ _ (y xs q) p
 ·have e:i=xs.length:=by omega
  subst e
  exact .inl ⟨⟨xs,q,Nat.le_refl _⟩,hd ys σ H p⟩
theorem zJ4 {d:Addr} {od:Obj} {kvs:List (List Key × V)} {g:TG} {te:TE} {σ0:St} {H:Hp} {Q:VK} (Pv:Nat->List V->St->Hp->Prop) (h0:Pv 0 [] σ0 H) (hl:∀ i ys σ H,i<=kvs.length->Pv i ys σ H->H d=some (.frz od (.dT kvs))/\ys.length<=i) (hz:kvs.length<=sizeLine)
  (hs:∀ i k x T b ys σ H,kvs[i]? = some (k,x)->H T=none->H b=some (.tup (k.map kV))->Pv i ys σ H->g (.ref T) σ (upd H T (.tup [.ref b,x])) fun σ2 H2=>te σ2 H2 fun y H3=>Pv (i + 1) (ys++[y]) σ2 H3)
  (hd:∀ ys σ H,Pv kvs.length ys σ H->∀ p,H p=none->Q (.ref p) (upd H p (.lst ys))) :
  zEK (Itd d od) g te Q σ0 H:=by
 refine ⟨fun i m ys σ H=>m=kvs.length - i/\i<=kvs.length/\Pv i ys σ H,⟨kvs.length,by simp,Nat.zero_le _,h0⟩,?_⟩
 rintro i m ys σ H ⟨rfl,hi,p⟩
 obtain ⟨q,hy⟩:=hl i ys σ H hi p
 by_cases hlt:i < kvs.length
 ·refine .inr ⟨⟨kvs,kvs[i],q,by simp [hlt]⟩,by omega,fun y σ' H'=>Pv (i + 1) (ys++[y]) σ' H',fun y σ' H' z=>⟨kvs.length - (i + 1),by omega,rfl,hlt,z⟩,fun x H' y=>?_⟩
  obtain ⟨T,b,v,k,rfl,hT,rfl,hb,hk⟩:=y
  exact hs i k v T b ys σ _ (hk kvs q) hT hb p
 ·have e:i=kvs.length:=by omega
  subst e
  exact .inl ⟨⟨kvs,q,Nat.le_refl _⟩,hd ys σ H p⟩
section
variable {X:Cx}
theorem zN9 (hu:X.A.units + 64 < cLine):OpR X (compareOp .NotEq) (fun x y H Q=>∃ d e:PyData,Dp X.K H x d/\Dp X.K H y e/\d.canLay0=true/\e.canLay0=true/\d.depth<=60/\e.depth<=60/\Q (.bl (!PyData.eqv d e)) H):=by
 intro pins s σ H x y v u Q I rx ry h
 obtain ⟨d,e,hx,hy,hc,hc',hd,hd',q⟩:=h
 obtain ⟨_,r1⟩:=hx.reads I rx
 obtain ⟨_,r2⟩:=hy.reads I ry
 exact SeqAt.compareNe_reads r1 r2 hc hc' (by omega) ⟨.bl _,H,I,rfl,q⟩
end
end L2
namespace L2
open PySem PySem.Spec PyProof.Rows
section
variable {X:Cx}
end
end L2
namespace L2
open PySem
end L2
namespace L2
open PySem PySem.Spec PyProof.Rows
theorem zHs:bootBuiltins "sum" = some (.builtin "sum"):=by decide +kernel
theorem zHk:∀ {ns:List Int} {its:List Value},Vals (ns.map V.int) its->∃ zs:List (Int × Tok),its=zs.map (fun p=>Value.int p.1 p.2)/\zs.map (·.1)=ns
 | [],_,.nil=>⟨[],rfl,rfl⟩
 | n :: r,_,.cons h t=>by
  obtain ⟨zs,e1,e2⟩:=zHk t
  obtain ⟨tk,rfl⟩:=h
  exact ⟨(n,tk) :: zs,by rw [e1]; rfl,by rw [List.map_cons,e2]⟩
section
variable {X:Cx}
theorem zJF (hc:X.calm=true):zDr X (.builtin "sum") (fun xs H Q=>∃ (p:Addr) (ns:List Int),xs=[.ref p]/\SqL X.K H p (ns.map V.int)/\Q (.int ns.sum) H):=by
 intro pins s σ H xs us Q I r h
 obtain ⟨p,ns,rfl,hq,q⟩:=h
 obtain ⟨u,rfl,ru⟩:=zHO r
 cases ru
 obtain ⟨its,rv,pl,hz⟩:=I.list hq
 obtain ⟨zs,e1,e2⟩:=zHk rv
 have e3:its.toArray=intItems zs.toArray:=by
  rw [e1]
  unfold intItems
  simp
 have hl:=pl.isList
 rw [e3] at hl
 refine sum_intListG (I.ok.hd hc) hl fun h' tk t' kk=>⟨.int ns.sum,H,I.kept (h':=h') (t':=tk) kk,⟨t',?_⟩,q⟩
 rw [preSum_eq,List.take_of_length_le (by simp),e2]
end
end L2
namespace L2
open PySem PySem.Spec PyProof.Rows
theorem nlt1 {a b c d:Nat} (h1:a < b) (h2:b<=c) (h3:c + 1<=d):d≠a:=by omega
theorem nlt2 {a b c:Nat} (h1:c=a + 1) (h2:c + 1<=b):b≠a:=by omega
theorem zEF {x:Str} {c:Addr}:∀ (names:List (Str × NameKind)) (n:Nat) (acc:List (Str × Addr)),(cellsFrom n names acc).lookup x=some c->((x,NameKind.cell)∈names/\n<=c)\/acc.lookup x=some c
 | [],_,_,h=>.inr h
 | (y,k) :: r,n,acc,h=>by
  unfold cellsFrom at h
  split at h
  ·rename_i hk
   rcases zEF r (n + 1) ((y,n) :: acc) h with ⟨a,b⟩ | z
   ·exact .inl ⟨List.mem_cons_of_mem _ a,by omega⟩
   ·rw [List.lookup_cons] at z
    by_cases e:(x == y)=true
    ·simp only [e] at z
     have e1:x=y:=eq_of_beq e
     have e2:k=.cell:=eq_of_beq hk
     subst e1
     subst e2
     cases z
     exact .inl ⟨List.mem_cons_self,Nat.le_refl _⟩
    ·have e':(x == y)=false:=by simpa using e
     simp only [e'] at z
     exact .inr z
  ·rcases zEF r n acc h with ⟨a,b⟩ | z
   ·exact .inl ⟨List.mem_cons_of_mem _ a,b⟩
   ·exact .inr z
theorem zET {x:Str}:∀ (names:List (Str × NameKind)) (n:Nat) (acc:List (Str × Addr)),(x,NameKind.cell)∉names->(cellsFrom n names acc).lookup x=acc.lookup x
 | [],_,_,_=>rfl
 | (y,k) :: r,n,acc,h=>by
  have hr:(x,NameKind.cell)∉r:=fun z=>h (List.mem_cons_of_mem _ z)
  unfold cellsFrom
  split
  ·rename_i hk
   have e2:k=.cell:=eq_of_beq hk
   rw [zET r _ _ hr,List.lookup_cons]
   have e':(x == y)=false:=by
    cases q:x == y with
    | false=>rfl
    | true=>exact absurd (by rw [eq_of_beq q,e2]; exact List.mem_cons_self) h
   simp only [e']
  ·exact zET r _ _ hr
theorem zGQ:∀ (names:List (Str × NameKind)) (n:Nat) (acc:List (Str × Addr)),(∀ x c,acc.lookup x=some c->c < n)->(∀ x y c,acc.lookup x=some c->acc.lookup y=some c->x=y)->
  ∀ x y c,(cellsFrom n names acc).lookup x=some c->(cellsFrom n names acc).lookup y=some c->x=y
 | [],_,_,_,h2=>h2
 | (z,k) :: r,n,acc,h1,h2=>by
  unfold cellsFrom
  split
  ·have look:∀ x c,((z,n) :: acc).lookup x=some c->(x=z/\c=n)\/acc.lookup x=some c:=fun x c e=>by
    rw [List.lookup_cons] at e
    cases q:x == z with
    | true=>
     simp only [q] at e
     exact .inl ⟨eq_of_beq q,(Option.some.inj e).symm⟩
    | false=>
     simp only [q] at e
     exact .inr e
   refine zGQ r (n + 1) ((z,n) :: acc) (fun x c e=>?_) fun x y c e1 e2=>?_
   ·rcases look x c e with ⟨_,e⟩ | e
    ·rw [e]
     exact Nat.lt_succ_self n
    ·exact Nat.lt_succ_of_lt (h1 x c e)
   ·rcases look x c e1 with ⟨a1,b1⟩ | a1 <;> rcases look y c e2 with ⟨a2,b2⟩ | a2
    ·rw [a1,a2]
    ·have:=h1 y c a2
     rw [b1] at this
     exact absurd this (Nat.lt_irrefl n)
    ·have:=h1 x c a1
     rw [b2] at this
     exact absurd this (Nat.lt_irrefl n)
    ·exact h2 x y c a1 a2
  ·exact zGQ r n acc h1 h2
theorem zE0 {x:Str} {c:Addr}:∀ (names:List (Str × NameKind)) (h:Heap) (acc:List (Str × Addr)),(cellsFrom h.objs.size names acc).lookup x=some c->acc.lookup x=some c\/(pushCells h names).IsCell c none
 | [],_,_,e=>.inl e
 | (y,k) :: r,h,acc,e=>by
  unfold cellsFrom at e
  unfold pushCells
  split at e
  ·rename_i hk
   rw [if_pos hk]
   have q:=zE0 (x:=x) (c:=c) r (h.push { cls:=.type "cell",data:=.cell none }) ((y,h.objs.size) :: acc) (by rw [Heap.size_push]; exact e)
   rcases q with q | q
   ·rw [List.lookup_cons] at q
    cases z:x == y with
    | true=>
     simp only [z] at q
     cases q
     exact .inr ⟨_,pushCells_keeps r _ _ _ (Heap.get?_push_size _ rfl),rfl⟩
    | false=>
     simp only [z] at q
     exact .inl q
   ·exact .inr q
  ·rename_i hk
   rw [if_neg hk]
   exact zE0 r h acc e
theorem zCg:∀ {l:List (Str × NameKind)} {x:Str} {k:NameKind},(l.map (·.1)).Nodup->(x,k)∈l->l.lookup x=some k
 | [],_,_,_,h=>by cases h
 | (y,j) :: r,x,k,nd,h=>by
  rw [List.map_cons,List.nodup_cons] at nd
  rw [List.lookup_cons]
  rcases List.mem_cons.mp h with e | h
  ·cases e
   rw [beq_self_eq_true]
  ·have ne:(x == y)=false:=by
    cases q:x == y with
    | false=>rfl
    | true=>exact absurd (by rw [<- eq_of_beq q]; exact List.mem_map.mpr ⟨(x,k),h,rfl⟩) nd.1
   simp only [ne]
   exact zCg nd.2 h
theorem zEp {M:Model} {A:Around} {E:Value->Shared->Prop} {s:Shared} {scope:Scope} {globals:Addr} {closure:List (Str × Addr)} {qual:Str} {func:Option Addr} {code:Value} {env:Env} {builtins:Addr} {Q:Env->Shared->Prop}
  (h:Q (newEnv scope s.heap.objs.size globals (cellsFrom (s.heap.objs.size + 1) scope.names closure) qual func code (some env) builtins) { s with heap:=pushCells (s.heap.push { cls:=.type "dict",data:=.dict #[] }) scope.names }) :
  wpAny M A (newFunctionEnv scope globals closure [] qual func code (some env) builtins) Q E s:=by
 simp only [newFunctionEnv,Option.isSome_some,if_true]
 refine wpAny_bind (wpAny_alloc ?_)
 refine wpAny_bind (wpAny_layCells _ (fun name kind cells=>by cases hkc:kind == NameKind.cell <;> simp [hkc]) _ _ _ _ ?_)
 rw [show ({ s with heap:=s.heap.push { cls:=.type "dict",data:=.dict #[] } }:Shared).heap.objs.size=s.heap.objs.size + 1 from Heap.size_push ..]
 simp only [List.forIn_nil]
 exact wpAny_bind (wpAny_pure (wpAny_pure h))
abbrev zAe (X:Cx) (scope:Scope) (N:List Str) (C:Addr) (s₀:Shared) (H₀:Hp) (ex:List Addr):Cx:=
 { X with N:=N,s₀:=s₀,H₀:=H₀,env:=compEnvC scope (cellsFrom (C + 1) scope.names (zBj scope X.env)) C X.env,outer:=X.stack,ex:=ex,fn:=fun x=>scope.names.lookup x == some .cell,pn:=[],xe:=fun _ _=>False }
structure zDe (X:Cx) (scope:Scope) (own:List Str) (caps:List (Nat × Str)):Prop where
 kind:scope.kind=.function
 nod:(scope.names.map (·.1)).Nodup
 locs:∀ y∈scope.names,y.2=.local->scope.names.lookup y.1=some .local
 free:∀ y∈scope.names,y.2=.free->(X.env.cells.lookup y.1).isSome=true
 caps:∀ p∈caps,X.N[p.1]? = some p.2/\scope.names.lookup p.2=some .free/\(X.env.kindOf p.2=some .cell\/X.env.kindOf p.2=some .free)
section
variable {X:Cx} {scope:Scope} {own:List Str} {caps:List (Nat × Str)} {pins:List (Addr × Obj)} {σ:St} {H:Hp} {s s4:Shared} {C D:Addr} {fp:List Addr}
theorem zCj (B:zDe X scope own caps) {x:Str} {c n:Nat} (e:(cellsFrom n scope.names (zBj scope X.env)).lookup x=some c):((x,NameKind.cell)∈scope.names/\n<=c)\/X.env.cells.lookup x=some c:=
 (zEF _ _ _ e).imp id fun z=>(zCi B.free z).1
theorem zHJ (I:Inv X pins σ H s) {x:Str} {c:Addr} (e:X.env.cells.lookup x=some c):c < s.heap.objs.size:=by
 obtain ⟨v,o,ho,_⟩:=I.cell x c e
 exact Heap.lt_size ho
theorem zNU (B:zDe X scope own caps) (I:Inv X pins σ H s) (hf:∀ b∈fp,FpOk X pins H b) (hC:s.heap.objs.size<=C) (hlt:∀ b∈fp,b < s.heap.objs.size):(zAe X scope (blkN own caps) C s H fp).Ok where
 mod:=I.ok.mod
 kind:=B.kind
 glob:=I.ok.glob
 blt:=I.ok.blt
 above:=hC
 inj:=zGQ _ _ _ (fun x c e=>Nat.lt_of_lt_of_le (zHJ I (zCi B.free e).1) (Nat.le_succ_of_le hC)) fun x y c h1 h2=>I.ok.inj x y c (zCi B.free h1).1 (zCi B.free h2).1
 has:=fun x h=>by
  have fr:(x,NameKind.free)∈scope.names->∃ c,(cellsFrom (C + 1) scope.names (zBj scope X.env)).lookup x=some c:=fun z=>by
   obtain ⟨c,e⟩:=zFI (env:=X.env) z
   exact Option.isSome_iff_exists.mp (PySem.W.cellsFrom_some _ _ _ (.inr (by rw [e]; rfl)))
  have ce:(x,NameKind.cell)∈scope.names->∃ c,(cellsFrom (C + 1) scope.names (zBj scope X.env)).lookup x=some c:=fun z=>
   Option.isSome_iff_exists.mp (PySem.W.cellsFrom_some _ _ _ (.inl (zCg B.nod z)))
  rcases h with h | h
  ·rcases zFN (show (relabel scope X.env).names.lookup x=some .cell from h) with ⟨_,z | z⟩ | z
   ·exact fr z
   ·exact ce z
   ·exact ce z
  ·rcases zFN (show (relabel scope X.env).names.lookup x=some .free from h) with ⟨z,_⟩ | z
   ·cases z
   ·exact fr z
 cab:=fun x c h e=>by
  have hx:scope.names.lookup x=some .cell:=eq_of_beq h
  rcases zEF _ _ _ e with ⟨_,z⟩ | z
  ·exact Nat.le_trans hC (Nat.le_of_succ_le z)
  ·have:=zCg B.nod (zCi B.free z).2
   rw [hx] at this
   cases this
 hd:=I.ok.hd
 frames:=I.ok.frames
 stk:=.inl rfl
 exf:=fun b hb=>⟨fun e=>by have:=hlt b hb; rw [e] at this; exact absurd (Nat.lt_of_lt_of_le this hC) (Nat.lt_irrefl _),fun x c e=>by
  rcases zCj B e with ⟨_,z⟩ | z
  ·exact nlt1 (hlt b hb) hC z
  ·exact (hf b hb).2.2.2.2.1 x c z⟩
 bs:=I.bs
 bsz:=Nat.le_trans I.ok.bsz I.sz
 noex:=fun b o e hb=>by
  rcases (hf b hb).2.2.2.1 with z | z
  ·exact I.ok.noex b o e z
  ·exact absurd (Nat.lt_of_lt_of_le (Heap.lt_size e) (Nat.le_trans I.ok.bsz z)) (Nat.lt_irrefl _)
 exfs:=fun b hb z=>by
  rcases List.mem_cons.mp (I.stkSub b z) with e | z
  ·exact (hf b hb).2.1 e
  ·exact (hf b hb).2.2.1 z
 funs:=I.stack
 frf:=I.stkFree
theorem zJI (B:zDe X scope own caps) (I:Inv X pins σ H s) (hf:∀ b∈fp,FpOk X pins H b) (hC:s.heap.objs.size<=C) (hlt:∀ b∈fp,b < s.heap.objs.size)
  {m:Str->Option Value} (hn:s4.heap.Ns C m) (hk:∀ b o,s.heap.get? b=some o->s4.heap.get? b=some o) (hcell:∀ x c,(cellsFrom (C + 1) scope.names (zBj scope X.env)).lookup x=some c->(zBj scope X.env).lookup x=some c\/s4.heap.IsCell c none) (ho:s4.os=s.os) (hb:AllBare s4.gens) :
  Inv (zAe X scope (blkN own caps) C s H fp) [] (zFJ own caps σ) H s4 where
 ok:=zNU B I hf hC hlt
 os:=ho
 bare:=hb
 base:=Un.kept hk
 loc:=⟨m,hn,fun i x v h1 h2 h3=>by
  obtain ⟨j,hm,hs⟩:=zMR h1 h2
  obtain ⟨c1,c2,c3⟩:=B.caps _ hm
  obtain ⟨m',_,hl⟩:=I.loc
  have vis:Vis X.env.scope x:=c3.elim (fun z=>.inr (.inl z)) fun z=>.inr (.inr z)
  obtain ⟨u,r,l⟩:=hl j x v c1 hs vis
  refine ⟨u,r,.inr ?_⟩
  have hm2:(x,NameKind.free)∈scope.names:=zCf c2
  obtain ⟨c',hc'⟩:=zFI (env:=X.env) hm2
  have hc2:=(zCi B.free hc').1
  have noc:(x,NameKind.cell)∉scope.names:=fun z=>by
   have:=zCg B.nod z
   rw [c2] at this
   cases this
  refine ⟨?_,c',(zET _ _ _ noc).trans hc',?_⟩
  ·show (relabel scope X.env).names.lookup x=some .cell\/(relabel scope X.env).names.lookup x=some .free
   rw [zFM,c2,Option.map_some]
   split
   ·exact .inl rfl
   ·exact .inr rfl
  ·rcases l with ⟨k,_⟩ | ⟨_,c,e,z⟩
   ·rcases c3 with c3 | c3 <;> rw [c3] at k <;> cases k
   ·rw [hc2] at e
    cases e
    obtain ⟨o,e1,e2⟩:=z
    exact ⟨o,hk _ o e1,e2⟩⟩
 cell:=fun x c e=>by
  rcases hcell x c e with z | z
  ·obtain ⟨v,o,e1,e2⟩:=I.cell x c (zCi B.free z).1
   exact ⟨v,o,hk _ o e1,e2⟩
  ·exact ⟨none,z⟩
 free:=I.hok.fresh hC
 freeC:=fun x c e=>by
  rcases zCj B e with ⟨_,z⟩ | z
  ·exact I.hok.fresh (Nat.le_trans hC (Nat.le_of_succ_le z))
  ·exact I.freeC x c z
 pin:=fun p hp=>by simp at hp
 hok:=I.hok.kept hk
 len:=by
  show (zFJ own caps σ).length=(blkN own caps).length
  unfold zFJ blkN
  simp
end
section
variable {X:Cx} {scope:Scope} {own:List Str} {caps:List (Nat × Str)} {elt tg iter cond:Expr} {wi:TI} {g:TG} {tc:TT} {te:TE} {pos:Pos}
theorem zGm {pins:List (Addr × Obj)} {σ:St} {H2:Hp} {s2:Shared} {it:Addr} {fp:List Addr} {tn:Nat->Heap->Prop} {J:It} {W:Nat->Nat->List V->St->Hp->Prop} {m0:Nat} {Q:VK} {E:Value->Shared->Prop} {RR:Value->Addr->Result->Shared->Prop}
  (B:zDe X scope own caps) (hc:X.calm=true) (hg:∀ C s₀ H₀ ex,PG (zAe X scope (blkN own caps) C s₀ H₀ ex) tg g) (he:∀ C s₀ H₀ ex,PE (zAe X scope (blkN own caps) C s₀ H₀ ex) elt te)
  (I2:Inv X pins σ H2 s2) (T:Turn X.prog X.w X.K tg J fp it tn) (st2:tn 0 s2.heap) (f2:∀ b∈fp,FpOk X pins H2 b) (w0:W 0 m0 [] (zFJ own caps σ) H2)
  (turn:∀ i m ys σ1 H,W i m ys σ1 H->(J.stop i H/\∀ p,H p=none->Q (.ref p) (upd H p (.lst ys)))∨
   (J.go i H/\ys.length < sizeLine/\∃ N:V->St->Hp->Prop,(∀ y σ' H',N y σ' H'->∃ m',m' < m/\W (i + 1) m' (ys++[y]) σ' H')/\∀ x H',J.yld i H x H'->g x σ1 H' fun σ2 H2=>te σ2 H2 fun y H3=>N y σ2 H3))
  (hRR:∀ D C s6 H6 ys m,s6.heap.Ns C m->s2.heap.objs.size<=C->(∀ h',Heap.SameBut C s6.heap h'->Inv X pins σ (upd H6 D (.lst ys)) { s6 with heap:=h' })->upd H6 D (.lst ys) C=none->Q (.ref D) (upd H6 D (.lst ys))->RR (.ref D) C (.ok .next) s6) :
  wpAny (model X.prog X.w) X.A (newList []) (fun acc s3=>wpAny (model X.prog X.w) X.A (newFunctionEnv scope X.env.globals (zBj scope X.env) [] X.env.qual none .none (some X.env)) (fun cenv s4=>
   codeAny (model X.prog X.w) X.A (.compStart (.ListComp elt [⟨tg,iter,[],0⟩] scope pos) 0 (.ref it) acc { cenv with scope:=relabel scope X.env }) (RR acc cenv.locals) s4) E s3) E s2:=by
 have hlt:∀ b∈fp,b < s2.heap.objs.size:=fun b hb=>by
  obtain ⟨o,ho,_⟩:=T.obj _ _ st2 b hb
  exact Heap.lt_size ho
 refine wpAny_newObj_type (zEp ?_)
 dsimp only
 generalize hP:s2.heap.push { cls:=.type "list",dict:=none,data:=.seq ([]:List Value).toArray }=HD
 have hns:(pushCells (HD.push { cls:=.type "dict",data:=.dict #[] }) scope.names).Ns HD.objs.size (fun _=>none):=(Heap.Ns.new HD (.type "dict")).keeps (pushCells_keeps _ _)
 have hkp:∀ b o,HD.get? b=some o->(pushCells (HD.push { cls:=.type "dict",data:=.dict #[] }) scope.names).get? b=some o:=fun b o e=>pushCells_keeps _ _ b o (Heap.get?_push_of_some _ e)
 have hcell:∀ x c,(cellsFrom (HD.objs.size + 1) scope.names (zBj scope X.env)).lookup x=some c->(zBj scope X.env).lookup x=some c\/(pushCells (HD.push { cls:=.type "dict",data:=.dict #[] }) scope.names).IsCell c none:=fun x c e=>
  zE0 _ _ _ (by rw [Heap.size_push]; exact e)
 generalize hP4:pushCells (HD.push { cls:=.type "dict",data:=.dict #[] }) scope.names=h4 at hns hkp hcell |-
 have hCD:HD.objs.size=s2.heap.objs.size + 1:=by rw [<- hP,Heap.size_push]
 have hDC:s2.heap.objs.size≠HD.objs.size:=by omega
 have hle:s2.heap.objs.size<=HD.objs.size:=by omega
 have old:∀ b o,s2.heap.get? b=some o->h4.get? b=some o:=fun b o eb=>hkp b o (by rw [<- hP]; exact Heap.get?_push_of_some _ eb)
 have hD4:h4.get? s2.heap.objs.size=some { cls:=.type "list",data:=.seq ([]:List Value).toArray 0 }:=hkp _ _ (by rw [<- hP]; exact Heap.get?_push_size _ rfl)
 have IY:Inv (zAe X scope (blkN own caps) HD.objs.size s2 H2 fp) [] (zFJ own caps σ) H2 { s2 with heap:=h4 }:=
  zJI B I2 f2 (by omega) hlt hns old hcell rfl I2.bare
 have stat:∀ {H':Hp},(∀ b∈fp,H' b=none)->∀ b∈fp,FpOk (zAe X scope (blkN own caps) HD.objs.size s2 H2 fp) [] H' b:=fun {H'} hn b hb=>by
  have hb2:=hlt b hb
  refine ⟨hn b hb,?_,fun z=>?_,.inl hb,fun x c ec=>(match zCj B ec with | .inl z=>nlt1 hb2 hle z.2 | .inr z=>(f2 b hb).2.2.2.2.1 x c z),fun p hp=>by simp at hp⟩
  ·exact Nat.ne_of_lt (Nat.lt_of_lt_of_le hb2 hle)
  ·rcases List.mem_cons.mp (I2.stkSub b z) with e | z
   ·exact (f2 b hb).2.1 e
   ·exact (f2 b hb).2.2.1 z
 have statD:∀ {H':Hp},H' s2.heap.objs.size=none->FpOk (zAe X scope (blkN own caps) HD.objs.size s2 H2 fp) [] H' s2.heap.objs.size:=fun {H'} hn=>by
  refine ⟨hn,hDC,fun z=>?_,.inr (Nat.le_refl _),fun x c ec z=>?_,fun p hp=>by simp at hp⟩
  ·obtain ⟨_,o,ho,_⟩:=I2.stack.mem z
   exact absurd (Heap.lt_size ho) (Nat.lt_irrefl _)
  ·rcases zCj B ec with ⟨_,y⟩ | y
   ·exact nlt2 hCD y z
   ·have:=zHJ I2 y
    rw [z] at this
    exact Nat.lt_irrefl _ this
 have neD:∀ b∈fp,b≠s2.heap.objs.size:=fun b hb=>Nat.ne_of_lt (hlt b hb)
 have IY':Inv (zAe X scope (blkN own caps) HD.objs.size s2 H2 fp) [(s2.heap.objs.size,lobj [] 0)] (zFJ own caps σ) H2 { s2 with heap:=h4 }:=
  IY.pins_of fun p hp=>by
   rw [List.mem_singleton.mp hp]
   have z:=statD (I2.hok.fresh (Nat.le_refl _))
   exact ⟨hD4,z.1,z.2.1,z.2.2.1,fun v z=>by cases z⟩
 have loop:∀ s3:Shared,s3={ s2 with heap:=h4 }->
   codeAny (model X.prog X.w) X.A (.compLoop (.ListComp elt [⟨tg,iter,[],0⟩] scope pos) 0 (.ref it) (.ref s2.heap.objs.size) (compEnvC scope (cellsFrom (HD.objs.size + 1) scope.names (zBj scope X.env)) HD.objs.size X.env))
    (RR (.ref s2.heap.objs.size) HD.objs.size) s3:=by
  rintro s3 rfl
  refine zJ3 (fun n s'=>∃ i ys σ' H' its k,Inv (zAe X scope (blkN own caps) HD.objs.size s2 H2 fp) [(s2.heap.objs.size,lobj its k)] σ' H' s'/\tn i s'.heap/\(∀ b∈fp,H' b=none)∧
   Vals ys its/\ys.length<=sizeLine/\W i n ys σ' H') ?_ m0 ⟨0,[],_,H2,[],0,IY',T.keep _ _ _ st2 fun b hb o eb=>old b o eb,fun b hb=>(f2 b hb).1,.nil,Nat.zero_le _,w0⟩
  rintro n s5 ⟨i,ys,σ5,H5,its,k,I5,st5,fr5,rv5,hz5,w5⟩
  have stat5:∀ {H':Hp},(∀ b∈fp,H' b=none)->∀ b∈fp,FpOk (zAe X scope (blkN own caps) HD.objs.size s2 H2 fp) [(s2.heap.objs.size,lobj its k)] H' b:=fun {H'} hn b hb=>by
   obtain ⟨a1,a2,a3,a4,a5,_⟩:=stat hn b hb
   refine ⟨a1,a2,a3,a4,a5,fun p hp=>?_⟩
   have hp':p∈[(s2.heap.objs.size,lobj its k)]:=hp
   rw [List.mem_singleton.mp hp']
   exact Ne.symm (neD b hb)
  rcases turn i n ys σ5 H5 w5 with ⟨stop,qn⟩ | ⟨go,hlen,N,hN,step⟩
  ·refine thn (T.done (zAe X scope (blkN own caps) HD.objs.size s2 H2 fp) rfl rfl rfl hc i _ s5 σ5 H5 _ I5 (stat5 fr5) st5 stop) fun r s6 ⟨hr,I6⟩=>?_
   subst hr
   obtain ⟨pD1,pD2,_⟩:=I6.pin (s2.heap.objs.size,lobj its k) (List.mem_append_right _ List.mem_cons_self)
   obtain ⟨m6,hn6,_⟩:=I6.loc
   refine hRR _ _ s6 H5 ys m6 hn6 (by omega) (fun h' sb=>?_) (by rw [zAW (Ne.symm hDC)]; exact I6.free) (qn _ pD2)
   have hC5:H5 HD.objs.size=none:=I6.free
   have nb:∀ b o,s2.heap.get? b=some o->b≠HD.objs.size/\b≠s2.heap.objs.size:=fun b o eb=>by
    have hb:=Heap.lt_size eb
    exact ⟨Nat.ne_of_lt (Nat.lt_of_lt_of_le hb hle),Nat.ne_of_lt hb⟩
   have nt:∀ b o,H5 b=some o->b≠s2.heap.objs.size:=fun b o eb z=>by rw [z] at eb; rw [show H5 s2.heap.objs.size=none from pD2] at eb; cases eb
   have un:Un (frs X.stack) fp H2 (upd H5 s2.heap.objs.size (.lst ys)) s2.heap h':=
    ⟨fun b o eb n1 n2 n3=>sb.extBut b o (nb b o eb).1 (I6.base.keep b o eb n1 n2 n3),
     fun b o eb n1 n2 n3=>by
      obtain ⟨sl,e1⟩:=I6.base.slot b o eb n1 n2 n3
      exact ⟨sl,sb.extBut b _ (nb b o eb).1 e1⟩,
     fun b o eb n1 n3=>by
      rw [zAW (nb b o eb).2]
      exact I6.base.free b o eb n1 n3,
     fun b o eb n3=>by
      obtain ⟨o',e1⟩:=I6.base.there b o eb n3
      exact ⟨o',sb.extBut b _ (nb b o eb).1 e1⟩,
     fun b xs eb=>by
      have e1:=I6.base.tups b xs eb
      rw [zAW (nt b _ e1)]
      exact e1,
     fun b o u eb=>by
      have e1:=I6.base.frzs b o u eb
      rw [zAW (nt b _ e1)]
      exact e1,
     fun b ps eb=>by
      obtain ⟨more,e1⟩:=I6.base.tbls b ps eb
      refine ⟨more,?_⟩
      rw [zAW (nt b _ e1)]
      exact e1⟩
   have ok5:HOk X.prog X.w (upd H5 s2.heap.objs.size (.lst ys)) h':=fun b u eb=>by
    by_cases hb:b=s2.heap.objs.size
    ·subst hb
     rw [zAF] at eb
     cases eb
     exact ⟨hz5,its,k,rv5,sb.extBut _ _ hDC pD1⟩
    ·rw [zAW hb] at eb
     refine (I6.hok b u eb).stay (fun c v hcv ev=>sb.extBut c v ?_ ev) (fun c ec=>by rw [zAW (nt c _ ec)]; exact ec) fun c xs ec=>by rw [zAW (nt c _ ec)]; exact ec
     rintro rfl
     rcases hcv with z | z
     ·rw [<- z,hC5] at eb
      cases eb
     ·rw [hC5] at z
      cases z
   exact I2.call' (s':={ s6 with heap:=h' }) (ch:=fp) I6.os un ok5 I6.bare fun b hb=>⟨(f2 b hb).2.2.2.1,(f2 b hb).2.1,(f2 b hb).2.2.2.2.1,(f2 b hb).2.2.2.2.2⟩
  ·refine thn (T.item (zAe X scope (blkN own caps) HD.objs.size s2 H2 fp) rfl rfl rfl hc i _ s5 σ5 H5 _ I5 (stat5 fr5) st5 go) fun r s6 ⟨u,hr,h6⟩=>?_
   subst hr
   refine thn h6 fun _ s7 ⟨x,H7,I7,r7,y7,st7,fr7⟩=>?_
   have I7':=I7.pinned (stat5 fr7) (T.obj _ _ st7)
   refine thn (hg HD.objs.size s2 H2 fp _ s7 σ5 H7 x u _ I7' r7 (step x H7 y7)) fun _ s8 ⟨σ8,H8,I8,q8⟩=>?_
   refine thn (he HD.objs.size s2 H2 fp _ s8 σ8 H8 _ I8 q8) fun yv s9 ⟨y,H9,I9,r9,n9⟩=>?_
   obtain ⟨m',hm',w9⟩:=hN y σ8 H9 n9
   have pD9:=(I9.pin (s2.heap.objs.size,lobj its k) (List.mem_append_right _ (List.mem_append_left _ List.mem_cons_self))).2.1
   have hl:its.length=ys.length:=rv5.length.symm
   refine zJH (Y:=zAe X scope (blkN own caps) HD.objs.size s2 H2 fp) (its:=its) (k:=k) (pl:=zGj fp s7.heap) I9 (statD pD9) rfl (by omega) fun h' k' tk keep I'=>?_
   refine ⟨m',hm',i + 1,ys++[y],σ8,H9,its++[yv],k',I',?_,fun b hb=>?_,rv5.append (.cons r9 .nil),?_,w9⟩
   ·refine T.keep _ _ _ st7 fun b hb o eb=>keep b o (neD b hb) ?_
    exact (I9.pin (b,o) (List.mem_append_right _ (List.mem_append_right _ (zCN hb eb)))).1
   ·obtain ⟨o,eb,_⟩:=T.obj _ _ st7 b hb
    exact (I9.pin (b,o) (List.mem_append_right _ (List.mem_append_right _ (zCN hb eb)))).2.1
   ·rw [List.length_append,List.length_singleton]
    omega
 exact codeAny_compStart_list (loop _ rfl) (T.self _ 0 _ _ _ (T.keep _ _ _ st2 fun b hb o eb=>old b o eb) (loop _ rfl))
theorem zAr (B:zDe X scope own caps) (hc:X.calm=true) (hi:PI X tg iter wi) (hg:∀ C s₀ H₀ ex,PG (zAe X scope (blkN own caps) C s₀ H₀ ex) tg g)
  (he:∀ C s₀ H₀ ex,PE (zAe X scope (blkN own caps) C s₀ H₀ ex) elt te) (hs:∀ x,foldedSetIterable iter X.env x=pure x:=by intro _; rfl) :
  PE X (.ListComp elt [⟨tg,iter,[],0⟩] scope pos) (zNm own caps wi g te):=by
 intro pins s σ H Q I h
 rw [eval_ListComp]
 refine wpAny_comprehension_free (use:=none) rfl hs (zEE B.free) B.kind B.locs ?_
 refine thn (hi pins s σ H _ I h) fun xv s1 h1=>thn h1 fun itv s2 h2=>?_
 obtain ⟨it,fp,tn,J,H2,e,I2,T,st2,f2,W,⟨m0,w0⟩,turn⟩:=h2
 subst e
 refine zGm (RR:=fun acc C=>compPost (model X.prog X.w) X.A X.xe none (EP X pins σ Q) acc C) B hc hg he I2 T st2 f2 w0 turn fun D C s6 H6 ys m hn hC J6 hC6 q=>?_
 exact ⟨m,hn,fun h' sb=>⟨.ref D,_,J6 h' sb,rfl,q⟩⟩
theorem zEB {i:Nat} {y:Str} {py spos:Pos} (hN:X.N.Nodup) (hy:X.N[i]? = some y) (hl:X.env.scope.names.lookup y=some .local) (B:zDe X scope own caps) (hc:X.calm=true) (hi:PI X tg iter wi) (hg:∀ C s₀ H₀ ex,PG (zAe X scope (blkN own caps) C s₀ H₀ ex) tg g)
  (he:∀ C s₀ H₀ ex,PE (zAe X scope (blkN own caps) C s₀ H₀ ex) elt te) (hsw:swapsWith (.ListComp elt [⟨tg,iter,[],0⟩] scope pos) (some (.Name y py)) spos.line X.env=pure true) (hs:∀ x,foldedSetIterable iter X.env x=pure x:=by intro _; rfl) :
  PS X (.Assign [.Name y py] (.ListComp elt [⟨tg,iter,[],0⟩] scope pos) spos) (tAsg (zNm own caps wi g te) (zEu i)):=by
 intro pins s σ H D0 I h
 rw [exec_Assign_Name_used _ _ _ _ hsw]
 refine wpAny_bind (wpAny_standAt (wpAny_bind ?_))
 change wpAny _ X.A (do let _ <- comprehension (.ListComp elt [⟨tg,iter,[],0⟩] scope pos) scope X.env _ (newList []) false (eval iter X.env) (some (assign (.Name y py) X.env))) _ _ s
 refine wpAny_bind (wpAny_mono (wpAny_comprehension_free (use:=some (assign (.Name y py) X.env)) (Q:=fun _ s'=>SP X pins D0 .next s') rfl hs (zEE B.free) B.kind B.locs ?_) (fun _ s' hq=>wpAny_pure (wpAny_pure hq)) fun _ _ e=>e)
 refine thn (hi pins s σ H _ I h) fun xv s1 h1=>thn h1 fun itv s2 h2=>?_
 obtain ⟨it,fp,tn,J,H2,e,I2,T,st2,f2,W,⟨m0,w0⟩,turn⟩:=h2
 subst e
 refine zGm (Q:=fun x H1=>D0.nx (σ.set i (some x)) H1) (RR:=fun acc C=>compPost (model X.prog X.w) X.A X.xe (some (assign (.Name y py) X.env)) (fun _ s'=>SP X pins D0 .next s') acc C) B hc hg he I2 T st2 f2 w0 turn fun D C s6 H6 ys m hn hC J6 hC6 q=>?_
 have I6:Inv X pins σ (upd H6 D (.lst ys)) s6:=J6 s6.heap (.refl ..)
 have CL:C≠X.env.locals:=fun z=>by rw [z] at hC; exact absurd (Nat.lt_of_lt_of_le I2.lt hC) (Nat.lt_irrefl _)
 have CC:∀ x c,X.env.cells.lookup x=some c->c≠C:=fun x c ec z=>by
  obtain ⟨v,o,ho,_⟩:=I2.cell x c ec
  rw [z] at ho
  exact absurd (Nat.lt_of_lt_of_le (Heap.lt_size ho) hC) (Nat.lt_irrefl _)
 have CP:∀ p∈X.pn++pins,p.1≠C:=fun p hp z=>by
  have hl:=Heap.lt_size (I2.pin p hp).1
  rw [z] at hl
  exact absurd (Nat.lt_of_lt_of_le hl hC) (Nat.lt_irrefl _)
 change wpAny _ X.A (assign (.Name y py) X.env (.ref D)) _ _ s6
 refine wpAny_assign_Name (zFx I6 hN hy (.inl hl) (v:=.ref D) rfl (fun s7 I7 ⟨a,sb,ha⟩=>?_) (.inr hl))
 have aC:C≠a:=fun z=>by
  rcases ha with e | e
  ·exact CL (z.trans e)
  ·exact CC _ _ e z.symm
 refine ⟨m,hn.sameBut sb aC,fun h' sb'=>⟨_,_,I7.turned (h':=h') (t':=s7.toks) (it:=C) (fun b o hb eb=>sb'.extBut b o hb eb) hC6 CL (.inr (Nat.le_trans I2.sz hC)) CC CP,q⟩⟩
theorem zGP {pins:List (Addr × Obj)} {σ:St} {H2:Hp} {s2:Shared} {it:Addr} {fp:List Addr} {tn:Nat->Heap->Prop} {J:It} {W:Nat->Nat->List V->St->Hp->Prop} {m0:Nat} {Q:VK} {E:Value->Shared->Prop} {RR:Value->Addr->Result->Shared->Prop}
  (B:zDe X scope own caps) (hc:X.calm=true) (hg:∀ C s₀ H₀ ex,PG (zAe X scope (blkN own caps) C s₀ H₀ ex) tg g) (ht:∀ C s₀ H₀ ex,PT (zAe X scope (blkN own caps) C s₀ H₀ ex) cond tc) (he:∀ C s₀ H₀ ex,PE (zAe X scope (blkN own caps) C s₀ H₀ ex) elt te)
  (I2:Inv X pins σ H2 s2) (T:Turn X.prog X.w X.K tg J fp it tn) (st2:tn 0 s2.heap) (f2:∀ b∈fp,FpOk X pins H2 b) (w0:W 0 m0 [] (zFJ own caps σ) H2)
  (turn:∀ i m ys σ1 H,W i m ys σ1 H->(J.stop i H/\∀ p,H p=none->Q (.ref p) (upd H p (.lst ys)))∨
   (J.go i H/\ys.length < sizeLine/\∃ (N:V->St->Hp->Prop) (N0:St->Hp->Prop),(∀ y σ' H',N y σ' H'->∃ m',m' < m/\W (i + 1) m' (ys++[y]) σ' H')/\(∀ σ' H',N0 σ' H'->∃ m',m' < m/\W (i + 1) m' ys σ' H')∧
    ∀ x H',J.yld i H x H'->g x σ1 H' fun σ2 H2=>tc σ2 H2 fun b H3=>if b=true then te σ2 H3 fun y H4=>N y σ2 H4 else N0 σ2 H3))
  (hRR:∀ D C s6 H6 ys m,s6.heap.Ns C m->s2.heap.objs.size<=C->(∀ h',Heap.SameBut C s6.heap h'->Inv X pins σ (upd H6 D (.lst ys)) { s6 with heap:=h' })->upd H6 D (.lst ys) C=none->Q (.ref D) (upd H6 D (.lst ys))->RR (.ref D) C (.ok .next) s6) :
  wpAny (model X.prog X.w) X.A (newList []) (fun acc s3=>wpAny (model X.prog X.w) X.A (newFunctionEnv scope X.env.globals (zBj scope X.env) [] X.env.qual none .none (some X.env)) (fun cenv s4=>
   codeAny (model X.prog X.w) X.A (.compStart (.ListComp elt [⟨tg,iter,[cond],0⟩] scope pos) 0 (.ref it) acc { cenv with scope:=relabel scope X.env }) (RR acc cenv.locals) s4) E s3) E s2:=by
 have hlt:∀ b∈fp,b < s2.heap.objs.size:=fun b hb=>by
  obtain ⟨o,ho,_⟩:=T.obj _ _ st2 b hb
  exact Heap.lt_size ho
 refine wpAny_newObj_type (zEp ?_)
 dsimp only
 generalize hP:s2.heap.push { cls:=.type "list",dict:=none,data:=.seq ([]:List Value).toArray }=HD
 have hns:(pushCells (HD.push { cls:=.type "dict",data:=.dict #[] }) scope.names).Ns HD.objs.size (fun _=>none):=(Heap.Ns.new HD (.type "dict")).keeps (pushCells_keeps _ _)
 have hkp:∀ b o,HD.get? b=some o->(pushCells (HD.push { cls:=.type "dict",data:=.dict #[] }) scope.names).get? b=some o:=fun b o e=>pushCells_keeps _ _ b o (Heap.get?_push_of_some _ e)
 have hcell:∀ x c,(cellsFrom (HD.objs.size + 1) scope.names (zBj scope X.env)).lookup x=some c->(zBj scope X.env).lookup x=some c\/(pushCells (HD.push { cls:=.type "dict",data:=.dict #[] }) scope.names).IsCell c none:=fun x c e=>
  zE0 _ _ _ (by rw [Heap.size_push]; exact e)
 generalize hP4:pushCells (HD.push { cls:=.type "dict",data:=.dict #[] }) scope.names=h4 at hns hkp hcell |-
 have hCD:HD.objs.size=s2.heap.objs.size + 1:=by rw [<- hP,Heap.size_push]
 have hDC:s2.heap.objs.size≠HD.objs.size:=by omega
 have hle:s2.heap.objs.size<=HD.objs.size:=by omega
 have old:∀ b o,s2.heap.get? b=some o->h4.get? b=some o:=fun b o eb=>hkp b o (by rw [<- hP]; exact Heap.get?_push_of_some _ eb)
 have hD4:h4.get? s2.heap.objs.size=some { cls:=.type "list",data:=.seq ([]:List Value).toArray 0 }:=hkp _ _ (by rw [<- hP]; exact Heap.get?_push_size _ rfl)
 have IY:Inv (zAe X scope (blkN own caps) HD.objs.size s2 H2 fp) [] (zFJ own caps σ) H2 { s2 with heap:=h4 }:=
  zJI B I2 f2 (by omega) hlt hns old hcell rfl I2.bare
 have stat:∀ {H':Hp},(∀ b∈fp,H' b=none)->∀ b∈fp,FpOk (zAe X scope (blkN own caps) HD.objs.size s2 H2 fp) [] H' b:=fun {H'} hn b hb=>by
  have hb2:=hlt b hb
  refine ⟨hn b hb,?_,fun z=>?_,.inl hb,fun x c ec=>(match zCj B ec with | .inl z=>nlt1 hb2 hle z.2 | .inr z=>(f2 b hb).2.2.2.2.1 x c z),fun p hp=>by simp at hp⟩
  ·exact Nat.ne_of_lt (Nat.lt_of_lt_of_le hb2 hle)
  ·rcases List.mem_cons.mp (I2.stkSub b z) with e | z
   ·exact (f2 b hb).2.1 e
   ·exact (f2 b hb).2.2.1 z
 have statD:∀ {H':Hp},H' s2.heap.objs.size=none->FpOk (zAe X scope (blkN own caps) HD.objs.size s2 H2 fp) [] H' s2.heap.objs.size:=fun {H'} hn=>by
  refine ⟨hn,hDC,fun z=>?_,.inr (Nat.le_refl _),fun x c ec z=>?_,fun p hp=>by simp at hp⟩
  ·obtain ⟨_,o,ho,_⟩:=I2.stack.mem z
   exact absurd (Heap.lt_size ho) (Nat.lt_irrefl _)
  ·rcases zCj B ec with ⟨_,y⟩ | y
   ·exact nlt2 hCD y z
   ·have:=zHJ I2 y
    rw [z] at this
    exact Nat.lt_irrefl _ this
 have neD:∀ b∈fp,b≠s2.heap.objs.size:=fun b hb=>Nat.ne_of_lt (hlt b hb)
 have IY':Inv (zAe X scope (blkN own caps) HD.objs.size s2 H2 fp) [(s2.heap.objs.size,lobj [] 0)] (zFJ own caps σ) H2 { s2 with heap:=h4 }:=
  IY.pins_of fun p hp=>by
   rw [List.mem_singleton.mp hp]
   have z:=statD (I2.hok.fresh (Nat.le_refl _))
   exact ⟨hD4,z.1,z.2.1,z.2.2.1,fun v z=>by cases z⟩
 have loop:∀ s3:Shared,s3={ s2 with heap:=h4 }->
   codeAny (model X.prog X.w) X.A (.compLoop (.ListComp elt [⟨tg,iter,[cond],0⟩] scope pos) 0 (.ref it) (.ref s2.heap.objs.size) (compEnvC scope (cellsFrom (HD.objs.size + 1) scope.names (zBj scope X.env)) HD.objs.size X.env))
    (RR (.ref s2.heap.objs.size) HD.objs.size) s3:=by
  rintro s3 rfl
  refine zIY (fun n s'=>∃ i ys σ' H' its k,Inv (zAe X scope (blkN own caps) HD.objs.size s2 H2 fp) [(s2.heap.objs.size,lobj its k)] σ' H' s'/\tn i s'.heap/\(∀ b∈fp,H' b=none)∧
   Vals ys its/\ys.length<=sizeLine/\W i n ys σ' H') ?_ m0 ⟨0,[],_,H2,[],0,IY',T.keep _ _ _ st2 fun b hb o eb=>old b o eb,fun b hb=>(f2 b hb).1,.nil,Nat.zero_le _,w0⟩
  rintro n s5 ⟨i,ys,σ5,H5,its,k,I5,st5,fr5,rv5,hz5,w5⟩
  have stat5:∀ {H':Hp},(∀ b∈fp,H' b=none)->∀ b∈fp,FpOk (zAe X scope (blkN own caps) HD.objs.size s2 H2 fp) [(s2.heap.objs.size,lobj its k)] H' b:=fun {H'} hn b hb=>by
   obtain ⟨a1,a2,a3,a4,a5,_⟩:=stat hn b hb
   refine ⟨a1,a2,a3,a4,a5,fun p hp=>?_⟩
   have hp':p∈[(s2.heap.objs.size,lobj its k)]:=hp
   rw [List.mem_singleton.mp hp']
   exact Ne.symm (neD b hb)
  rcases turn i n ys σ5 H5 w5 with ⟨stop,qn⟩ | ⟨go,hlen,N,N0,hN,hN0,step⟩
  ·refine thn (T.done (zAe X scope (blkN own caps) HD.objs.size s2 H2 fp) rfl rfl rfl hc i _ s5 σ5 H5 _ I5 (stat5 fr5) st5 stop) fun r s6 ⟨hr,I6⟩=>?_
   subst hr
   obtain ⟨pD1,pD2,_⟩:=I6.pin (s2.heap.objs.size,lobj its k) (List.mem_append_right _ List.mem_cons_self)
   obtain ⟨m6,hn6,_⟩:=I6.loc
   refine hRR _ _ s6 H5 ys m6 hn6 (by omega) (fun h' sb=>?_) (by rw [zAW (Ne.symm hDC)]; exact I6.free) (qn _ pD2)
   have hC5:H5 HD.objs.size=none:=I6.free
   have nb:∀ b o,s2.heap.get? b=some o->b≠HD.objs.size/\b≠s2.heap.objs.size:=fun b o eb=>by
    have hb:=Heap.lt_size eb
    exact ⟨Nat.ne_of_lt (Nat.lt_of_lt_of_le hb hle),Nat.ne_of_lt hb⟩
   have nt:∀ b o,H5 b=some o->b≠s2.heap.objs.size:=fun b o eb z=>by rw [z] at eb; rw [show H5 s2.heap.objs.size=none from pD2] at eb; cases eb
   have un:Un (frs X.stack) fp H2 (upd H5 s2.heap.objs.size (.lst ys)) s2.heap h':=
    ⟨fun b o eb n1 n2 n3=>sb.extBut b o (nb b o eb).1 (I6.base.keep b o eb n1 n2 n3),
     fun b o eb n1 n2 n3=>by
      obtain ⟨sl,e1⟩:=I6.base.slot b o eb n1 n2 n3
      exact ⟨sl,sb.extBut b _ (nb b o eb).1 e1⟩,
     fun b o eb n1 n3=>by
      rw [zAW (nb b o eb).2]
      exact I6.base.free b o eb n1 n3,
     fun b o eb n3=>by
      obtain ⟨o',e1⟩:=I6.base.there b o eb n3
      exact ⟨o',sb.extBut b _ (nb b o eb).1 e1⟩,
     fun b xs eb=>by
      have e1:=I6.base.tups b xs eb
      rw [zAW (nt b _ e1)]
      exact e1,
     fun b o u eb=>by
      have e1:=I6.base.frzs b o u eb
      rw [zAW (nt b _ e1)]
      exact e1,
     fun b ps eb=>by
      obtain ⟨more,e1⟩:=I6.base.tbls b ps eb
      refine ⟨more,?_⟩
      rw [zAW (nt b _ e1)]
      exact e1⟩
   have ok5:HOk X.prog X.w (upd H5 s2.heap.objs.size (.lst ys)) h':=fun b u eb=>by
    by_cases hb:b=s2.heap.objs.size
    ·subst hb
     rw [zAF] at eb
     cases eb
     exact ⟨hz5,its,k,rv5,sb.extBut _ _ hDC pD1⟩
    ·rw [zAW hb] at eb
     refine (I6.hok b u eb).stay (fun c v hcv ev=>sb.extBut c v ?_ ev) (fun c ec=>by rw [zAW (nt c _ ec)]; exact ec) fun c xs ec=>by rw [zAW (nt c _ ec)]; exact ec
     rintro rfl
     rcases hcv with z | z
     ·rw [<- z,hC5] at eb
      cases eb
     ·rw [hC5] at z
      cases z
   exact I2.call' (s':={ s6 with heap:=h' }) (ch:=fp) I6.os un ok5 I6.bare fun b hb=>⟨(f2 b hb).2.2.2.1,(f2 b hb).2.1,(f2 b hb).2.2.2.2.1,(f2 b hb).2.2.2.2.2⟩
  ·refine thn (T.item (zAe X scope (blkN own caps) HD.objs.size s2 H2 fp) rfl rfl rfl hc i _ s5 σ5 H5 _ I5 (stat5 fr5) st5 go) fun r s6 ⟨u,hr,h6⟩=>?_
   subst hr
   refine thn h6 fun _ s7 ⟨x,H7,I7,r7,y7,st7,fr7⟩=>?_
   have I7':=I7.pinned (stat5 fr7) (T.obj _ _ st7)
   refine thn (hg HD.objs.size s2 H2 fp _ s7 σ5 H7 x u _ I7' r7 (step x H7 y7)) fun _ s8 ⟨σ8,H8,I8,q8⟩=>?_
   refine thn (ht HD.objs.size s2 H2 fp _ s8 σ8 H8 _ I8 q8) fun ok sT ⟨HT,IT,qT⟩=>?_
   cases ok with
   | false=>
    obtain ⟨m',hm',w9⟩:=hN0 σ8 HT qT
    refine ⟨m',hm',i + 1,ys,σ8,HT,its,k,IT.unpinned,?_,fun b hb=>?_,rv5,hz5,w9⟩
    ·refine T.keep _ _ _ st7 fun b hb o eb=>?_
     exact (IT.pin (b,o) (List.mem_append_right _ (List.mem_append_right _ (zCN hb eb)))).1
    ·obtain ⟨o,eb,_⟩:=T.obj _ _ st7 b hb
     exact (IT.pin (b,o) (List.mem_append_right _ (List.mem_append_right _ (zCN hb eb)))).2.1
   | true=>
    refine thn (he HD.objs.size s2 H2 fp _ sT σ8 HT _ IT qT) fun yv s9 ⟨y,H9,I9,r9,n9⟩=>?_
    obtain ⟨m',hm',w9⟩:=hN y σ8 H9 n9
    have pD9:=(I9.pin (s2.heap.objs.size,lobj its k) (List.mem_append_right _ (List.mem_append_left _ List.mem_cons_self))).2.1
    have hl:its.length=ys.length:=rv5.length.symm
    refine zJH (Y:=zAe X scope (blkN own caps) HD.objs.size s2 H2 fp) (its:=its) (k:=k) (pl:=zGj fp s7.heap) I9 (statD pD9) rfl (by omega) fun h' k' tk keep I'=>?_
    refine ⟨m',hm',i + 1,ys++[y],σ8,H9,its++[yv],k',I',?_,fun b hb=>?_,rv5.append (.cons r9 .nil),?_,w9⟩
    ·refine T.keep _ _ _ st7 fun b hb o eb=>keep b o (neD b hb) ?_
     exact (I9.pin (b,o) (List.mem_append_right _ (List.mem_append_right _ (zCN hb eb)))).1
    ·obtain ⟨o,eb,_⟩:=T.obj _ _ st7 b hb
     exact (I9.pin (b,o) (List.mem_append_right _ (List.mem_append_right _ (zCN hb eb)))).2.1
    ·rw [List.length_append,List.length_singleton]
     omega
 exact codeAny_compStart_list (loop _ rfl) (T.self _ 0 _ _ _ (T.keep _ _ _ st2 fun b hb o eb=>old b o eb) (loop _ rfl))
theorem zKc (B:zDe X scope own caps) (hc:X.calm=true) (hi:PI X tg iter wi) (hg:∀ C s₀ H₀ ex,PG (zAe X scope (blkN own caps) C s₀ H₀ ex) tg g)
  (ht:∀ C s₀ H₀ ex,PT (zAe X scope (blkN own caps) C s₀ H₀ ex) cond tc) (he:∀ C s₀ H₀ ex,PE (zAe X scope (blkN own caps) C s₀ H₀ ex) elt te) (hs:∀ x,foldedSetIterable iter X.env x=pure x:=by intro _; rfl) :
  PE X (.ListComp elt [⟨tg,iter,[cond],0⟩] scope pos) (zMY own caps wi g tc te):=by
 intro pins s σ H Q I h
 rw [eval_ListComp]
 refine wpAny_comprehension_free (use:=none) rfl hs (zEE B.free) B.kind B.locs ?_
 refine thn (hi pins s σ H _ I h) fun xv s1 h1=>thn h1 fun itv s2 h2=>?_
 obtain ⟨it,fp,tn,J,H2,e,I2,T,st2,f2,W,⟨m0,w0⟩,turn⟩:=h2
 subst e
 refine zGP (RR:=fun acc C=>compPost (model X.prog X.w) X.A X.xe none (EP X pins σ Q) acc C) B hc hg ht he I2 T st2 f2 w0 turn fun D C s6 H6 ys m hn hC J6 hC6 q=>?_
 exact ⟨m,hn,fun h' sb=>⟨.ref D,_,J6 h' sb,rfl,q⟩⟩
theorem zEm {i:Nat} {y:Str} {py spos:Pos} (hN:X.N.Nodup) (hy:X.N[i]? = some y) (hl:X.env.scope.names.lookup y=some .local) (B:zDe X scope own caps) (hc:X.calm=true) (hi:PI X tg iter wi) (hg:∀ C s₀ H₀ ex,PG (zAe X scope (blkN own caps) C s₀ H₀ ex) tg g)
  (ht:∀ C s₀ H₀ ex,PT (zAe X scope (blkN own caps) C s₀ H₀ ex) cond tc) (he:∀ C s₀ H₀ ex,PE (zAe X scope (blkN own caps) C s₀ H₀ ex) elt te) (hsw:swapsWith (.ListComp elt [⟨tg,iter,[cond],0⟩] scope pos) (some (.Name y py)) spos.line X.env=pure true) (hs:∀ x,foldedSetIterable iter X.env x=pure x:=by intro _; rfl) :
  PS X (.Assign [.Name y py] (.ListComp elt [⟨tg,iter,[cond],0⟩] scope pos) spos) (tAsg (zMY own caps wi g tc te) (zEu i)):=by
 intro pins s σ H D0 I h
 rw [exec_Assign_Name_used _ _ _ _ hsw]
 refine wpAny_bind (wpAny_standAt (wpAny_bind ?_))
 change wpAny _ X.A (do let _ <- comprehension (.ListComp elt [⟨tg,iter,[cond],0⟩] scope pos) scope X.env _ (newList []) false (eval iter X.env) (some (assign (.Name y py) X.env))) _ _ s
 refine wpAny_bind (wpAny_mono (wpAny_comprehension_free (use:=some (assign (.Name y py) X.env)) (Q:=fun _ s'=>SP X pins D0 .next s') rfl hs (zEE B.free) B.kind B.locs ?_) (fun _ s' hq=>wpAny_pure (wpAny_pure hq)) fun _ _ e=>e)
 refine thn (hi pins s σ H _ I h) fun xv s1 h1=>thn h1 fun itv s2 h2=>?_
 obtain ⟨it,fp,tn,J,H2,e,I2,T,st2,f2,W,⟨m0,w0⟩,turn⟩:=h2
 subst e
 refine zGP (Q:=fun x H1=>D0.nx (σ.set i (some x)) H1) (RR:=fun acc C=>compPost (model X.prog X.w) X.A X.xe (some (assign (.Name y py) X.env)) (fun _ s'=>SP X pins D0 .next s') acc C) B hc hg ht he I2 T st2 f2 w0 turn fun D C s6 H6 ys m hn hC J6 hC6 q=>?_
 have I6:Inv X pins σ (upd H6 D (.lst ys)) s6:=J6 s6.heap (.refl ..)
 have CL:C≠X.env.locals:=fun z=>by rw [z] at hC; exact absurd (Nat.lt_of_lt_of_le I2.lt hC) (Nat.lt_irrefl _)
 have CC:∀ x c,X.env.cells.lookup x=some c->c≠C:=fun x c ec z=>by
  obtain ⟨v,o,ho,_⟩:=I2.cell x c ec
  rw [z] at ho
  exact absurd (Nat.lt_of_lt_of_le (Heap.lt_size ho) hC) (Nat.lt_irrefl _)
 have CP:∀ p∈X.pn++pins,p.1≠C:=fun p hp z=>by
  have hl:=Heap.lt_size (I2.pin p hp).1
  rw [z] at hl
  exact absurd (Nat.lt_of_lt_of_le hl hC) (Nat.lt_irrefl _)
 change wpAny _ X.A (assign (.Name y py) X.env (.ref D)) _ _ s6
 refine wpAny_assign_Name (zFx I6 hN hy (.inl hl) (v:=.ref D) rfl (fun s7 I7 ⟨a,sb,ha⟩=>?_) (.inr hl))
 have aC:C≠a:=fun z=>by
  rcases ha with e | e
  ·exact CL (z.trans e)
  ·exact CC _ _ e z.symm
 refine ⟨m,hn.sameBut sb aC,fun h' sb'=>⟨_,_,I7.turned (h':=h') (t':=s7.toks) (it:=C) (fun b o hb eb=>sb'.extBut b o hb eb) hC6 CL (.inr (Nat.le_trans I2.sz hC)) CC CP,q⟩⟩
end
theorem zMS {X:Cx} {scope S:Scope} {own N:List Str} {caps:List (Nat × Str)} (k:scope.kind=.function) (nd:(scope.names.map (·.1)).Nodup)
  (hS:X.env.scope=S) (hc:∃ n,X.env.cells=cellsFrom n S.names []) (hN:X.N=N) (fr:scope.names.all (fun y=>y.2 != .free || S.names.lookup y.1 == some .cell)=true)
  (cp:caps.all (fun p=>N[p.1]? == some p.2 && scope.names.lookup p.2 == some .free && S.names.lookup p.2 == some .cell)=true):zDe X scope own caps:=by
 obtain ⟨nn,hc⟩:=hc
 refine ⟨k,nd,fun y hy e=>?_,fun y hy e=>?_,fun p hp=>?_⟩
 ·exact zCg nd (by rw [<- e]; exact hy)
 ·have q:=List.all_eq_true.mp fr y hy
  rw [e] at q
  have q2:S.names.lookup y.1=some .cell:=by simpa using q
  rw [hc]
  exact PySem.W.cellsFrom_some S.names nn [] (.inl q2)
 ·have q:=List.all_eq_true.mp cp p hp
  simp only [Bool.and_eq_true,beq_iff_eq] at q
  refine ⟨by rw [hN]; exact q.1.1,q.1.2,.inl ?_⟩
  show X.env.scope.names.lookup p.2=some .cell
  rw [hS]
  exact q.2
theorem zOS {Y:Cx} {scope S:Scope} {own own0:List Str} {caps caps0:List (Nat × Str)} {C:Addr} {s₀:Shared} {H₀:Hp} {ex:List Addr} (k:scope.kind=.function) (nd:(scope.names.map (·.1)).Nodup)
  (ndS:(S.names.map (·.1)).Nodup) (fr:scope.names.all (fun y=>y.2 != .free || S.names.lookup y.1 == some .cell || S.names.lookup y.1 == some .free)=true)
  (cp:caps.all (fun p=>(blkN own0 caps0)[p.1]? == some p.2 && scope.names.lookup p.2 == some .free)=true):zDe (zAe Y S (blkN own0 caps0) C s₀ H₀ ex) scope own caps:=by
 have fr':∀ y∈scope.names,y.2=.free->S.names.lookup y.1=some .cell\/S.names.lookup y.1=some .free:=fun y hy e=>by
  have q:=List.all_eq_true.mp fr y hy
  rw [e] at q
  simpa using q
 refine ⟨k,nd,fun y hy e=>?_,fun y hy e=>?_,fun p hp=>?_⟩
 ·exact zCg nd (by rw [<- e]; exact hy)
 ·show ((cellsFrom (C + 1) S.names (zBj S Y.env)).lookup y.1).isSome=true
  refine PySem.W.cellsFrom_some _ _ _ ?_
  rcases fr' y hy e with z | z
  ·exact .inl z
  ·obtain ⟨c,e⟩:=zFI (env:=Y.env) (zCf z)
   exact .inr (by rw [e]; rfl)
 ·have q:=List.all_eq_true.mp cp p hp
  simp only [Bool.and_eq_true,beq_iff_eq] at q
  refine ⟨q.1,q.2,?_⟩
  show (relabel S Y.env).names.lookup p.2=some .cell\/(relabel S Y.env).names.lookup p.2=some .free
  rw [zFM]
  rcases fr' _ (zCf q.2) rfl with z | z
  ·left
   show (S.names.lookup p.2).map _=_
   rw [z]
   rfl
  ·show (S.names.lookup p.2).map _=_\/(S.names.lookup p.2).map _=_
   rw [z,Option.map_some]
   split
   ·exact .inl rfl
   ·exact .inr rfl
end L2
namespace Sh
open PySem L2
def zBR (ns:List Int) (k:Int):Int:=(ns[k.toNat]?).getD 0
inductive zGe (K:PySem.W.Frag) (vs:List V) (H:Hp) (Q:VK) (E:XK):Prop
 | mk (a:Addr) (ns:List Int) (k:Int) (_:vs=[.ref a,.int k]) (_:SqL K H a (ns.map V.int)) (_:0<=k) (_:Q (.int (zBR ns k)) H):zGe K vs H Q E
theorem zAI {H:Hp} {p:Addr} (h:H p=none) (o:HO):Same H (upd H p o):=fun b u q=>by rw [zAW (zAo q h)]; exact q
theorem at0 {x y:V}:atI [x,y] 0=some x:=rfl
theorem at1 {x y:V}:atI [x,y] 1=some y:=rfl
def Tp (H:Hp) (v:V) (xs:List V):Prop:=∃ a,v=.ref a/\H a=some (.tup xs)
theorem Tp.same {H H':Hp} {v:V} {xs:List V} (s:Same H H') (h:Tp H v xs):Tp H' v xs:=let ⟨r,e,q⟩:=h; ⟨r,e,s _ _ q⟩
theorem Tp.upd {H:Hp} {v:V} {xs:List V} {l:Addr} {o o':HO} (hl:H l=some o) (n:∀ ys,o≠.tup ys) (h:Tp H v xs):Tp (upd H l o') v xs:=by
 obtain ⟨r,e,q⟩:=h
 exact ⟨r,e,by rw [zAW (zKx q hl fun z=>n _ z.symm)]; exact q⟩
theorem zAc {α β:Type} {R:α->β->Prop}:∀ {xs:List α} {ys:List β} {i:Nat} {x:α},Paired R xs ys->xs[i]? = some x->∃ y,ys[i]? = some y/\R x y
 | _,_,_,_,.nil,e=>by simp at e
 | _,_,0,_,.cons r _,e=>by simp at e; subst e; exact ⟨_,rfl,r⟩
 | _,_,i + 1,x,.cons _ t,e=>by
  obtain ⟨y,h1,h2⟩:=zAc (i:=i) (x:=x) t (by simpa using e)
  exact ⟨y,by simpa using h1,h2⟩
theorem zAb {α β:Type} {R:α->β->Prop} {x:α} {y:β} (r:R x y):∀ {xs:List α} {ys:List β},Paired R xs ys->Paired R (xs++[x]) (ys++[y])
 | _,_,.nil=>.cons r .nil
 | _,_,.cons q t=>.cons q (zAb r t)
theorem zDa {α β:Type} {R:α->β->Prop}:∀ {xs zs:List α} {ys us:List β},Paired R xs ys->Paired R zs us->Paired R (xs++zs) (ys++us)
 | _,_,_,_,.nil,h=>h
 | _,_,_,_,.cons q t,h=>.cons q (zDa t h)
theorem zAa {α:Type} {l:List α} {i:Nat} {x:α} (h:l[i]? = some x):l.take (i + 1)=l.take i++[x]:=by
 obtain ⟨hi,e⟩:=List.getElem?_eq_some_iff.mp h
 rw [List.take_succ_eq_append_getElem hi,e]
theorem zLt {H H':Hp} {g:Addr} {o:HO} (h:Same H H') (hg:H g=none):Same H (upd H' g o):=fun b u e=>by
 rw [zAW (zAo e hg)]
 exact h b u e
abbrev zBT (H:Hp) (vs:List V) (ks:List (List Int)):Prop:=Paired (fun v (k:List Int)=>Tp H v (k.map V.int)) vs ks
theorem zBT.same {H H':Hp} {vs:List V} {ks:List (List Int)} (s:Same H H') (h:zBT H vs ks):zBT H' vs ks:=Paired.mapP h fun _ _ z=>Tp.same s z
theorem zBD (K:PySem.W.Frag):PySem.W.kitOne K (.type "list") (.type "list")=some true:=by first | rfl | decide +kernel | (unfold PySem.W.kitOne; rw [if_pos (by decide +kernel)])
def keyL (ws:List Int):List Key:=ws.map Sum.inl
inductive zKM (K:PySem.W.Frag) (vs:List V) (H:Hp) (Q:VK) (E:XK):Prop
 | mk (a:Addr) (ns:List Int) (_:vs=[.ref a]) (_:SqL K H a (ns.map V.int)) (_:ns.length<=63) (_:∀ H',Q (.bl true) H'):zKM K vs H Q E
inductive zCu (vs:List V) (H:Hp) (Q:VK) (E:XK):Prop
 | mk (c m:Int) (_:vs=[.int c,.int m]) (_:0<=m) (_:m<=100) (_:∀ (r:Addr) (H':Hp) (xs:List Int),Same H H'->H r=none->H' r=some (.lst (xs.map V.int))->xs.length=m.toNat->(∀ x∈xs,0<=x/\x < 10 ^ 45)->Q (.ref r) H'):zCu vs H Q E
theorem zNZ {xs:List Int} {j:Nat} (h:j < xs.length):atI (xs.map V.int) (j:Int)=some (.int (xs[j]'h)):=zDJ (by rw [List.getElem?_map,List.getElem?_eq_getElem h]; rfl)
theorem zBW {xs:List Int} {i:Nat} {x:V} (h:(xs.map V.int)[i]? = some x):∃ z,xs[i]? = some z/\x=V.int z:=by
 rw [List.getElem?_map] at h
 cases e:xs[i]? with
 | none=>rw [e] at h; cases h
 | some z=>rw [e] at h; exact ⟨z,rfl,(Option.some.inj h).symm⟩
end Sh
namespace L2
open PySem PySem.Spec PyProof.Rows
def ItzL (K:PySem.W.Frag) (a b:Addr):It:=
 ⟨fun i H=>∃ xs ys x y,SqL K H a xs/\SqL K H b ys/\xs[i]? = some x/\ys[i]? = some y,
  fun i H v H'=>∃ T x y,v=.ref T/\H T=none/\H'=upd H T (.tup [x,y])/\(∀ xs,SqL K H a xs->xs[i]? = some x)/\∀ ys,SqL K H b ys->ys[i]? = some y,
  fun i H=>∃ xs ys,SqL K H a xs/\SqL K H b ys/\i<=xs.length/\i<=ys.length/\(i=xs.length\/i=ys.length)⟩
theorem zKD {P:Program} {w:World} {K:PySem.W.Frag} {es:List Expr} {kk:Nat} {tp:Pos} {a b z TI TO i1 i2:Addr} (Z:Zp z TI TO i1 i2 [i1,a] [i2,b]) (na:a≠i1) (nb:b≠i2) :
  Turn P w K (.Tuple es kk tp) (ItzL K a b) [z,TI,TO,i1,i2] z (fun i h=>IsZip h z TI TO .none/\IsPair h TI (.ref i1) (.ref i2)/\(∃ x y,IsPair h TO x y)/\h.IsListIter i1 a i/\h.IsListIter i2 b i) where
 mem:=by simp
 obj:=fun i h ⟨t1,t2,⟨x,y,t3⟩,t4,t5⟩ c hc=>by
  simp only [List.mem_cons,List.not_mem_nil,or_false] at hc
  rcases hc with rfl | rfl | rfl | rfl | rfl
  ·exact ⟨_,t1,zAl⟩
  ·exact ⟨_,t2,zBw⟩
  ·exact ⟨_,t3,zBw⟩
  ·obtain ⟨o,e,_,d⟩:=t4
   exact ⟨o,e,by rw [d]; exact zAl⟩
  ·obtain ⟨o,e,_,d⟩:=t5
   exact ⟨o,e,by rw [d]; exact zAl⟩
 keep:=fun i h h' ⟨t1,t2,⟨x,y,t3⟩,t4,t5⟩ k=>⟨k z (by simp) _ t1,k TI (by simp) _ t2,⟨x,y,k TO (by simp) _ t3⟩,(by obtain ⟨o,e,r⟩:=t4; exact ⟨o,k i1 (by simp) o e,r⟩),(by obtain ⟨o,e,r⟩:=t5; exact ⟨o,k i2 (by simp) o e,r⟩)⟩
 item:=by
  intro X hP hw hK hc i pins s σ H E I hf ⟨t1,t2,⟨x0,y0,t3⟩,t4,t5⟩ hg
  subst hP hw hK
  obtain ⟨xs,ys,x,y,hq1,hq2,hx,hy⟩:=hg
  obtain ⟨its1,rv1,p1,_⟩:=I.list hq1
  obtain ⟨its2,rv2,p2,_⟩:=I.list hq2
  obtain ⟨u,hu,ru⟩:=rv1.get hx
  obtain ⟨v,hv,rv⟩:=rv2.get hy
  have hh:X.A.in1.handled=none:=I.ok.hd hc
  have l1:i < its1.toArray.size:=by rw [List.size_toArray]; exact (List.getElem?_eq_some_iff.mp hu).1
  have l2:i < its2.toArray.size:=by rw [List.size_toArray]; exact (List.getElem?_eq_some_iff.mp hv).1
  refine zFZ (Draws.list hh i1 a na its1.toArray) (Draws.list hh i2 b nb its2.toArray) Z t1 t2 t3 ⟨t4,p1.isList⟩ ⟨t5,p2.isList⟩ l1 l2 ?_
  intro x' y' h1 tk px py z1 z2 z3 z4 z5 z6 keep
  have ex:x'=u:=by
   have q:its1.toArray[i]? = some x':=px
   simp only [List.getElem?_toArray] at q
   rw [hu] at q
   exact (Option.some.inj q).symm
  have ey:y'=v:=by
   have q:its2.toArray[i]? = some y':=py
   simp only [List.getElem?_toArray] at q
   rw [hv] at q
   exact (Option.some.inj q).symm
  subst ex ey
  refine ⟨_,rfl,wpAny_letOwnedTupleGo_zip (s:={ s with heap:=h1,toks:=tk }) z1 fun h2 z7 sb=>?_⟩
  have zlt:z < s.heap.objs.size:=Heap.lt_size t1
  have keep2:∀ c o,c∉[z,TI,TO,i1,i2]->s.heap.get? c=some o->h2.get? c=some o:=fun c o hc e=>by
   simp only [List.mem_cons,List.not_mem_nil,or_false,not_or] at hc
   exact sb.extBut c o hc.1 (keep c o hc.1 hc.2.2.1 hc.2.2.2.1 hc.2.2.2.2 e)
  have pT:IsPair h2 s.heap.objs.size x' y':=sb.extBut _ _ (Nat.ne_of_gt zlt) z6
  have I':=I.turnT (h':=h2) (tk:=tk) (ch:=[z,TI,TO,i1,i2]) (x:=x) (y:=y) hf keep2 (Nat.le_refl _) pT ru rv
  refine ⟨.ref s.heap.objs.size,_,I',rfl,⟨s.heap.objs.size,x,y,rfl,I.hok.fresh (Nat.le_refl _),rfl,fun xs' q=>by rw [I.list_inj q hq1]; exact hx,fun ys' q=>by rw [I.list_inj q hq2]; exact hy⟩,
   ⟨z7,sb.extBut _ _ Z.a1 z2,⟨_,_,sb.extBut _ _ Z.a2 z3⟩,z4.1.extBut sb.extBut Z.a3,z5.1.extBut sb.extBut Z.a4⟩,fun c hc=>?_⟩
  have:=(hf c hc).1
  rw [zAW]
  ·exact this
  ·intro q
   obtain ⟨o,e,_⟩:∃ o,s.heap.get? c=some o/\True:=by
    simp only [List.mem_cons,List.not_mem_nil,or_false] at hc
    rcases hc with rfl | rfl | rfl | rfl | rfl
    ·exact ⟨_,t1,trivial⟩
    ·exact ⟨_,t2,trivial⟩
    ·exact ⟨_,t3,trivial⟩
    ·obtain ⟨o,e,_⟩:=t4; exact ⟨o,e,trivial⟩
    ·obtain ⟨o,e,_⟩:=t5; exact ⟨o,e,trivial⟩
   rw [q] at e
   exact absurd (Heap.lt_size e) (Nat.lt_irrefl _)
 done:=by
  intro X hP hw hK hc i pins s σ H E I hf ⟨t1,t2,⟨x0,y0,t3⟩,t4,t5⟩ hg
  subst hP hw hK
  obtain ⟨xs,ys,hq1,hq2,e1,e2,e3⟩:=hg
  obtain ⟨its1,rv1,p1,_⟩:=I.list hq1
  obtain ⟨its2,rv2,p2,_⟩:=I.list hq2
  have hh:X.A.in1.handled=none:=I.ok.hd hc
  have n1:its1.toArray.size=xs.length:=by rw [List.size_toArray]; exact rv1.length.symm
  have n2:its2.toArray.size=ys.length:=by rw [List.size_toArray]; exact rv2.length.symm
  refine zGt (Draws.list hh i1 a na its1.toArray) (Draws.list hh i2 b nb its2.toArray) Z t1 t2 t3 ⟨t4,p1.isList⟩ ⟨t5,p2.isList⟩ (by omega) (by omega) (by omega) ?_
  intro h1 tk keep
  refine ⟨rfl,I.turnN (h':=h1) (tk:=tk) (ch:=[z,TI,TO,i1,i2]) hf fun c o hc e=>?_⟩
  simp only [List.mem_cons,List.not_mem_nil,or_false,not_or] at hc
  exact keep c o hc.1 hc.2.2.1 hc.2.2.2.1 hc.2.2.2.2 e
 self:=fun _ _ _ _ _ st h=>wpAny_pyIter_zip st.1 h
section
variable {X:Cx} {es:List Expr} {kk:Nat} {tp:Pos}
end
theorem zMK {K:PySem.W.Frag} {a b:Addr} {xs ys:List V} {g:TG} {tb:TS} {D:Ends} {σ:St} {H:Hp} (Pv:Nat->St->Hp->Prop) (h0:Pv 0 σ H) (hl:∀ i σ H,i<=xs.length->Pv i σ H->SqL K H a xs/\SqL K H b ys) (hlen:xs.length<=ys.length)
  (hs:∀ i x y T σ H,xs[i]? = some x->ys[i]? = some y->H T=none->Pv i σ H->g (.ref T) σ (upd H T (.tup [x,y])) fun σ2 H2=>tb { D with nx:=Pv (i + 1),ct:=Pv (i + 1),bk:=D.nx } σ2 H2) (hd:∀ σ H,Pv xs.length σ H->D.nx σ H) :
  ∃ W:Nat->Nat->St->Hp->Prop,(∃ m,W 0 m σ H)/\∀ i m σ H,W i m σ H->
   ((ItzL K a b).stop i H/\D.nx σ H)\/((ItzL K a b).go i H/\∃ N:St->Hp->Prop,(∀ σ' H',N σ' H'->∃ m',m' < m/\W (i + 1) m' σ' H')/\∀ x H',(ItzL K a b).yld i H x H'->g x σ H' fun σ2 H2=>tb { D with nx:=N,ct:=N,bk:=D.nx } σ2 H2):=by
 refine ⟨fun i m σ H=>m=xs.length - i/\i<=xs.length/\Pv i σ H,⟨xs.length,by simp,Nat.zero_le _,h0⟩,?_⟩
 rintro i m σ H ⟨rfl,hi,p⟩
 obtain ⟨q1,q2⟩:=hl i σ H hi p
 by_cases hlt:i < xs.length
 ·have hlt2:i < ys.length:=by omega
  refine .inr ⟨⟨xs,ys,xs[i],ys[i],q1,q2,by simp [hlt],by simp [hlt2]⟩,Pv (i + 1),fun σ' H' p'=>⟨xs.length - (i + 1),by omega,rfl,hlt,p'⟩,fun v H' y=>?_⟩
  obtain ⟨T,x,y,rfl,hT,rfl,c1,c2⟩:=y
  exact hs i x y T σ H (c1 xs q1) (c2 ys q2) hT p
 ·have e:i=xs.length:=by omega
  subst e
  exact .inl ⟨⟨xs,ys,q1,q2,Nat.le_refl _,hlen,.inl rfl⟩,hd σ H p⟩
theorem zLT {K:PySem.W.Frag} {a b:Addr} {xs ys:List V} {g:TG} {te:TE} {σ0:St} {H:Hp} {Q:VK} (Pv:Nat->List V->St->Hp->Prop) (h0:Pv 0 [] σ0 H) (hl:∀ i zs σ H,i<=xs.length->Pv i zs σ H->SqL K H a xs/\SqL K H b ys/\zs.length<=i) (hlen:xs.length<=ys.length) (hz:xs.length<=sizeLine)
  (hs:∀ i x y T zs σ H,xs[i]? = some x->ys[i]? = some y->H T=none->Pv i zs σ H->g (.ref T) σ (upd H T (.tup [x,y])) fun σ2 H2=>te σ2 H2 fun z H3=>Pv (i + 1) (zs++[z]) σ2 H3)
  (hd:∀ zs σ H,Pv xs.length zs σ H->∀ p,H p=none->Q (.ref p) (upd H p (.lst zs))):zEK (ItzL K a b) g te Q σ0 H:=by
 refine ⟨fun i m zs σ H=>m=xs.length - i/\i<=xs.length/\Pv i zs σ H,⟨xs.length,by simp,Nat.zero_le _,h0⟩,?_⟩
 rintro i m zs σ H ⟨rfl,hi,p⟩
 obtain ⟨q1,q2,hy⟩:=hl i zs σ H hi p
 by_cases hlt:i < xs.length
 ·have hlt2:i < ys.length:=by omega
  refine .inr ⟨⟨xs,ys,xs[i],ys[i],q1,q2,by simp [hlt],by simp [hlt2]⟩,by omega,fun z σ' H'=>Pv (i + 1) (zs++[z]) σ' H',fun z σ' H' p'=>⟨xs.length - (i + 1),by omega,rfl,hlt,p'⟩,fun v H' y=>?_⟩
  obtain ⟨T,x,y,rfl,hT,rfl,c1,c2⟩:=y
  exact hs i x y T zs σ H (c1 xs q1) (c2 ys q2) hT p
 ·have e:i=xs.length:=by omega
  subst e
  exact .inl ⟨⟨xs,ys,q1,q2,Nat.le_refl _,hlen,.inl rfl⟩,hd zs σ H p⟩
theorem zMQ {K:PySem.W.Frag} {a b:Addr} {xs ys:List V} {g:TG} {te:TE} {σ0:St} {H:Hp} {Q:VK} (Pv:Nat->List V->St->Hp->Prop) (h0:Pv 0 [] σ0 H) (hl:∀ i zs σ H,i<=xs.length->Pv i zs σ H->SqT K H a xs/\SqL K H b ys/\zs.length<=i) (hlen:xs.length<=ys.length) (hz:xs.length<=sizeLine)
  (hs:∀ i x y T zs σ H,xs[i]? = some x->ys[i]? = some y->H T=none->Pv i zs σ H->g (.ref T) σ (upd H T (.tup [x,y])) fun σ2 H2=>te σ2 H2 fun z H3=>Pv (i + 1) (zs++[z]) σ2 H3)
  (hd:∀ zs σ H,Pv xs.length zs σ H->∀ p,H p=none->Q (.ref p) (upd H p (.lst zs))):zEK (Itz K a b) g te Q σ0 H:=by
 refine ⟨fun i m zs σ H=>m=xs.length - i/\i<=xs.length/\Pv i zs σ H,⟨xs.length,by simp,Nat.zero_le _,h0⟩,?_⟩
 rintro i m zs σ H ⟨rfl,hi,p⟩
 obtain ⟨q1,q2,hy⟩:=hl i zs σ H hi p
 by_cases hlt:i < xs.length
 ·have hlt2:i < ys.length:=by omega
  refine .inr ⟨⟨xs,ys,xs[i],ys[i],q1,q2,by simp [hlt],by simp [hlt2]⟩,by omega,fun z σ' H'=>Pv (i + 1) (zs++[z]) σ' H',fun z σ' H' p'=>⟨xs.length - (i + 1),by omega,rfl,hlt,p'⟩,fun v H' y=>?_⟩
  obtain ⟨T,x,y,rfl,hT,rfl,c1,c2⟩:=y
  exact hs i x y T zs σ H (c1 xs q1) (c2 ys q2) hT p
 ·have e:i=xs.length:=by omega
  subst e
  exact .inl ⟨⟨xs,ys,q1,q2,Nat.le_refl _,hlen,.inl rfl⟩,hd zs σ H p⟩
end L2
namespace L2
open PySem PySem.Spec PyProof.Rows
section
variable {X:Cx}
end
end L2
namespace Sh
open PySem L2
def FrV (H:Hp) (v:V) (p:Int × Int):Prop:=∃ r,v=.ref r/\H r=some (.tup [.int p.1,.int p.2])
abbrev PtV (H:Hp) (vs:List V) (pts:List (Int × Int)):Prop:=Paired (FrV H) vs pts
def rowV (ws:List Int) (b:Int):List V:=ws.map V.int++[.int b]
theorem FrV.same {H H':Hp} {v:V} {p:Int × Int} (s:Same H H') (h:FrV H v p):FrV H' v p:=let ⟨r,e,q⟩:=h; ⟨r,e,s _ _ q⟩
theorem PtV.same {H H':Hp} {vs:List V} {pts:List (Int × Int)} (s:Same H H') (h:PtV H vs pts):PtV H' vs pts:=Paired.mapP h fun _ _ z=>z.same s
theorem zNu {r:List Int} {j n:Nat} (h:r.length=n + 1) (hj:j<=n):r[j]? = some (r.getD j 0):=by
 have:j < r.length:=by omega
 rw [List.getD_eq_getElem?_getD,List.getElem?_eq_getElem this]
 rfl
def lin (n:Nat) (c:Nat->Int) (r:List Int):Int:=((List.range n).map fun i=>r.getD i 0 * c i).sum
end Sh
namespace L2
open PySem PySem.Spec PyProof.Rows
section
variable {X:Cx} {es:List Expr} {kk:Nat} {tp:Pos}
end
end L2
namespace L2
open PySem PySem.Spec PyProof.Rows
section
variable {prog:Program} {w:World} {A:Around} {E:Value->Shared->Prop} {s:Shared}
end
section
variable {prog:Program} {w:World} {A:Around} {E:Value->Shared->Prop} {s:Shared}
end
section
variable {M:Model} {A:Around} {E:Value->Shared->Prop} {s:Shared}
end
section
variable {X:Cx} {es:List Expr} {kk:Nat} {tp:Pos}
end
end L2
namespace Sh
open PySem L2
inductive Kd where
 | int | bool | non | str | lst | tup | dic
 deriving DecidableEq
def Kd.nm:Kd->String
 | .int=>"int" | .bool=>"bool" | .non=>"NoneType" | .str=>"str" | .lst=>"list" | .tup=>"tuple" | .dic=>"dict"
def Kd.whole:Kd->Bool
 | .int=>true
 | _=>false
def Kd.isInt:Kd->Bool
 | .int=>true
 | .bool=>true
 | _=>false
def Kd.isTup:Kd->Bool
 | .tup=>true
 | _=>false
def Kd.isLst:Kd->Bool
 | .lst=>true
 | _=>false
section
variable (K:PySem.W.Frag)
theorem zK6 (k:Kd):PySem.W.kitOne K (.type k.nm) (.type "tuple")=some k.isTup:=by
 cases k <;> first | rfl | decide +kernel | (unfold PySem.W.kitOne; rw [if_pos (by decide +kernel)]; rfl) | (unfold PySem.W.kitOne; rw [if_neg (by decide +kernel)]; rfl)
theorem zHh (k:Kd):PySem.W.kitOne K (.type k.nm) (.type "list")=some k.isLst:=by
 cases k <;> first | rfl | decide +kernel | (unfold PySem.W.kitOne; rw [if_pos (by decide +kernel)]; rfl) | (unfold PySem.W.kitOne; rw [if_neg (by decide +kernel)]; rfl)
end
end Sh
namespace L2
open PySem PySem.Spec PyProof.Rows
section
variable {X:Cx}
end
end L2
namespace L2
open PySem PySem.Spec PyProof.Rows
structure ClsF (K:PySem.W.Frag) (mg:Str->Option Value) (x:Str) (C:Addr):Prop where
 cl:Cls K C
 mgC:mg x=some (.ref C)
 ha:PySem.W.findIn K (.ref C) "__class__" = some (some (.builtin "object.__class__"))
 hn:PySem.W.specialIn K (.builtin "object.__class__") "__get__" = some (some (.builtin "getset_descriptor.__get__"))
 htk:PySem.W.takesIn K (.builtin "object.__class__")=some true
 hm:PySem.W.mroIn K C (.type "object")=some true
theorem ClsF.ty {K:PySem.W.Frag} {mg:Str->Option Value} {x:Str} {C a dx:Addr} {H:Hp} {fs:List (Str × V)} (T:ClsF K mg x C) (e:H a=some (.ins C dx fs)):TyOf K H (.ref a) (.ref C):=.ins e T.cl T.ha T.hn T.htk T.hm
structure FnM (P:Program) (w:World) (K:PySem.W.Frag) (mg:Str->Option Value) (base:Heap) (C:Addr) (m:Str) (ps:List Str) (k:Nat) (sp:Sp):Prop where
 ex:∃ f fd,FnOk P w K mg base CX0 k f fd ps sp/\Meth K C m f/\zEH K fd ps []
structure FnC (P:Program) (w:World) (K:PySem.W.Frag) (mg:Str->Option Value) (base:Heap) (C:Addr) (ps:List Str) (k:Nat) (sp:Sp):Prop where
 ex:∃ f fd,FnOk P w K mg base CX0 k f fd ps sp/\Mk K C f/\zEH K fd ps []
theorem FnM.mono {P:Program} {w:World} {K:PySem.W.Frag} {mg:Str->Option Value} {base:Heap} {C:Addr} {m:Str} {ps:List Str} {j k:Nat} {sp:Sp} (F:FnM P w K mg base C m ps j sp) (h:j<=k:=by decide):FnM P w K mg base C m ps k sp:=by
 obtain ⟨f,fd,a,b,c⟩:=F.ex
 exact ⟨f,fd,a.mono h,b,c⟩
theorem FnC.mono {P:Program} {w:World} {K:PySem.W.Frag} {mg:Str->Option Value} {base:Heap} {C:Addr} {ps:List Str} {j k:Nat} {sp:Sp} (F:FnC P w K mg base C ps j sp) (h:j<=k:=by decide):FnC P w K mg base C ps k sp:=by
 obtain ⟨f,fd,a,b,c⟩:=F.ex
 exact ⟨f,fd,a.mono h,b,c⟩
section
variable {X:Cx} {C:Addr} {m x:Str} {ps:List Str} {k:Nat} {sp:Sp} {o e:Expr} {es:List Expr} {ta:TE} {t:TA} {p pos apos:Pos} {dv:V}
theorem zEo {pl:Sem Bool} (F:FnM X.prog X.w X.K X.mg X.base C m ps k sp) (T:ClsF X.K X.mg x C) (hr:Room k X.A) (he:PE X o ta)
  (ht:eval (.Call (.Attribute o m apos) [] [] pos) X.env=(do
   let ov <- eval o X.env
   standAt apos.atName
   let (f,first) <- holding [ov] (getMethod ov m pl)
   callWith pos f first (backTo pos (starEach [] X.env)) (backToKw pos (keywordEach [] X.env))):=by rfl) :
  PE X (.Call (.Attribute o m apos) [] [] pos) (zNj C m sp [] E0 ta tNil):=by
 obtain ⟨f,fd,a,b,c⟩:=F.ex
 exact zLz he T.cl b a hr c .nil zL2 ht
theorem zIx (F:FnC X.prog X.w X.K X.mg X.base C ps k sp) (T:ClsF X.K X.mg x C) (hr:Room (k + 1) X.A) (hg:Gl X x) (ha:PA X (e :: es) t)
  (hdb:(x == ("__debug__" : Str))=false:=by decide) (he:starEach (e :: es) X.env=(false,eval e X.env) :: starEach es X.env:=by rfl) (hpl:(backTo pos (starEach es X.env)).any (·.1)=false:=by rfl) :
  PE X (.Call (.Name x p) (e :: es) [] pos) (zNk C sp [] E0 t):=by
 obtain ⟨f,fd,a,b,c⟩:=F.ex
 exact zM4 b a hr hg T.mgC c .nil zL2 ha hdb he hpl
theorem zN7 (T:ClsF X.K X.mg x C) (hg:Gl X x) (hd:(x == ("__debug__" : Str))=false:=by decide):PE X (.Name x pos) (tC (.ref C)):=zKb hg T.mgC rfl hd
def zMc (K:PySem.W.Frag):List V->Hp->VK->Prop:=fun xs H Q=>∃ x C t b,xs=[x,.ref C]/\TyOf K H x t/\PySem.W.kitOne K t (.ref C)=some b/\Q (.bl b) H
theorem zHq:zDr X (.builtin "isinstance") (zMc X.K):=by
 intro pins s σ H xs us Q I r h
 obtain ⟨x,C,t,b,rfl,ty,e,q⟩:=h
 obtain ⟨u,v,rfl,ru,rv⟩:=zMp r
 cases (show v=Value.ref C from rv)
 exact zHj I ru ty e fun tk=>⟨.bl b,H,I.tok tk,rfl,q⟩
end
end L2
namespace L2
open PySem PySem.Spec PyProof.Rows
section
variable {X:Cx} {pos:Pos}
theorem zFr {x:Str} {n:Int} (hg:Gl X x) (h:∃ t,X.mg x=some (.int n t)) (hd:(x == ("__debug__" : Str))=false:=by decide):PE X (.Name x pos) (tC (.int n)):=
 let ⟨t,e⟩:=h
 zKb hg e ⟨t,rfl⟩ hd
end
def zKL:Sp:=fun _ _ _ _=>False
theorem FnOk.none {P:Program} {w:World} {K:PySem.W.Frag} {mg:Str->Option Value} {base:Heap} {CX:CXT} {k:Nat} {f:Addr} {fd:FuncData} {ps:List Str}:FnOk P w K mg base CX k f fd ps zKL:=
 ⟨fun _ _ _ _ h=>h.elim,fun _ _ _ _ _ _ _ _ _ _ _ _ _ h=>h.elim⟩
end L2
namespace L2
open PySem PySem.Spec PyProof.Rows PySem.SeqAt
section
variable {X:Cx}
end
end L2
namespace L2
open PySem PySem.Spec PyProof.Rows
open PySem
abbrev zLg (h:Heap) (t:Addr):Heap:=h.push { cls:=.type "tuple_iterator",data:=.fields #[.ref t,.int 0 0] }
abbrev zLf (h:Heap) (t l:Addr):Heap:=(zLg h t).push { cls:=.type "tuple_iterator",data:=.fields #[.ref l,.int 0 0] }
abbrev zLe (h:Heap) (t l:Addr):Heap:=(zLf h t l).push { cls:=.type "tuple",data:=.seq #[.ref h.objs.size,.ref (zLg h t).objs.size] }
abbrev zLd (h:Heap) (t l:Addr):Heap:=(zLe h t l).push { cls:=.type "tuple",data:=.seq #[.none,.none] }
abbrev zJK (h:Heap) (t l:Addr):Heap:=(zLd h t l).push { cls:=.type "zip",data:=.fields #[.none,.bool false,.bool false,.ref (zLf h t l).objs.size,.ref (zLe h t l).objs.size] }
theorem zJM (t l:Addr) (xs ys:Array Value) :
  Meets (Builtin.«zip.__new__» ⟨[.type "zip",.ref t,.ref l],[]⟩) (fun _ R s=>s.heap.IsTuple t xs/\s.heap.IsTuple l ys/\R (.ok (.ret (.ref (zLd s.heap t l).objs.size))) { s with heap:=zJK s.heap t l }):=
 .of_wp fun prog w A R s h=>by
  obtain ⟨hp,g,d,tk,os⟩:=s; obtain ⟨h1,h2,h⟩:=h
  have hsub:=sub_zip
  have e1:Heap.IsTuple (Shared.heap ⟨hp,g,d,tk,os⟩) t xs:=h1
  have e2:Heap.IsTuple (Shared.heap ⟨hp.push { cls:=.type "tuple_iterator",data:=.fields #[.ref t,.int 0 0] },g,d,tk,os⟩) l ys:=(let ⟨o,e,r⟩:=h2; ⟨o,Heap.get?_push_of_some _ e,r⟩)
  wp_walk using wpAny_pyIter_tuple e1,wpAny_pyIter_tuple e2
  exact ⟨_,rfl,h⟩
theorem zIZ {prog:Program} {w:World} {A:Around} {E:Value->Shared->Prop} {s:Shared} {t l:Addr} {xs ys:Array Value} {Q:Value->Shared->Prop} (h1:s.heap.IsTuple t xs) (h2:s.heap.IsTuple l ys)
  (h:∀ h',IsZip h' (s.heap.objs.size + 4) (s.heap.objs.size + 2) (s.heap.objs.size + 3) .none->IsPair h' (s.heap.objs.size + 2) (.ref s.heap.objs.size) (.ref (s.heap.objs.size + 1))->IsPair h' (s.heap.objs.size + 3) .none .none->
   h'.IsTupleIter s.heap.objs.size t 0->h'.IsTupleIter (s.heap.objs.size + 1) l 0->(∀ c o,s.heap.get? c=some o->h'.get? c=some o)->Q (.ref (s.heap.objs.size + 4)) { s with heap:=h' }) :
  wpAny (model prog w) A (call (.type "zip") [.ref t,.ref l]) Q E s:=by
 refine callType_new F.called_zip (by decide) (F.typeCall_zip_2 _ _) (F.newCall_zip_2 _ _) (fun obj=>F.args_object_init_3 obj _ _) F.entry_zip_new (zJM t l xs ys) ⟨h1,h2,?_⟩
 have n1:(zLg s.heap t).objs.size=s.heap.objs.size + 1:=Heap.size_push ..
 have n2:(zLf s.heap t l).objs.size=s.heap.objs.size + 2:=by rw [Heap.size_push,n1]
 have n3:(zLe s.heap t l).objs.size=s.heap.objs.size + 3:=by rw [Heap.size_push,n2]
 have n4:(zLd s.heap t l).objs.size=s.heap.objs.size + 4:=by rw [Heap.size_push,n3]
 have p5:(zJK s.heap t l).get? (zLd s.heap t l).objs.size=some _:=Heap.get?_push_size _ rfl
 have p4:(zJK s.heap t l).get? (zLe s.heap t l).objs.size=some _:=Heap.get?_push_of_some _ (Heap.get?_push_size _ rfl)
 have p3:(zJK s.heap t l).get? (zLf s.heap t l).objs.size=some _:=Heap.get?_push_of_some _ (Heap.get?_push_of_some _ (Heap.get?_push_size _ rfl))
 have p2:(zJK s.heap t l).get? (zLg s.heap t).objs.size=some _:=Heap.get?_push_of_some _ (Heap.get?_push_of_some _ (Heap.get?_push_of_some _ (Heap.get?_push_size _ rfl)))
 have p1:(zJK s.heap t l).get? s.heap.objs.size=some _:=Heap.get?_push_of_some _ (Heap.get?_push_of_some _ (Heap.get?_push_of_some _ (Heap.get?_push_of_some _ (Heap.get?_push_size _ rfl))))
 change _/\_
 rw [n2,n3,n4] at p5
 rw [n1,n2] at p3
 rw [n3] at p4
 rw [n1] at p2
 rw [n4]
 exact ⟨⟨_,p5,rfl⟩,h _ p5 p3 p4 ⟨_,p1,rfl,rfl⟩ ⟨_,p2,rfl,rfl⟩ fun c o x=>Heap.get?_push_of_some _ (Heap.get?_push_of_some _ (Heap.get?_push_of_some _ (Heap.get?_push_of_some _ (Heap.get?_push_of_some _ x))))⟩
abbrev zLl (h:Heap) (t:Addr):Heap:=h.push { cls:=.type "list_iterator",data:=.fields #[.ref t,.int 0 0] }
abbrev zLk (h:Heap) (t l:Addr):Heap:=(zLl h t).push { cls:=.type "tuple_iterator",data:=.fields #[.ref l,.int 0 0] }
abbrev zLj (h:Heap) (t l:Addr):Heap:=(zLk h t l).push { cls:=.type "tuple",data:=.seq #[.ref h.objs.size,.ref (zLl h t).objs.size] }
abbrev zLi (h:Heap) (t l:Addr):Heap:=(zLj h t l).push { cls:=.type "tuple",data:=.seq #[.none,.none] }
abbrev zJL (h:Heap) (t l:Addr):Heap:=(zLi h t l).push { cls:=.type "zip",data:=.fields #[.none,.bool false,.bool false,.ref (zLk h t l).objs.size,.ref (zLj h t l).objs.size] }
theorem zJO (t l:Addr) (xs ys:Array Value) :
  Meets (Builtin.«zip.__new__» ⟨[.type "zip",.ref t,.ref l],[]⟩) (fun _ R s=>s.heap.IsList t xs/\s.heap.IsTuple l ys/\R (.ok (.ret (.ref (zLi s.heap t l).objs.size))) { s with heap:=zJL s.heap t l }):=
 .of_wp fun prog w A R s h=>by
  obtain ⟨hp,g,d,tk,os⟩:=s; obtain ⟨h1,h2,h⟩:=h
  have hsub:=sub_zip
  have e1:Heap.IsList (Shared.heap ⟨hp,g,d,tk,os⟩) t xs:=h1
  have e2:Heap.IsTuple (Shared.heap ⟨hp.push { cls:=.type "list_iterator",data:=.fields #[.ref t,.int 0 0] },g,d,tk,os⟩) l ys:=(let ⟨o,e,r⟩:=h2; ⟨o,Heap.get?_push_of_some _ e,r⟩)
  wp_walk using wpAny_pyIter_list e1,wpAny_pyIter_tuple e2
  exact ⟨_,rfl,h⟩
theorem zIb {prog:Program} {w:World} {A:Around} {E:Value->Shared->Prop} {s:Shared} {t l:Addr} {xs ys:Array Value} {Q:Value->Shared->Prop} (h1:s.heap.IsList t xs) (h2:s.heap.IsTuple l ys)
  (h:∀ h',IsZip h' (s.heap.objs.size + 4) (s.heap.objs.size + 2) (s.heap.objs.size + 3) .none->IsPair h' (s.heap.objs.size + 2) (.ref s.heap.objs.size) (.ref (s.heap.objs.size + 1))->IsPair h' (s.heap.objs.size + 3) .none .none->
   h'.IsListIter s.heap.objs.size t 0->h'.IsTupleIter (s.heap.objs.size + 1) l 0->(∀ c o,s.heap.get? c=some o->h'.get? c=some o)->Q (.ref (s.heap.objs.size + 4)) { s with heap:=h' }) :
  wpAny (model prog w) A (call (.type "zip") [.ref t,.ref l]) Q E s:=by
 refine callType_new F.called_zip (by decide) (F.typeCall_zip_2 _ _) (F.newCall_zip_2 _ _) (fun obj=>F.args_object_init_3 obj _ _) F.entry_zip_new (zJO t l xs ys) ⟨h1,h2,?_⟩
 have n1:(zLl s.heap t).objs.size=s.heap.objs.size + 1:=Heap.size_push ..
 have n2:(zLk s.heap t l).objs.size=s.heap.objs.size + 2:=by rw [Heap.size_push,n1]
 have n3:(zLj s.heap t l).objs.size=s.heap.objs.size + 3:=by rw [Heap.size_push,n2]
 have n4:(zLi s.heap t l).objs.size=s.heap.objs.size + 4:=by rw [Heap.size_push,n3]
 have p5:(zJL s.heap t l).get? (zLi s.heap t l).objs.size=some _:=Heap.get?_push_size _ rfl
 have p4:(zJL s.heap t l).get? (zLj s.heap t l).objs.size=some _:=Heap.get?_push_of_some _ (Heap.get?_push_size _ rfl)
 have p3:(zJL s.heap t l).get? (zLk s.heap t l).objs.size=some _:=Heap.get?_push_of_some _ (Heap.get?_push_of_some _ (Heap.get?_push_size _ rfl))
 have p2:(zJL s.heap t l).get? (zLl s.heap t).objs.size=some _:=Heap.get?_push_of_some _ (Heap.get?_push_of_some _ (Heap.get?_push_of_some _ (Heap.get?_push_size _ rfl)))
 have p1:(zJL s.heap t l).get? s.heap.objs.size=some _:=Heap.get?_push_of_some _ (Heap.get?_push_of_some _ (Heap.get?_push_of_some _ (Heap.get?_push_of_some _ (Heap.get?_push_size _ rfl))))
 change _/\_
 rw [n2,n3,n4] at p5
 rw [n1,n2] at p3
 rw [n3] at p4
 rw [n1] at p2
 rw [n4]
 exact ⟨⟨_,p5,rfl⟩,h _ p5 p3 p4 ⟨_,p1,rfl,rfl⟩ ⟨_,p2,rfl,rfl⟩ fun c o x=>Heap.get?_push_of_some _ (Heap.get?_push_of_some _ (Heap.get?_push_of_some _ (Heap.get?_push_of_some _ (Heap.get?_push_of_some _ x))))⟩
def zNd (K:PySem.W.Frag) (a b:Addr):It:=
 ⟨fun i H=>∃ xs ys x y,SqT K H a xs/\SqT K H b ys/\xs[i]? = some x/\ys[i]? = some y,
  fun i H v H'=>∃ T x y,v=.ref T/\H T=none/\H'=upd H T (.tup [x,y])/\(∀ xs,SqT K H a xs->xs[i]? = some x)/\∀ ys,SqT K H b ys->ys[i]? = some y,
  fun i H=>∃ xs ys,SqT K H a xs/\SqT K H b ys/\i<=xs.length/\i<=ys.length/\(i=xs.length\/i=ys.length)⟩
theorem zJP {P:Program} {w:World} {K:PySem.W.Frag} {es:List Expr} {kk:Nat} {tp:Pos} {a b z TI TO i1 i2:Addr} (Z:Zp z TI TO i1 i2 [i1,a] [i2,b]) (na:a≠i1) (nb:b≠i2) :
  Turn P w K (.Tuple es kk tp) (zNd K a b) [z,TI,TO,i1,i2] z (fun i h=>IsZip h z TI TO .none/\IsPair h TI (.ref i1) (.ref i2)/\(∃ x y,IsPair h TO x y)/\h.IsTupleIter i1 a i/\h.IsTupleIter i2 b i) where
 mem:=by simp
 obj:=fun i h ⟨t1,t2,⟨x,y,t3⟩,t4,t5⟩ c hc=>by
  simp only [List.mem_cons,List.not_mem_nil,or_false] at hc
  rcases hc with rfl | rfl | rfl | rfl | rfl
  ·exact ⟨_,t1,zAl⟩
  ·exact ⟨_,t2,zBw⟩
  ·exact ⟨_,t3,zBw⟩
  ·obtain ⟨o,e,_,d⟩:=t4
   exact ⟨o,e,by rw [d]; exact zAl⟩
  ·obtain ⟨o,e,_,d⟩:=t5
   exact ⟨o,e,by rw [d]; exact zAl⟩
 keep:=fun i h h' ⟨t1,t2,⟨x,y,t3⟩,t4,t5⟩ k=>⟨k z (by simp) _ t1,k TI (by simp) _ t2,⟨x,y,k TO (by simp) _ t3⟩,(by obtain ⟨o,e,r⟩:=t4; exact ⟨o,k i1 (by simp) o e,r⟩),(by obtain ⟨o,e,r⟩:=t5; exact ⟨o,k i2 (by simp) o e,r⟩)⟩
 item:=by
  intro X hP hw hK hc i pins s σ H E I hf ⟨t1,t2,⟨x0,y0,t3⟩,t4,t5⟩ hg
  subst hP hw hK
  obtain ⟨xs,ys,x,y,hq1,hq2,hx,hy⟩:=hg
  obtain ⟨its1,rv1,p1,_⟩:=I.tuple hq1
  obtain ⟨its2,rv2,p2,_⟩:=I.tuple hq2
  obtain ⟨u,hu,ru⟩:=rv1.get hx
  obtain ⟨v,hv,rv⟩:=rv2.get hy
  have hh:X.A.in1.handled=none:=I.ok.hd hc
  have l1:i < its1.toArray.size:=by rw [List.size_toArray]; exact (List.getElem?_eq_some_iff.mp hu).1
  have l2:i < its2.toArray.size:=by rw [List.size_toArray]; exact (List.getElem?_eq_some_iff.mp hv).1
  refine zFZ (zCm hh i1 a na its1.toArray) (zCm hh i2 b nb its2.toArray) Z t1 t2 t3 ⟨t4,p1⟩ ⟨t5,p2⟩ l1 l2 ?_
  intro x' y' h1 tk px py z1 z2 z3 z4 z5 z6 keep
  have ex:x'=u:=by
   have q:its1.toArray[i]? = some x':=px
   simp only [List.getElem?_toArray] at q
   rw [hu] at q
   exact (Option.some.inj q).symm
  have ey:y'=v:=by
   have q:its2.toArray[i]? = some y':=py
   simp only [List.getElem?_toArray] at q
   rw [hv] at q
   exact (Option.some.inj q).symm
  subst ex ey
  refine ⟨_,rfl,wpAny_letOwnedTupleGo_zip (s:={ s with heap:=h1,toks:=tk }) z1 fun h2 z7 sb=>?_⟩
  have zlt:z < s.heap.objs.size:=Heap.lt_size t1
  have keep2:∀ c o,c∉[z,TI,TO,i1,i2]->s.heap.get? c=some o->h2.get? c=some o:=fun c o hc e=>by
   simp only [List.mem_cons,List.not_mem_nil,or_false,not_or] at hc
   exact sb.extBut c o hc.1 (keep c o hc.1 hc.2.2.1 hc.2.2.2.1 hc.2.2.2.2 e)
  have pT:IsPair h2 s.heap.objs.size x' y':=sb.extBut _ _ (Nat.ne_of_gt zlt) z6
  have I':=I.turnT (h':=h2) (tk:=tk) (ch:=[z,TI,TO,i1,i2]) (x:=x) (y:=y) hf keep2 (Nat.le_refl _) pT ru rv
  refine ⟨.ref s.heap.objs.size,_,I',rfl,⟨s.heap.objs.size,x,y,rfl,I.hok.fresh (Nat.le_refl _),rfl,fun xs' q=>by rw [I.tuple_inj q hq1]; exact hx,fun ys' q=>by rw [I.tuple_inj q hq2]; exact hy⟩,
   ⟨z7,sb.extBut _ _ Z.a1 z2,⟨_,_,sb.extBut _ _ Z.a2 z3⟩,z4.1.extBut sb.extBut Z.a3,z5.1.extBut sb.extBut Z.a4⟩,fun c hc=>?_⟩
  have:=(hf c hc).1
  rw [zAW]
  ·exact this
  ·intro q
   obtain ⟨o,e,_⟩:∃ o,s.heap.get? c=some o/\True:=by
    simp only [List.mem_cons,List.not_mem_nil,or_false] at hc
    rcases hc with rfl | rfl | rfl | rfl | rfl
    ·exact ⟨_,t1,trivial⟩
    ·exact ⟨_,t2,trivial⟩
    ·exact ⟨_,t3,trivial⟩
    ·obtain ⟨o,e,_⟩:=t4; exact ⟨o,e,trivial⟩
    ·obtain ⟨o,e,_⟩:=t5; exact ⟨o,e,trivial⟩
   rw [q] at e
   exact absurd (Heap.lt_size e) (Nat.lt_irrefl _)
 done:=by
  intro X hP hw hK hc i pins s σ H E I hf ⟨t1,t2,⟨x0,y0,t3⟩,t4,t5⟩ hg
  subst hP hw hK
  obtain ⟨xs,ys,hq1,hq2,e1,e2,e3⟩:=hg
  obtain ⟨its1,rv1,p1,_⟩:=I.tuple hq1
  obtain ⟨its2,rv2,p2,_⟩:=I.tuple hq2
  have hh:X.A.in1.handled=none:=I.ok.hd hc
  have n1:its1.toArray.size=xs.length:=by rw [List.size_toArray]; exact rv1.length.symm
  have n2:its2.toArray.size=ys.length:=by rw [List.size_toArray]; exact rv2.length.symm
  refine zGt (zCm hh i1 a na its1.toArray) (zCm hh i2 b nb its2.toArray) Z t1 t2 t3 ⟨t4,p1⟩ ⟨t5,p2⟩ (by omega) (by omega) (by omega) ?_
  intro h1 tk keep
  refine ⟨rfl,I.turnN (h':=h1) (tk:=tk) (ch:=[z,TI,TO,i1,i2]) hf fun c o hc e=>?_⟩
  simp only [List.mem_cons,List.not_mem_nil,or_false,not_or] at hc
  exact keep c o hc.1 hc.2.2.1 hc.2.2.2.1 hc.2.2.2.2 e
 self:=fun _ _ _ _ _ st h=>wpAny_pyIter_zip st.1 h
theorem zJ1 {K:PySem.W.Frag} {a b:Addr} {xs ys:List V} {g:TG} {te:TE} {σ0:St} {H:Hp} {Q:VK} (Pv:Nat->List V->St->Hp->Prop) (h0:Pv 0 [] σ0 H) (hl:∀ i zs σ H,i<=xs.length->Pv i zs σ H->SqT K H a xs/\SqT K H b ys/\zs.length<=i) (hlen:xs.length<=ys.length) (hz:xs.length<=sizeLine)
  (hs:∀ i x y T zs σ H,xs[i]? = some x->ys[i]? = some y->H T=none->Pv i zs σ H->g (.ref T) σ (upd H T (.tup [x,y])) fun σ2 H2=>te σ2 H2 fun z H3=>Pv (i + 1) (zs++[z]) σ2 H3)
  (hd:∀ zs σ H,Pv xs.length zs σ H->∀ p,H p=none->Q (.ref p) (upd H p (.lst zs))):zEK (zNd K a b) g te Q σ0 H:=by
 refine ⟨fun i m zs σ H=>m=xs.length - i/\i<=xs.length/\Pv i zs σ H,⟨xs.length,by simp,Nat.zero_le _,h0⟩,?_⟩
 rintro i m zs σ H ⟨rfl,hi,p⟩
 obtain ⟨q1,q2,hy⟩:=hl i zs σ H hi p
 by_cases hlt:i < xs.length
 ·have hlt2:i < ys.length:=by omega
  refine .inr ⟨⟨xs,ys,xs[i],ys[i],q1,q2,by simp [hlt],by simp [hlt2]⟩,by omega,fun z σ' H'=>Pv (i + 1) (zs++[z]) σ' H',fun z σ' H' p'=>⟨xs.length - (i + 1),by omega,rfl,hlt,p'⟩,fun v H' y=>?_⟩
  obtain ⟨T,x,y,rfl,hT,rfl,c1,c2⟩:=y
  exact hs i x y T zs σ H (c1 xs q1) (c2 ys q2) hT p
 ·have e:i=xs.length:=by omega
  subst e
  exact .inl ⟨⟨xs,ys,q1,q2,Nat.le_refl _,hlen,.inl rfl⟩,hd zs σ H p⟩
def zNe (K:PySem.W.Frag) (a b:Addr):It:=
 ⟨fun i H=>∃ xs ys x y,SqL K H a xs/\SqT K H b ys/\xs[i]? = some x/\ys[i]? = some y,
  fun i H v H'=>∃ T x y,v=.ref T/\H T=none/\H'=upd H T (.tup [x,y])/\(∀ xs,SqL K H a xs->xs[i]? = some x)/\∀ ys,SqT K H b ys->ys[i]? = some y,
  fun i H=>∃ xs ys,SqL K H a xs/\SqT K H b ys/\i<=xs.length/\i<=ys.length/\(i=xs.length\/i=ys.length)⟩
theorem zJQ {P:Program} {w:World} {K:PySem.W.Frag} {es:List Expr} {kk:Nat} {tp:Pos} {a b z TI TO i1 i2:Addr} (Z:Zp z TI TO i1 i2 [i1,a] [i2,b]) (na:a≠i1) (nb:b≠i2) :
  Turn P w K (.Tuple es kk tp) (zNe K a b) [z,TI,TO,i1,i2] z (fun i h=>IsZip h z TI TO .none/\IsPair h TI (.ref i1) (.ref i2)/\(∃ x y,IsPair h TO x y)/\h.IsListIter i1 a i/\h.IsTupleIter i2 b i) where
 mem:=by simp
 obj:=fun i h ⟨t1,t2,⟨x,y,t3⟩,t4,t5⟩ c hc=>by
  simp only [List.mem_cons,List.not_mem_nil,or_false] at hc
  rcases hc with rfl | rfl | rfl | rfl | rfl
  ·exact ⟨_,t1,zAl⟩
  ·exact ⟨_,t2,zBw⟩
  ·exact ⟨_,t3,zBw⟩
  ·obtain ⟨o,e,_,d⟩:=t4
   exact ⟨o,e,by rw [d]; exact zAl⟩
  ·obtain ⟨o,e,_,d⟩:=t5
   exact ⟨o,e,by rw [d]; exact zAl⟩
 keep:=fun i h h' ⟨t1,t2,⟨x,y,t3⟩,t4,t5⟩ k=>⟨k z (by simp) _ t1,k TI (by simp) _ t2,⟨x,y,k TO (by simp) _ t3⟩,(by obtain ⟨o,e,r⟩:=t4; exact ⟨o,k i1 (by simp) o e,r⟩),(by obtain ⟨o,e,r⟩:=t5; exact ⟨o,k i2 (by simp) o e,r⟩)⟩
 item:=by
  intro X hP hw hK hc i pins s σ H E I hf ⟨t1,t2,⟨x0,y0,t3⟩,t4,t5⟩ hg
  subst hP hw hK
  obtain ⟨xs,ys,x,y,hq1,hq2,hx,hy⟩:=hg
  obtain ⟨its1,rv1,p1,_⟩:=I.list hq1
  obtain ⟨its2,rv2,p2,_⟩:=I.tuple hq2
  obtain ⟨u,hu,ru⟩:=rv1.get hx
  obtain ⟨v,hv,rv⟩:=rv2.get hy
  have hh:X.A.in1.handled=none:=I.ok.hd hc
  have l1:i < its1.toArray.size:=by rw [List.size_toArray]; exact (List.getElem?_eq_some_iff.mp hu).1
  have l2:i < its2.toArray.size:=by rw [List.size_toArray]; exact (List.getElem?_eq_some_iff.mp hv).1
  refine zFZ (Draws.list hh i1 a na its1.toArray) (zCm hh i2 b nb its2.toArray) Z t1 t2 t3 ⟨t4,p1.isList⟩ ⟨t5,p2⟩ l1 l2 ?_
  intro x' y' h1 tk px py z1 z2 z3 z4 z5 z6 keep
  have ex:x'=u:=by
   have q:its1.toArray[i]? = some x':=px
   simp only [List.getElem?_toArray] at q
   rw [hu] at q
   exact (Option.some.inj q).symm
  have ey:y'=v:=by
   have q:its2.toArray[i]? = some y':=py
   simp only [List.getElem?_toArray] at q
   rw [hv] at q
   exact (Option.some.inj q).symm
  subst ex ey
  refine ⟨_,rfl,wpAny_letOwnedTupleGo_zip (s:={ s with heap:=h1,toks:=tk }) z1 fun h2 z7 sb=>?_⟩
  have zlt:z < s.heap.objs.size:=Heap.lt_size t1
  have keep2:∀ c o,c∉[z,TI,TO,i1,i2]->s.heap.get? c=some o->h2.get? c=some o:=fun c o hc e=>by
   simp only [List.mem_cons,List.not_mem_nil,or_false,not_or] at hc
   exact sb.extBut c o hc.1 (keep c o hc.1 hc.2.2.1 hc.2.2.2.1 hc.2.2.2.2 e)
  have pT:IsPair h2 s.heap.objs.size x' y':=sb.extBut _ _ (Nat.ne_of_gt zlt) z6
  have I':=I.turnT (h':=h2) (tk:=tk) (ch:=[z,TI,TO,i1,i2]) (x:=x) (y:=y) hf keep2 (Nat.le_refl _) pT ru rv
  refine ⟨.ref s.heap.objs.size,_,I',rfl,⟨s.heap.objs.size,x,y,rfl,I.hok.fresh (Nat.le_refl _),rfl,fun xs' q=>by rw [I.list_inj q hq1]; exact hx,fun ys' q=>by rw [I.tuple_inj q hq2]; exact hy⟩,
   ⟨z7,sb.extBut _ _ Z.a1 z2,⟨_,_,sb.extBut _ _ Z.a2 z3⟩,z4.1.extBut sb.extBut Z.a3,z5.1.extBut sb.extBut Z.a4⟩,fun c hc=>?_⟩
  have:=(hf c hc).1
  rw [zAW]
  ·exact this
  ·intro q
   obtain ⟨o,e,_⟩:∃ o,s.heap.get? c=some o/\True:=by
    simp only [List.mem_cons,List.not_mem_nil,or_false] at hc
    rcases hc with rfl | rfl | rfl | rfl | rfl
    ·exact ⟨_,t1,trivial⟩
    ·exact ⟨_,t2,trivial⟩
    ·exact ⟨_,t3,trivial⟩
    ·obtain ⟨o,e,_⟩:=t4; exact ⟨o,e,trivial⟩
    ·obtain ⟨o,e,_⟩:=t5; exact ⟨o,e,trivial⟩
   rw [q] at e
   exact absurd (Heap.lt_size e) (Nat.lt_irrefl _)
 done:=by
  intro X hP hw hK hc i pins s σ H E I hf ⟨t1,t2,⟨x0,y0,t3⟩,t4,t5⟩ hg
  subst hP hw hK
  obtain ⟨xs,ys,hq1,hq2,e1,e2,e3⟩:=hg
  obtain ⟨its1,rv1,p1,_⟩:=I.list hq1
  obtain ⟨its2,rv2,p2,_⟩:=I.tuple hq2
  have hh:X.A.in1.handled=none:=I.ok.hd hc
  have n1:its1.toArray.size=xs.length:=by rw [List.size_toArray]; exact rv1.length.symm
  have n2:its2.toArray.size=ys.length:=by rw [List.size_toArray]; exact rv2.length.symm
  refine zGt (Draws.list hh i1 a na its1.toArray) (zCm hh i2 b nb its2.toArray) Z t1 t2 t3 ⟨t4,p1.isList⟩ ⟨t5,p2⟩ (by omega) (by omega) (by omega) ?_
  intro h1 tk keep
  refine ⟨rfl,I.turnN (h':=h1) (tk:=tk) (ch:=[z,TI,TO,i1,i2]) hf fun c o hc e=>?_⟩
  simp only [List.mem_cons,List.not_mem_nil,or_false,not_or] at hc
  exact keep c o hc.1 hc.2.2.1 hc.2.2.2.1 hc.2.2.2.2 e
 self:=fun _ _ _ _ _ st h=>wpAny_pyIter_zip st.1 h
theorem zJ2 {K:PySem.W.Frag} {a b:Addr} {xs ys:List V} {g:TG} {te:TE} {σ0:St} {H:Hp} {Q:VK} (Pv:Nat->List V->St->Hp->Prop) (h0:Pv 0 [] σ0 H) (hl:∀ i zs σ H,i<=xs.length->Pv i zs σ H->SqL K H a xs/\SqT K H b ys/\zs.length<=i) (hlen:xs.length<=ys.length) (hz:xs.length<=sizeLine)
  (hs:∀ i x y T zs σ H,xs[i]? = some x->ys[i]? = some y->H T=none->Pv i zs σ H->g (.ref T) σ (upd H T (.tup [x,y])) fun σ2 H2=>te σ2 H2 fun z H3=>Pv (i + 1) (zs++[z]) σ2 H3)
  (hd:∀ zs σ H,Pv xs.length zs σ H->∀ p,H p=none->Q (.ref p) (upd H p (.lst zs))):zEK (zNe K a b) g te Q σ0 H:=by
 refine ⟨fun i m zs σ H=>m=xs.length - i/\i<=xs.length/\Pv i zs σ H,⟨xs.length,by simp,Nat.zero_le _,h0⟩,?_⟩
 rintro i m zs σ H ⟨rfl,hi,p⟩
 obtain ⟨q1,q2,hy⟩:=hl i zs σ H hi p
 by_cases hlt:i < xs.length
 ·have hlt2:i < ys.length:=by omega
  refine .inr ⟨⟨xs,ys,xs[i],ys[i],q1,q2,by simp [hlt],by simp [hlt2]⟩,by omega,fun z σ' H'=>Pv (i + 1) (zs++[z]) σ' H',fun z σ' H' p'=>⟨xs.length - (i + 1),by omega,rfl,hlt,p'⟩,fun v H' y=>?_⟩
  obtain ⟨T,x,y,rfl,hT,rfl,c1,c2⟩:=y
  exact hs i x y T zs σ H (c1 xs q1) (c2 ys q2) hT p
 ·have e:i=xs.length:=by omega
  subst e
  exact .inl ⟨⟨xs,ys,q1,q2,Nat.le_refl _,hlen,.inl rfl⟩,hd zs σ H p⟩
theorem Same.seqT {K:PySem.W.Frag} {H H':Hp} {a:Addr} {xs:List V} (e:Same H H') (h:SqT K H a xs):SqT K H' a xs:=by
 rcases h with (h | ⟨o,h⟩) | h
 ·exact .inl (.inl (e _ _ h))
 ·exact .inl (.inr ⟨o,e _ _ h⟩)
 ·exact .inr h
def SqE (K:PySem.W.Frag) (H:Hp) (a:Addr) (xs:List V):Prop:=SqT K H a xs\/SqL K H a xs
theorem SqE.same {K:PySem.W.Frag} {H H':Hp} {a:Addr} {xs:List V} (s:Same H H') (h:SqE K H a xs):SqE K H' a xs:=h.imp (fun z=>s.seqT z) (fun z=>s.seq z)
section
variable {X:Cx} {es:List Expr} {kk:Nat} {tp:Pos}
theorem five {pins:List (Addr × Obj)} {σ:St} {H:Hp} {s:Shared} (I:Inv X pins σ H s) {c:Addr} (hc:c∈[s.heap.objs.size + 4,s.heap.objs.size + 2,s.heap.objs.size + 3,s.heap.objs.size,s.heap.objs.size + 1]):FpOk X pins H c:=by
 have ge:s.heap.objs.size<=c:=by
  simp only [List.mem_cons,List.not_mem_nil,or_false] at hc
  rcases hc with rfl | rfl | rfl | rfl | rfl
  ·exact Nat.le_add_right _ 4
  ·exact Nat.le_add_right _ 2
  ·exact Nat.le_add_right _ 3
  ·exact Nat.le_refl _
  ·exact Nat.le_add_right _ 1
 exact I.fpOk ge (I.hok.fresh ge)
def orZ (K:PySem.W.Frag) (H:Hp) (a b:Addr) (R:It->Hp->Prop):Prop:=
 ((∃ xs,SqT K H a xs)/\(∃ ys,SqL K H b ys)/\R (Itz K a b) H)\/((∃ xs,SqL K H a xs)/\(∃ ys,SqL K H b ys)/\R (ItzL K a b) H)\/((∃ xs,SqT K H a xs)/\(∃ ys,SqT K H b ys)/\R (zNd K a b) H)\/((∃ xs,SqL K H a xs)/\(∃ ys,SqT K H b ys)/\R (zNe K a b) H)
def zON (K:PySem.W.Frag) (ta:TA):TI:=fun σ H R=>ta σ H fun vs H1=>∃ a b,vs=[.ref a,.ref b]/\orZ K H1 a b R
theorem zFB {e1 e2:Expr} {ta:TA} {p pos:Pos} (hg:Gl X "zip") (hm:X.mg "zip" = none) (ha:PA X [e1,e2] ta) (hs:starEach [e1,e2] X.env=[(false,eval e1 X.env),(false,eval e2 X.env)]:=by rfl) (hs2:starEach [e2] X.env=[(false,eval e2 X.env)]:=by rfl) :
  PI X (.Tuple es kk tp) (.Call (.Name "zip" p) [e1,e2] [] pos) (zON X.K ta):=by
 intro pins s σ H R I h
 refine Call_ (zHg I hg hm (show bootBuiltins "zip" = some (.type "zip") by decide +kernel) (PyProof.Rows.callWith_type1 (thn (ha pos pins s σ H _ I h) fun us s1 ⟨vs,H1,I1,r1,q1⟩=>?_) (by rw [hs,hs2]) (by rw [hs2]; rfl)))
 obtain ⟨a,b,e,q1⟩:=q1
 subst e
 obtain ⟨u,v,rfl,ru,rv⟩:=zMp r1
 cases ru
 cases rv
 rcases q1 with ⟨⟨xs,hx⟩,⟨ys,hy⟩,q⟩ | ⟨⟨xs,hx⟩,⟨ys,hy⟩,q⟩ | ⟨⟨xs,hx⟩,⟨ys,hy⟩,q⟩ | ⟨⟨xs,hx⟩,⟨ys,hy⟩,q⟩
 ·obtain ⟨its1,rv1,p1,_⟩:=I1.tuple hx
  obtain ⟨its2,rv2,p2,_⟩:=I1.list hy
  have la:a < s1.heap.objs.size:=by obtain ⟨o,e,_⟩:=p1; exact Heap.lt_size e
  have lb:b < s1.heap.objs.size:=by obtain ⟨o,n,e,_⟩:=p2; exact Heap.lt_size e
  refine zIa p1 p2.isList fun h' z1 z2 z3 z4 z5 keep=>wpAny_pyIter_zip z1 ?_
  have I2:Inv X pins σ H1 { s1 with heap:=h' }:=I1.kept (t':=s1.toks) keep
  exact ⟨s1.heap.objs.size + 4,[s1.heap.objs.size + 4,s1.heap.objs.size + 2,s1.heap.objs.size + 3,s1.heap.objs.size,s1.heap.objs.size + 1],_,_,H1,rfl,I2,
   zLo (a:=a) (b:=b) (zLh _ _ _ la lb) (Nat.ne_of_lt la) (Nat.ne_of_lt (Nat.lt_succ_of_lt lb)),⟨z1,z2,⟨_,_,z3⟩,z4,z5⟩,fun c hc=>five I1 hc,q⟩
 ·obtain ⟨its1,rv1,p1,_⟩:=I1.list hx
  obtain ⟨its2,rv2,p2,_⟩:=I1.list hy
  have la:a < s1.heap.objs.size:=by obtain ⟨o,n,e,_⟩:=p1; exact Heap.lt_size e
  have lb:b < s1.heap.objs.size:=by obtain ⟨o,n,e,_⟩:=p2; exact Heap.lt_size e
  refine call_zip_2 p1.isList p2.isList fun h' z1 z2 z3 z4 z5 _ keep=>wpAny_pyIter_zip z1 ?_
  have I2:Inv X pins σ H1 { s1 with heap:=h' }:=I1.kept (t':=s1.toks) keep
  exact ⟨s1.heap.objs.size + 4,[s1.heap.objs.size + 4,s1.heap.objs.size + 2,s1.heap.objs.size + 3,s1.heap.objs.size,s1.heap.objs.size + 1],_,_,H1,rfl,I2,
   zKD (a:=a) (b:=b) (zLh _ _ _ la lb) (Nat.ne_of_lt la) (Nat.ne_of_lt (Nat.lt_succ_of_lt lb)),⟨z1,z2,⟨_,_,z3⟩,z4,z5⟩,fun c hc=>five I1 hc,q⟩
 ·obtain ⟨its1,rv1,p1,_⟩:=I1.tuple hx
  obtain ⟨its2,rv2,p2,_⟩:=I1.tuple hy
  have la:a < s1.heap.objs.size:=by obtain ⟨o,e,_⟩:=p1; exact Heap.lt_size e
  have lb:b < s1.heap.objs.size:=by obtain ⟨o,e,_⟩:=p2; exact Heap.lt_size e
  refine zIZ p1 p2 fun h' z1 z2 z3 z4 z5 keep=>wpAny_pyIter_zip z1 ?_
  have I2:Inv X pins σ H1 { s1 with heap:=h' }:=I1.kept (t':=s1.toks) keep
  exact ⟨s1.heap.objs.size + 4,[s1.heap.objs.size + 4,s1.heap.objs.size + 2,s1.heap.objs.size + 3,s1.heap.objs.size,s1.heap.objs.size + 1],_,_,H1,rfl,I2,
   zJP (a:=a) (b:=b) (zLh _ _ _ la lb) (Nat.ne_of_lt la) (Nat.ne_of_lt (Nat.lt_succ_of_lt lb)),⟨z1,z2,⟨_,_,z3⟩,z4,z5⟩,fun c hc=>five I1 hc,q⟩
 ·obtain ⟨its1,rv1,p1,_⟩:=I1.list hx
  obtain ⟨its2,rv2,p2,_⟩:=I1.tuple hy
  have la:a < s1.heap.objs.size:=by obtain ⟨o,n,e,_⟩:=p1; exact Heap.lt_size e
  have lb:b < s1.heap.objs.size:=by obtain ⟨o,e,_⟩:=p2; exact Heap.lt_size e
  refine zIb p1.isList p2 fun h' z1 z2 z3 z4 z5 keep=>wpAny_pyIter_zip z1 ?_
  have I2:Inv X pins σ H1 { s1 with heap:=h' }:=I1.kept (t':=s1.toks) keep
  exact ⟨s1.heap.objs.size + 4,[s1.heap.objs.size + 4,s1.heap.objs.size + 2,s1.heap.objs.size + 3,s1.heap.objs.size,s1.heap.objs.size + 1],_,_,H1,rfl,I2,
   zJQ (a:=a) (b:=b) (zLh _ _ _ la lb) (Nat.ne_of_lt la) (Nat.ne_of_lt (Nat.lt_succ_of_lt lb)),⟨z1,z2,⟨_,_,z3⟩,z4,z5⟩,fun c hc=>five I1 hc,q⟩
end
theorem zEx {K:PySem.W.Frag} {a b:Addr} {xs ys:List V} {g:TG} {te:TE} {σ0:St} {H:Hp} {Q:VK} (ha:SqE K H a xs) (hb:SqE K H b ys) (Pv:Nat->List V->St->Hp->Prop) (h0:Pv 0 [] σ0 H) (hl:∀ i zs σ H',i<=xs.length->Pv i zs σ H'->Same H H'/\zs.length<=i) (hlen:xs.length<=ys.length) (hz:xs.length<=sizeLine)
  (hs:∀ i x y T zs σ H,xs[i]? = some x->ys[i]? = some y->H T=none->Pv i zs σ H->g (.ref T) σ (upd H T (.tup [x,y])) fun σ2 H2=>te σ2 H2 fun z H3=>Pv (i + 1) (zs++[z]) σ2 H3)
  (hd:∀ zs σ H,Pv xs.length zs σ H->∀ p,H p=none->Q (.ref p) (upd H p (.lst zs))):orZ K H a b fun J H'=>zEK J g te Q σ0 H':=by
 rcases ha with ha | ha
 ·rcases hb with hb | hb
  ·exact .inr (.inr (.inl ⟨⟨_,ha⟩,⟨_,hb⟩,zJ1 Pv h0 (fun i zs σ H' hi p=>⟨(hl i zs σ H' hi p).1.seqT ha,(hl i zs σ H' hi p).1.seqT hb,(hl i zs σ H' hi p).2⟩) hlen hz hs hd⟩))
  ·exact .inl ⟨⟨_,ha⟩,⟨_,hb⟩,zMQ Pv h0 (fun i zs σ H' hi p=>⟨(hl i zs σ H' hi p).1.seqT ha,(hl i zs σ H' hi p).1.seq hb,(hl i zs σ H' hi p).2⟩) hlen hz hs hd⟩
 ·rcases hb with hb | hb
  ·exact .inr (.inr (.inr ⟨⟨_,ha⟩,⟨_,hb⟩,zJ2 Pv h0 (fun i zs σ H' hi p=>⟨(hl i zs σ H' hi p).1.seq ha,(hl i zs σ H' hi p).1.seqT hb,(hl i zs σ H' hi p).2⟩) hlen hz hs hd⟩))
  ·exact .inr (.inl ⟨⟨_,ha⟩,⟨_,hb⟩,zLT Pv h0 (fun i zs σ H' hi p=>⟨(hl i zs σ H' hi p).1.seq ha,(hl i zs σ H' hi p).1.seq hb,(hl i zs σ H' hi p).2⟩) hlen hz hs hd⟩)
section
variable {prog:Program} {w:World} {A:Around} {E:Value->Shared->Prop}
end
section
variable {X:Cx} {pos:Pos}
end
end L2
namespace L2
open PySem PySem.Spec PyProof.Rows
inductive JVar (i:Nat) (σ:St) (H:Hp) (Q:VK):Prop
 | mk (v:V) (_:σ[i]? = some (some v)) (_:Q v H):JVar i σ H Q
inductive JI (C:Int->Int->Prop) (g:Int->Int->V) (x y:V) (H:Hp) (Q:VK):Prop
 | mk (i j:Int) (_:x=.int i) (_:y=.int j) (_:C i j) (_:Q (g i j) H):JI C g x y H Q
inductive JI0 (g:Int->Int->V) (x y:V) (H:Hp) (Q:VK):Prop
 | mk (i j:Int) (_:x=.int i) (_:y=.int j) (_:Q (g i j) H):JI0 g x y H Q
inductive JIx (S:Hp->Addr->List V->Prop) (x y:V) (H:Hp) (Q:VK):Prop
 | mk (p:Addr) (xs:List V) (i:Int) (v:V) (_:x=.ref p) (_:y=.int i) (_:S H p xs) (_:atI xs i=some v) (_:Q v H):JIx S x y H Q
inductive JCat (x y:V) (H:Hp) (Q:VK):Prop
 | mk (l b:Addr) (xs zs:List V) (_:x=.ref l) (_:y=.ref b) (_:H l=some (.lst xs)) (_:H b=some (.lst zs)) (_:xs.length + zs.length<=sizeLine) (_:∀ p,H p=none->Q (.ref p) (upd H p (.lst (xs++zs)))):JCat x y H Q
inductive JLen (K:PySem.W.Frag) (xs:List V) (H:Hp) (Q:VK):Prop
 | mk (p:Addr) (ys:List V) (_:xs=[.ref p]) (_:SqL K H p ys\/SqT K H p ys) (_:Q (.int ys.length) H):JLen K xs H Q
inductive JApp (x:V) (vs:List V) (H:Hp) (Q:VK):Prop
 | mk (l:Addr) (xs:List V) (y:V) (_:x=.ref l) (_:vs=[y]) (_:H l=some (.lst xs)) (_:xs.length < sizeLine) (_:Q .non (upd H l (.lst (xs++[y])))):JApp x vs H Q
inductive zOZ (K:PySem.W.Frag) (xs:List V) (H:Hp) (Q:VK):Prop
 | mk (x:V) (c:String) (t:Value) (b:Bool) (_:xs=[x,.ty c]) (_:TyOf K H x t) (_:PySem.W.kitOne K t (.type c)=some b) (_:Q (.bl b) H):zOZ K xs H Q
inductive JSlT (K:PySem.W.Frag) (x:V) (lo hi:Option Int) (H:Hp) (Q:VK):Prop
 | mk (a:Addr) (xs:List V) (_:x=.ref a) (_:SqT K H a xs) (_:¬ (HT.sIx xs.length 0 lo=0/\HT.sIx xs.length xs.length hi=xs.length)) (_:∀ p,H p=none->Q (.ref p) (upd H p (.tup (cutV xs lo hi)))):JSlT K x lo hi H Q
inductive JSlL (K:PySem.W.Frag) (x:V) (lo hi:Option Int) (H:Hp) (Q:VK):Prop
 | mk (a:Addr) (xs:List V) (_:x=.ref a) (_:SqL K H a xs) (_:∀ p,H p=none->Q (.ref p) (upd H p (.lst (cutV xs lo hi)))):JSlL K x lo hi H Q
inductive JTup (K:PySem.W.Frag) (xs:List V) (H:Hp) (Q:VK):Prop
 | mk (p:Addr) (ys:List V) (_:xs=[.ref p]) (_:(SqL K H p ys/\∀ l,H l=none->Q (.ref l) (upd H l (.tup ys)))\/(SqT K H p ys/\Q (.ref p) H)):JTup K xs H Q
inductive JRep (x y:V) (H:Hp) (Q:VK):Prop
 | mk (l:Addr) (k:Int) (xs:List V) (_:x=.ref l) (_:y=.int k) (_:H l=some (.lst xs)) (_ : -(2 ^ 63)<=k) (_:k < 2 ^ 63) (_:xs.length * k.toNat<=sizeLine) (_:∀ p,H p=none->Q (.ref p) (upd H p (.lst (List.replicate k.toNat xs).flatten))):JRep x y H Q
section
variable {X:Cx}
theorem japp:MtM X "list.append" JApp:=fun pins s σ H x xs v us Q I rx rv ⟨l,ys,y,h1,h2,h3,h4,q⟩=>zKz pins s σ H x xs v us Q I rx rv ⟨l,ys,y,h1,h2,h3,h4,q⟩
theorem zDt:zDr X (.builtin "isinstance") (zOZ X.K):=fun pins s σ H xs us Q I r ⟨x,c,t,b,h1,h2,h3,q⟩=>zIc pins s σ H xs us Q I r ⟨x,c,t,b,h1,h2,h3,q⟩
theorem zCI:SlR X (JSlT X.K):=fun pins s σ H x v vl vu lo hi sl Q I h1 h2 h3 h4 ⟨a,xs,b,c,d,q⟩=>zNs pins s σ H x v vl vu lo hi sl Q I h1 h2 h3 h4 ⟨a,xs,b,c,d,q⟩
theorem zI3:SlR X (JSlL X.K):=fun pins s σ H x v vl vu lo hi sl Q I h1 h2 h3 h4 ⟨a,xs,b,c,q⟩=>zMx pins s σ H x v vl vu lo hi sl Q I h1 h2 h3 h4 ⟨a,xs,b,c,q⟩
theorem jtup:zDr X (.type "tuple") (JTup X.K):=fun pins s σ H xs us Q I r ⟨p,ys,e,q⟩=>zHK pins s σ H xs us Q I r ⟨p,ys,e,q⟩
theorem jrep:OpR X (binaryOp .Mult) JRep:=fun pins s σ H x y v u Q I rx ry ⟨l,k,xs,a,b,c,d,e,f,q⟩=>zN8 pins s σ H x y v u Q I rx ry ⟨l,k,xs,a,b,c,d,e,f,q⟩
theorem pvj (i:Nat) {x:Str} {pos:Pos} (hN:X.N[i]? = some x:=by rfl) (hv:Vis X.env.scope x:=by first | exact Or.inl rfl | exact Or.inr (Or.inl rfl) | exact Or.inr (Or.inr rfl)) (hd:(x == ("__debug__" : Str))=false:=by decide)
  (hcd:(x == ("__classdict__" : Str))=false:=by decide):PE X (.Name x pos) (JVar i):=fun pins s σ H Q I ⟨v,e,h⟩=>zN5 hN hv hd hcd pins s σ H Q I ⟨v,e,h⟩
theorem ji {f:Value->Value->Sem Value} {C:Int->Int->Prop} {g:Int->Int->V} (h:OpR X f (rI C g)):OpR X f (JI C g):=fun pins s σ H x y v u Q I rx ry ⟨i,j,hx,hy,c,q⟩=>h pins s σ H x y v u Q I rx ry ⟨i,j,hx,hy,c,q⟩
theorem ji0 {f:Value->Value->Sem Value} {g:Int->Int->V} (h:OpR X f (rI0 g)):OpR X f (JI0 g):=fun pins s σ H x y v u Q I rx ry ⟨i,j,hx,hy,q⟩=>h pins s σ H x y v u Q I rx ry ⟨i,j,hx,hy,q⟩
theorem zAQ:IxR X (JIx (SqL X.K)):=fun a b pins s σ H x y v u Q I rx ry ⟨p,xs,i,w,hx,hy,hs,ha,q⟩=>zND a b pins s σ H x y v u Q I rx ry ⟨p,xs,i,w,hx,hy,hs,ha,q⟩
theorem zAO:IxR X (JIx (SqT X.K)):=fun a b pins s σ H x y v u Q I rx ry ⟨p,xs,i,w,hx,hy,hs,ha,q⟩=>zOL a b pins s σ H x y v u Q I rx ry ⟨p,xs,i,w,hx,hy,hs,ha,q⟩
theorem jcat:OpR X (binaryOp .Add) JCat:=fun pins s σ H x y v u Q I rx ry ⟨l,b,xs,zs,hx,hy,h1,h2,h3,q⟩=>zOB pins s σ H x y v u Q I rx ry ⟨l,b,xs,zs,hx,hy,h1,h2,h3,q⟩
theorem jlen:zDr X (.builtin "len") (JLen X.K):=fun pins s σ H xs us Q I r ⟨p,ys,e,h,q⟩=>zHp pins s σ H xs us Q I r ⟨p,ys,e,h,q⟩
end
end L2
namespace Sh
open PySem L2
def LstI (H:Hp) (v:V) (r:List Int):Prop:=∃ a,v=.ref a/\H a=some (.lst (r.map V.int))
abbrev TabV (H:Hp) (vs:List V) (tab:List (List Int)):Prop:=Paired (LstI H) vs tab
theorem LstI.same {H H':Hp} {v:V} {r:List Int} (s:Same H H') (h:LstI H v r):LstI H' v r:=let ⟨a,e,q⟩:=h; ⟨a,e,s _ _ q⟩
theorem TabV.same {H H':Hp} {vs:List V} {tab:List (List Int)} (s:Same H H') (h:TabV H vs tab):TabV H' vs tab:=Paired.mapP h fun _ _ z=>z.same s
def zBn (p:Addr) (H H':Hp):Prop:=∀ b o,H b=some o->b≠p->H' b=some o
theorem Same.but {p:Addr} {H H':Hp} (s:Same H H'):zBn p H H':=fun b o e _=>s b o e
theorem zBn.trans {p:Addr} {H H1 H2:Hp} (a:zBn p H H1) (b:zBn p H1 H2):zBn p H H2:=fun c o e n=>b c o (a c o e n) n
theorem zBO (p:Addr) (H:Hp) (o:HO):zBn p H (upd H p o):=fun b u e n=>by rw [zAW n]; exact e
def NewL (H0 H:Hp) (v:V) (r:List Int):Prop:=∃ a,v=.ref a/\H0 a=none/\H a=some (.lst (r.map V.int))
inductive spC0 (vs:List V) (H:Hp) (Q:VK) (E:XK):Prop
 | mk (i d:Int) (_:vs=[.int i,.int d]) (_:Q (.int i) H):spC0 vs H Q E
def spC1:Sp:=fun vs H Q _=>(∃ i d:Int,vs=[.int i,.int d]/\Q (.int i) H)∨
 (∃ (a:Addr) (ns:List Int) (d:Int),vs=[.ref a,.int d]/\1<=d/\H a=some (.lst (ns.map V.int))/\ns.length<=900/\∀ l H',Same H H'->H l=none->H' l=some (.lst (ns.map V.int))->Q (.ref l) H')∨
 (∃ (a:Addr) (ns:List Int) (d:Int),vs=[.ref a,.int d]/\1<=d/\H a=some (.tup (ns.map V.int))/\ns.length<=900/\∀ t H',Same H H'->H t=none->H' t=some (.tup (ns.map V.int))->Q (.ref t) H')
def spC2:Sp:=fun vs H Q E=>spC1 vs H Q E∨
 (∃ (a:Addr) (rv:List V) (rows:List (List Int)) (d:Int),vs=[.ref a,.int d]/\2<=d/\H a=some (.lst rv)/\zBT H rv rows/\rows.length<=900/\(∀ r∈rows,r.length<=900)/\∀ l lv H',Same H H'->H l=none->H' l=some (.lst lv)->zBT H' lv rows->Q (.ref l) H')∨
 (∃ (a:Addr) (tv:List V) (tab:List (List Int)) (d:Int),vs=[.ref a,.int d]/\2<=d/\H a=some (.lst tv)/\TabV H tv tab/\tab.length<=900/\(∀ r∈tab,r.length<=900)/\∀ l lv H',Same H H'->H l=none->H' l=some (.lst lv)->Paired (NewL H H') lv tab->Q (.ref l) H')
inductive zCO (vs:List V) (H:Hp) (Q:VK) (E:XK):Prop
 | mk (i:Int) (_:vs=[.int i]) (_:Q (.bl true) H):zCO vs H Q E
inductive zC4 (vs:List V) (H:Hp) (Q:VK) (E:XK):Prop
 | mk (a:Addr) (ns:List Int) (_:vs=[.ref a,.int (ns.length:Int)]) (_:H a=some (.lst (ns.map V.int))) (_:ns.length<=900) (_:∀ H',Same H H'->Q (.bl true) H'):zC4 vs H Q E
inductive zEe (vs:List V) (H:Hp) (Q:VK) (E:XK):Prop
 | mk (a:Addr) (tv:List V) (tab:List (List Int)) (w:Nat) (_:vs=[.ref a,.int (tab.length:Int),.int (w:Int)]) (_:H a=some (.lst tv)) (_:TabV H tv tab) (_:tab.length<=900) (_:(∀ r∈tab,r.length=w)) (_:w<=900) (_:∀ H',Same H H'->Q (.bl true) H'):zEe vs H Q E
inductive zG4 (vs:List V) (H:Hp) (Q:VK) (E:XK):Prop
 | mk (a:Addr) (ns:List Int) (n:Nat) (_:vs=[.ref a,.int (n:Int)]) (_:H a=some (.tup (ns.map V.int))) (_:ns.length=n + 1) (_:n<=800) (_:∀ H',Same H H'->Q (.bl true) H'):zG4 vs H Q E
inductive zFi (vs:List V) (H:Hp) (Q:VK) (E:XK):Prop
 | mk (a:Addr) (rv:List V) (rows:List (List Int)) (n:Nat) (_:vs=[.ref a,.int (n:Int)]) (_:H a=some (.lst rv)) (_:zBT H rv rows) (_:rows.length<=900) (_:(∀ r∈rows,r.length=n + 1)) (_:n<=800) (_:∀ H',Same H H'->Q (.bl true) H'):zFi vs H Q E
inductive zFj (vs:List V) (H:Hp) (Q:VK) (E:XK):Prop
 | mk (a:Addr) (lo hi:Int) (_:vs=[.ref a]) (_:H a=some (.tup [.int lo,.int hi])) (_:lo<=hi) (_:Q (.bl true) H):zFj vs H Q E
structure MD where
 rows:List (List Int)
 nexts:List (List Int)
 steer:List Int
 push:List (List Int)
 add:List Int
 div:Int
structure MDOk (m:MD) (n p:Nat):Prop where
 rows:∀ r∈m.rows,r.length=n + 1
 few:m.rows.length<=900
 nexts:m.nexts.length=n/\∀ r∈m.nexts,r.length=n
 steer:m.steer.length=n
 push:m.push.length=n/\∀ r∈m.push,r.length=p
 add:m.add.length=n
 div:1<=m.div
 n3:n<=3
 p6:p<=12
def zNA (r n s p a:V) (d:Int):List (Str × V):=[("rows",r),("nexts",n),("steer",s),("push",p),("add",a),("divisor",.int d)]
structure zGr (C:Addr) (H:Hp) (o:Addr) (m:MD) where
 dx:Addr
 r:Addr
 rv:List V
 n:Addr
 nv:List V
 s:Addr
 p:Addr
 pv:List V
 a:Addr
structure zGr.Ok {C:Addr} {H:Hp} {o:Addr} {m:MD} (M:zGr C H o m):Prop where
 ins:H o=some (.ins C M.dx (zNA (.ref M.r) (.ref M.n) (.ref M.s) (.ref M.p) (.ref M.a) m.div))
 hr:H M.r=some (.lst M.rv)
 hrv:zBT H M.rv m.rows
 hn:H M.n=some (.lst M.nv)
 hnv:TabV H M.nv m.nexts
 hs:H M.s=some (.lst (m.steer.map V.int))
 hp:H M.p=some (.lst M.pv)
 hpv:TabV H M.pv m.push
 ha:H M.a=some (.lst (m.add.map V.int))
def zEU (C:Addr) (H:Hp) (v:V) (m:MD):Prop:=∃ (o:Addr) (M:zGr C H o m),v=.ref o/\M.Ok
theorem zEU.same {C:Addr} {H H':Hp} {v:V} {m:MD} (s:Same H H') (h:zEU C H v m):zEU C H' v m:=
 let ⟨o,M,e,k⟩:=h
 ⟨o,⟨M.dx,M.r,M.rv,M.n,M.nv,M.s,M.p,M.pv,M.a⟩,e,⟨s _ _ k.ins,s _ _ k.hr,zBT.same s k.hrv,s _ _ k.hn,TabV.same s k.hnv,s _ _ k.hs,s _ _ k.hp,TabV.same s k.hpv,s _ _ k.ha⟩⟩
inductive zD1 (C:Addr) (vs:List V) (H:Hp) (Q:VK) (E:XK):Prop
 | mk (o dx ra na sa pa aa:Addr) (rv nv pv:List V) (m:MD) (n p:Nat) (_:vs=[.ref o,.ref ra,.ref na,.ref sa,.ref pa,.ref aa,.int m.div]) (_:H o=some (.ins C dx [])) (_:MDOk m n p) (_:H ra=some (.lst rv)) (_:zBT H rv m.rows) (_:H na=some (.lst nv)) (_:TabV H nv m.nexts) (_:H sa=some (.lst (m.steer.map V.int))) (_:H pa=some (.lst pv)) (_:TabV H pv m.push) (_:H aa=some (.lst (m.add.map V.int))) (_:∀ (M:zGr C H o m) (H':Hp),zBn o H H'->(zGr.mk (C:=C) (H:=H') (o:=o) (m:=m) M.dx M.r M.rv M.n M.nv M.s M.p M.pv M.a).Ok->H M.r=none->H M.n=none->H M.s=none->H M.p=none->H M.a=none->Paired (NewL H H') M.nv m.nexts->Paired (NewL H H') M.pv m.push->Q .non H'):zD1 C vs H Q E
inductive zFk (C:Addr) (vs:List V) (H:Hp) (Q:VK) (E:XK):Prop
 | mk (v:V) (m:MD) (n p:Nat) (_:vs=[v,.int (n:Int),.int (p:Int)]) (_:zEU C H v m) (_:MDOk m n p) (_:∀ H',Same H H'->Q (.bl true) H'):zFk C vs H Q E
def PuV (H:Hp) (v:V) (b:Int × Int):Prop:=∃ a,v=.ref a/\H a=some (.tup [.int b.1,.int b.2])
theorem PuV.same {H H':Hp} {v:V} {b:Int × Int} (s:Same H H') (h:PuV H v b):PuV H' v b:=let ⟨a,e,q⟩:=h; ⟨a,e,s _ _ q⟩
structure ThOk (n:Nat) (bs:List (Int × Int)) (ms:List MD):Prop where
 n1:1<=n
 n3:n<=3
 bok:∀ b∈bs,b.1<=b.2
 b6:bs.length<=6
 m1:1<=ms.length
 m40:ms.length<=40
 mok:∀ m∈ms,MDOk m n bs.length
inductive zEf (C:Addr) (vs:List V) (H:Hp) (Q:VK) (E:XK):Prop
 | mk (pa ma:Addr) (pv mv:List V) (n:Nat) (bs:List (Int × Int)) (ms:List MD) (_:vs=[.int (n:Int),.ref pa,.ref ma]) (_:H pa=some (.lst pv)) (_:Paired (PuV H) pv bs) (_:H ma=some (.lst mv)) (_:Paired (zEU C H) mv ms) (_:ThOk n bs ms) (_:∀ H',Same H H'->Q (.bl true) H'):zEf C vs H Q E
def zMV (n:Int) (p m:V):List (Str × V):=[("many",.int n),("kept_pushes",p),("kept_modes",m)]
structure zA5 (C CM:Addr) (H:Hp) (o:Addr) (n:Nat) (bs:List (Int × Int)) (ms:List MD) (pv mv:List V) (kp km:Addr):Prop where
 ins:∃ dx,H o=some (.ins C dx (zMV (n:Int) (.ref kp) (.ref km)))
 hp:H kp=some (.lst pv)
 hpv:Paired (PuV H) pv bs
 hm:H km=some (.lst mv)
 hmv:Paired (zEU CM H) mv ms
theorem zA5.same {C CM:Addr} {H H':Hp} {o:Addr} {n:Nat} {bs:List (Int × Int)} {ms:List MD} {pv mv:List V} {kp km:Addr} (s:Same H H') (h:zA5 C CM H o n bs ms pv mv kp km):zA5 C CM H' o n bs ms pv mv kp km:=
 ⟨let ⟨dx,e⟩:=h.ins; ⟨dx,s _ _ e⟩,s _ _ h.hp,Paired.mapP h.hpv fun _ _ z=>z.same s,s _ _ h.hm,Paired.mapP h.hmv fun _ _ z=>z.same s⟩
inductive zDg (C CM:Addr) (vs:List V) (H:Hp) (Q:VK) (E:XK):Prop
 | mk (o dx pa ma:Addr) (pv mv:List V) (n:Nat) (bs:List (Int × Int)) (ms:List MD) (_:vs=[.ref o,.int (n:Int),.ref pa,.ref ma]) (_:H o=some (.ins C dx [])) (_:H pa=some (.lst pv)) (_:Paired (PuV H) pv bs) (_:H ma=some (.lst mv)) (_:Paired (zEU CM H) mv ms) (_:ThOk n bs ms) (_:∀ (kp km:Addr) (H':Hp),zBn o H H'->H kp=none->H km=none->kp≠km->H' o=some (.ins C dx (zMV (n:Int) (.ref kp) (.ref km)))->H' kp=some (.lst pv)->H' km=some (.lst mv)->Q .non H'):zDg C CM vs H Q E
inductive zEb (C CM:Addr) (vs:List V) (H:Hp) (Q:VK) (E:XK):Prop
 | mk (o kp km:Addr) (n:Nat) (bs:List (Int × Int)) (ms:List MD) (pv mv:List V) (_:vs=[.ref o]) (_:zA5 C CM H o n bs ms pv mv kp km) (_:∀ l H',Same H H'->H l=none->H' l=some (.lst pv)->Q (.ref l) H'):zEb C CM vs H Q E
inductive zG2 (C CM:Addr) (vs:List V) (H:Hp) (Q:VK) (E:XK):Prop
 | mk (o kp km:Addr) (n:Nat) (bs:List (Int × Int)) (ms:List MD) (pv mv:List V) (_:vs=[.ref o]) (_:zA5 C CM H o n bs ms pv mv kp km) (_:∀ l H',Same H H'->H l=none->H' l=some (.lst mv)->Q (.ref l) H'):zG2 C CM vs H Q E
inductive zG1 (C CM:Addr) (vs:List V) (H:Hp) (Q:VK) (E:XK):Prop
 | mk (o kp km:Addr) (n:Nat) (bs:List (Int × Int)) (ms:List MD) (pv mv:List V) (_:vs=[.ref o]) (_:zA5 C CM H o n bs ms pv mv kp km) (_:ThOk n bs ms) (_:Q (.bl (decide (ms.length=1) && decide ((ms.map MD.rows).getD 0 []=[]))) H):zG1 C CM vs H Q E
theorem zMP (a b:Int):decide (V.int a=V.int b)=decide (a=b):=by
 by_cases h:a=b
 ·rw [h,decide_eq_true rfl,decide_eq_true rfl]
 ·rw [decide_eq_false h,decide_eq_false fun z=>h (by injection z)]
theorem zME {K:PySem.W.Frag} {C:Addr}:PySem.W.kitOne K (.ref C) (.ref C)=some true:=by
 unfold PySem.W.kitOne
 rw [if_pos (by simp)]
theorem zDq:∀ n:Nat,(List.replicate n true).all id=true
 | 0=>rfl
 | n + 1=>by rw [List.replicate_succ,List.all_cons,zDq n]; rfl
theorem keepB {o:Addr} {H H':Hp} {C dx:Addr} {fs:List (Str × V)} (ho:H o=some (.ins C dx fs)) (s:zBn o H H') {a:Addr} {u:HO} (h:H a=some u) (hu:u≠.ins C dx fs):H' a=some u:=
 s _ _ h fun e=>hu (by rw [e,ho] at h; exact (Option.some.inj h).symm)
theorem zIV {o:Addr} {H H':Hp} (s:zBn o H H') {x:HO} (ho:H' o=some x) {l:Addr} (h:H' l=none):H l=none:=by
 cases e:H l with
 | none=>rfl
 | some u=>
  have n:l≠o:=fun z=>by rw [z,ho] at h; cases h
  rw [s _ _ e n] at h
  cases h
theorem zBT.keepB {o:Addr} {H H':Hp} {C dx:Addr} {fs:List (Str × V)} (ho:H o=some (.ins C dx fs)) (s:zBn o H H') {vs:List V} {rows:List (List Int)} (h:zBT H vs rows):zBT H' vs rows:=
 Paired.mapP h fun _ _ ⟨a,e,q⟩=>⟨a,e,Sh.keepB ho s q fun z=>by cases z⟩
theorem TabV.keepB {o:Addr} {H H':Hp} {C dx:Addr} {fs:List (Str × V)} (ho:H o=some (.ins C dx fs)) (s:zBn o H H') {vs:List V} {tab:List (List Int)} (h:TabV H vs tab):TabV H' vs tab:=
 Paired.mapP h fun _ _ ⟨a,e,q⟩=>⟨a,e,Sh.keepB ho s q fun z=>by cases z⟩
theorem NewL.tab {H0 H:Hp} {vs:List V} {tab:List (List Int)} (h:Paired (NewL H0 H) vs tab):TabV H vs tab:=Paired.mapP h fun _ _ ⟨a,e,_,q⟩=>⟨a,e,q⟩
theorem zMA (r n s p a:V) (d:Int):putF "divisor" (.int d) (putF "add" a (putF "push" p (putF "steer" s (putF "nexts" n (putF "rows" r [])))))=zNA r n s p a d:=rfl
end Sh
namespace Sh
open PySem L2
def off (B:List Addr) (H H':Hp):Prop:=∀ b o,H b=some o->b∉B->H' b=some o
theorem off.refl (B:List Addr) (H:Hp):off B H H:=fun _ _ e _=>e
theorem off.put {B:List Addr} {H H':Hp} {x:Addr} (o:HO) (h:off B H H') (hx:x∈B):off B H (upd H' x o):=fun b u e nb=>by
 rw [zAW (fun e'=>by rw [e'] at nb; exact nb hx)]
 exact h b u e nb
def hide (B:List Addr) (H:Hp):Hp:=fun b=>if b∈B then none else H b
theorem zAZ {B:List Addr} {H:Hp}:Same (hide B H) H:=fun b o h=>by
 unfold hide at h
 by_cases e:b∈B
 ·rw [if_pos e] at h; cases h
 ·rw [if_neg e] at h; exact h
theorem zBE {B:List Addr} {H:Hp} {b:Addr} (e:b∉B):hide B H b=H b:=by unfold hide; rw [if_neg e]
theorem zNI {B:List Addr} {H:Hp} {b:Addr} (e:b∈B):hide B H b=none:=by unfold hide; rw [if_pos e]
theorem zI5 {B:List Addr} {H:Hp} {b:Addr} {o:HO} (h:hide B H b=some o):b∉B:=fun e=>by rw [zNI e] at h; cases h
theorem zHH {B:List Addr} {H H':Hp} (s:off B H H'):Same (hide B H) (hide B H'):=fun b o h=>by
 have e:=zI5 h
 rw [zBE e] at h |-
 exact s _ _ h e
theorem zAf {B:List Addr} {H H':Hp} (s:Same H H'):Same (hide B H) (hide B H'):=zHH fun b o h _=>s _ _ h
theorem zGk {B:List Addr} {H H':Hp} (f:∀ x∈B,H x=none) (s:Same H H'):Same H (hide B H'):=fun b o h=>by
 rw [zBE (fun e=>by rw [f b e] at h; cases h)]
 exact s _ _ h
theorem zIs {H H1 H2:Hp} {x:Addr} (s:Same H H1) (b:zBn x H1 H2) (n:H x=none):Same H H2:=fun c o e=>b _ _ (s _ _ e) (zAo e n)
theorem zHW {H:Hp} {x dx:Addr} (hx:H x=none) (hdx:H dx=none) (ne:dx≠x) (u o:HO):Same H (upd (upd H dx u) x o):=
 (zAI hdx _).trans (zAI ((zAW (Ne.symm ne)).trans hx) _)
end Sh
namespace L2
open PySem PySem.Spec PyProof.Rows
section
variable {X:Cx} {e:Expr}
end
theorem zI9 {K:PySem.W.Frag} {a b:Addr} {xs ys:List V} {g:TG} {tb:TS} {D:Ends} {σ:St} {H:Hp} (ha:SqE K H a xs) (hb:SqL K H b ys) (Pv:Nat->St->Hp->Prop) (h0:Pv 0 σ H) (hl:∀ i σ H',i<=xs.length->Pv i σ H'->Same H H') (hlen:xs.length<=ys.length)
  (hs:∀ i x y T σ H,xs[i]? = some x->ys[i]? = some y->H T=none->Pv i σ H->g (.ref T) σ (upd H T (.tup [x,y])) fun σ2 H2=>tb { D with nx:=Pv (i + 1),ct:=Pv (i + 1),bk:=D.nx } σ2 H2) (hd:∀ σ H,Pv xs.length σ H->D.nx σ H) :
  orZ K H a b fun J H'=>∃ W:Nat->Nat->St->Hp->Prop,(∃ m,W 0 m σ H')/\∀ i m σ H,W i m σ H->
   (J.stop i H/\D.nx σ H)\/(J.go i H/\∃ N:St->Hp->Prop,(∀ σ' H',N σ' H'->∃ m',m' < m/\W (i + 1) m' σ' H')/\∀ x H',J.yld i H x H'->g x σ H' fun σ2 H2=>tb { D with nx:=N,ct:=N,bk:=D.nx } σ2 H2):=by
 rcases ha with ha | ha
 ·exact .inl ⟨⟨_,ha⟩,⟨_,hb⟩,zNM Pv h0 (fun i σ H' hi p=>⟨(hl i σ H' hi p).seqT ha,(hl i σ H' hi p).seq hb⟩) hlen hs hd⟩
 ·exact .inr (.inl ⟨⟨_,ha⟩,⟨_,hb⟩,zMK Pv h0 (fun i σ H' hi p=>⟨(hl i σ H' hi p).seq ha,(hl i σ H' hi p).seq hb⟩) hlen hs hd⟩)
end L2
namespace Sh
inductive RT where
 | str (ns:List Int) (a d:Int)
 | stp (t:RT) (lo hi:Int)
 | prt (row:List Int) (x y:RT)
def RT.rows:RT->List (List Int)
 | .str _ _ _=>[]
 | .stp t _ _=>t.rows
 | .prt r x y=>[r]++x.rows++y.rows
end Sh
namespace Sh
open PySem L2
theorem zMk {n:Nat} {t b:Int} (h:Bd n b) (hb:b≠0):Bd n (Int.gcd t b:Int):=by
 refine h.of_le ?_
 rw [Int.natAbs_natCast]
 exact Int.gcd_le_natAbs_right t hb
theorem zNW {n:Nat} {t b:Int} (h:Bd n b) (hb:b≠0):Bd n (cm t b):=by
 unfold cm
 split
 ·exact (zMk h hb).neg
 ·exact zMk h hb
theorem zDz {n:Nat} {t b:Int} (h:Bd n t):Bd n (lowT t b):=h.fdiv _
theorem zDp {n:Nat} {t b:Int} (h:Bd n b):Bd n (lowB t b):=h.fdiv _
inductive zD2 (K:PySem.W.Frag) (vs:List V) (H:Hp) (Q:VK) (E:XK):Prop
 | mk (a:Addr) (ns:List Int) (_:vs=[.ref a]) (_:SqT K H a (ns.map V.int)) (_:Q (.int (zAM ns)) H):zD2 K vs H Q E
inductive zCw (vs:List V) (H:Hp) (Q:VK) (E:XK):Prop
 | mk (t b:Int) (_:vs=[.int t,.int b]) (_:b≠0) (_:Bd 8000 b) (_:∀ r H',Same H H'->H' r=some (.tup [.int (lowT t b),.int (lowB t b)])->Q (.ref r) H'):zCw vs H Q E
structure Two (H:Hp) (p q:Addr) (a b c d:Int):Prop where
 p:H p=some (.tup [.int a,.int b])
 q:H q=some (.tup [.int c,.int d])
 b0:0 < b
 d0:0 < d
 ab:Bd 9000 a
 bb:Bd 9000 b
 cb:Bd 9000 c
 db:Bd 9000 d
inductive zFy (vs:List V) (H:Hp) (Q:VK) (E:XK):Prop
 | mk (p q:Addr) (a b c d:Int) (_:vs=[.ref p,.ref q]) (_:Two H p q a b c d) (_:Q (.bl (decide (a * d < c * b))) H):zFy vs H Q E
inductive zGz (vs:List V) (H:Hp) (Q:VK) (E:XK):Prop
 | mk (a b:Int) (_:vs=[.int a,.int b]) (_:Q (.int (Int.gcd a b)) H):zGz vs H Q E
inductive zDh (vs:List V) (H:Hp) (Q:VK) (E:XK):Prop
 | mk (t b:Int) (_:vs=[.int t,.int b]) (_:0 < b) (_:Bd 8000 b) (_:∀ r H',Same H H'->H' r=some (.tup [.int (lowT t b),.int (lowB t b)])->Q (.ref r) H'):zDh vs H Q E
end Sh
namespace Sh
open PySem L2
theorem bd45 {x:Int} (h:0<=x/\x < 10 ^ 45):Bd 150 x:=by
 have:(10:Int) ^ 45 < 2 ^ 150:=by decide
 show x.natAbs < 2 ^ 150
 omega
end Sh
namespace L2
open PySem PySem.Spec PyProof.Rows Sh
theorem zCJ {α:Sort _} {p:α->Prop} {a:α} (h:p a):∃ b,b=a/\p b:=⟨a,rfl,h⟩
section
variable {X:Cx}
end
end L2
namespace Sh
structure LF where
 ns:List Int
 a:Int
 d:Int
abbrev PC:=List (List Int) × LF
section
variable {pts:List (Int × Int)} (hp:∀ p∈pts,0 < p.2)
include hp
end
end Sh
namespace Sh
open PySem L2
theorem zBA {x:Addr} {H:Hp} (o:HO):Same (hide [x] H) (hide [x] (upd H x o)):=zHH ((off.refl [x] H).put o (List.mem_singleton.mpr rfl))
end Sh
namespace Sh
open PySem L2
end Sh
namespace L2
open PySem PySem.Spec PyProof.Rows
section
variable {P:Program} {w:World} {H:Hp} {h:Heap} {a:Addr}
theorem zB5.there {o:HO} (x:zB5 P w H h a o):∃ ob,h.get? a=some ob:=by
 cases o with
 | lst xs=>obtain ⟨_,_,_,_,e⟩:=x; exact ⟨_,e⟩
 | tup xs=>obtain ⟨_,_,_,p⟩:=x; obtain ⟨ob,e,_⟩:=p; exact ⟨ob,e⟩
 | dK kvs=>obtain ⟨_,_,_,_,ob,_,_,e,_⟩:=x; exact ⟨ob,e⟩
 | dT kvs=>obtain ⟨_,_,_,_,ob,_,_,e,_⟩:=x; exact ⟨ob,e⟩
 | set S n=>obtain ⟨ob,_,_,_,e,_⟩:=x; exact ⟨ob,e⟩
 | ins C dx fs=>obtain ⟨_,_,_,e,_⟩:=x; exact ⟨_,e⟩
 | own y=>exact x
 | xd fs=>obtain ⟨_,⟨ob,_,_,e,_⟩,_⟩:=x; exact ⟨ob,e⟩
 | rng lo hi=>obtain ⟨_,_,_,e⟩:=x; exact ⟨_,e⟩
 | frz ob u=>obtain ⟨e,_⟩:=x; exact ⟨_,e⟩
 | tbl ps=>exact ⟨_,show h.get? a=some _ from x⟩
 | met f y=>exact ⟨_,show h.get? a=some _ from x⟩
 | ext φ=>obtain ⟨_,e,_⟩:=x; exact e
theorem HOk.none_of (x:HOk P w H h) (e:h.get? a=none):H a=none:=by
 cases q:H a with
 | none=>rfl
 | some o=>
  obtain ⟨ob,z⟩:=(x a o q).there
  rw [e] at z
  cases z
theorem HOk.hide {as:List Addr} (x:HOk P w H h) (f:∀ b∈as,H b=none):HOk P w H (PySem.W.hideAll h as):=fun a o e=>
 (x a o e).stay (fun b u hb q=>PySem.W.hideAll_get _ q fun z=>by
  have n:=f b z
  rcases hb with rfl | hb
  ·rw [n] at e; cases e
  ·rw [n] at hb; cases hb) (fun _ q=>q) fun _ _ q=>q
end
structure XL (P:Program) (w:World) (outer:List Env) (H H':Hp) (s s':Shared) (B:Heap) (e:Addr) (cls a0:Value):Prop where
 os:s'.os=s.os
 bare:AllBare s'.gens
 keep:∀ b o,s.heap.get? b=some o->H b=none->b∉frs outer->B.get? b=some o
 slot:∀ b o,s.heap.get? b=some o->H b=none->b∈frs outer->∃ sl,s'.heap.get? b=some { o with slots:=sl }
 free:∀ b o,s.heap.get? b=some o->H b=none->H' b=none
 there:∀ b o,s.heap.get? b=some o->b∉frs outer->∃ o',B.get? b=some o'
 tups:∀ b xs,H b=some (.tup xs)->H' b=some (.tup xs)
 frzs:∀ b o u,H b=some (.frz o u)->H' b=some (.frz o u)
 tbls:∀ b ps,H b=some (.tbl ps)->∃ more,H' b=some (.tbl (ps++more))
 hok:HOk P w H' B
 fly:Heap.FlyingW B outer e cls a0 s'.heap
def CX1 (P:Program) (w:World):CXT:=fun outer H s E ev s'=>∃ (e:Addr) (cls a0:Value) (B:Heap) (H':Hp),ev=.ref e/\XL P w outer H H' s s' B e cls a0/\E cls none H'
section
variable {P:Program} {w:World} {outer:List Env} {H H':Hp} {s s':Shared} {B:Heap} {e:Addr} {cls a0:Value}
theorem XL.un (x:XL P w outer H H' s s' B e cls a0):Un (frs outer) [] H H' s.heap s'.heap where
 keep:=fun b o q n hb _=>x.fly.1 b o (x.keep b o q n hb)
 slot:=fun b o q n hb _=>x.slot b o q n hb
 free:=fun b o q n _=>x.free b o q n
 there:=fun b o q _=>by
  by_cases hb:b∈frs outer
  ·obtain ⟨_,o',ho,_⟩:=x.fly.2.2.1.mem hb
   exact ⟨o',ho⟩
  ·obtain ⟨o',ho⟩:=x.there b o q hb
   exact ⟨o',x.fly.1 _ _ ho⟩
 tups:=x.tups
 frzs:=x.frzs
 tbls:=x.tbls
theorem XL.held (x:XL P w outer H H' s s' B e cls a0):HOk P w H' s'.heap:=x.hok.kept x.fly.1
theorem XL.move {h':Heap} {tk:Nat} (x:XL P w outer H H' s s' B e cls a0) (f:Heap.FlyingW B outer e cls a0 h') (u:s'.heap.UpToSlots h'):XL P w outer H H' s { s' with heap:=h',toks:=tk } B e cls a0 where
 os:=x.os
 bare:=x.bare
 keep:=x.keep
 slot:=fun b o q n hb=>by
  obtain ⟨sl,e1⟩:=x.slot b o q n hb
  obtain ⟨_,o',ho,nf⟩:=x.fly.2.2.1.mem hb
  rw [e1] at ho
  cases ho
  obtain ⟨sl',e2⟩:=u b _ e1 nf
  exact ⟨sl',e2⟩
 free:=x.free
 there:=x.there
 tups:=x.tups
 frzs:=x.frzs
 tbls:=x.tbls
 hok:=x.hok
 fly:=f
theorem XL.new (x:XL P w outer H H' s s' B e cls a0):s.heap.get? e=none/\H' e=none/\e∉frs outer:=by
 have nf:e∉frs outer:=fun z=>by
  obtain ⟨_,o,ho,nd⟩:=x.fly.2.2.1.mem z
  obtain ⟨oe,vs,he,_,hd,_⟩:=x.fly.first
  rw [he] at ho
  cases ho
  exact nd _ hd
 refine ⟨?_,x.hok.none_of x.fly.2.1,nf⟩
 cases q:s.heap.get? e with
 | none=>rfl
 | some o=>
  obtain ⟨o',z⟩:=x.there e o q nf
  rw [x.fly.2.1] at z
  cases z
end
section
variable {P:Program} {w:World} {K:PySem.W.Frag} {mg:Str->Option Value} {base:Heap} {N:List Str} {qual:Str} {scope:Scope} {f:Addr} {cd:Value} {A:Around} {outer:List Env} {s:Shared} {H:Hp} {E:XK}
theorem zEv {X:Cx} {pins:List (Addr × Obj)} {σ:St} {H1:Hp} {s1:Shared} {b:Addr} {o:Obj} (I:Inv X pins σ H1 s1) (q:X.s₀.heap.get? b=some o) (hb:b∉X.fs):b∉frs X.stack:=fun z=>by
 rcases List.mem_cons.mp (I.stkSub b z) with e | z
 ·exact absurd (Nat.lt_of_lt_of_le (Heap.lt_size q) I.ok.above) (by rw [e]; exact Nat.lt_irrefl _)
 ·exact hb z
theorem zGh {pins:List (Addr × Obj)} {σ:St} {H1:Hp} {s1:Shared} {h2:Heap} {e:Addr} {cls:Value} {args:List Value}
  (I:Inv (cxOf (CX1 P w) P w K mg base N qual scope f cd A outer s H E) pins σ H1 s1) (hx:Heap.MadeExcOf s1.heap h2 e cls args) (q:E cls none H1) :
  (cxOf (CX1 P w) P w K mg base N qual scope f cd A outer s H E).xe (.ref e) { s1 with heap:=h2 }:=by
 have fr:=I.stack
 have fh:=PySem.W.funFrames_hide (as:=frs (cxOf (CX1 P w) P w K mg base N qual scope f cd A outer s H E).stack) fr fun env he b hb=>List.mem_filterMap.mpr ⟨env,he,hb⟩
 refine wpAny_leaves_madeW (base:=PySem.W.hideAll s1.heap (frs (cxOf (CX1 P w) P w K mg base N qual scope f cd A outer s H E).stack)) I.ok.frames rfl (fun b o q=>PySem.W.of_hideAll _ q) fh hx fun h' t x1 x2 x3 x4=>?_
 refine ⟨e,cls,.ref t,_,H1,rfl,⟨I.os,I.bare,fun b o eb n hb=>?_,fun b o eb n hb=>?_,fun b o eb n=>I.base.free b o eb n (by simp [cxOf]),fun b o eb hb=>?_,I.base.tups,I.base.frzs,I.base.tbls,I.hok.hide fun b hb=>I.stkFree b hb,x1⟩,q⟩
 ·exact PySem.W.hideAll_get _ (I.base.keep b o eb n hb (by simp [cxOf])) (zEv I eb hb)
 ·obtain ⟨sl,e1⟩:=I.base.slot b o eb n hb (by simp [cxOf])
  obtain ⟨_,o',ho,nf⟩:=I.funs.mem hb
  rw [e1] at ho
  cases ho
  obtain ⟨sl',e2⟩:=x4 b _ (hx.keeps _ _ e1) nf
  exact ⟨sl',e2⟩
 ·obtain ⟨o',e1⟩:=I.base.there b o eb (by simp [cxOf])
  exact ⟨o',PySem.W.hideAll_get _ e1 (zEv I eb hb)⟩
theorem zKe {E':XK} (hE:∀ c d H,E' c d H->E c d H):zGS (CX1 P w) (cxOf (CX1 P w) P w K mg base N qual scope f cd A outer s H E) E':=by
 intro pins σ H1 s1 ev s2 I h
 obtain ⟨e,cls,a0,B,H2,rfl,x,q⟩:=h
 have un:=(I.base.mono (fs':=frs (cxOf (CX1 P w) P w K mg base N qual scope f cd A outer s H E).stack) (ex':=[]) (fun b hb=>by
  show b∈frs (_ :: outer)
  unfold frs
  rw [List.filterMap_cons]
  split
  ·exact hb
  ·exact List.mem_cons_of_mem _ hb) fun b hb=>hb).trans x.un
 have hx:Heap.FlyingW B ((cxOf (CX1 P w) P w K mg base N qual scope f cd A outer s H E).env :: outer) e cls a0 s2.heap:=x.fly
 refine wpAny_leaves_onW I.ok.frames rfl hx fun h' fl up=>?_
 refine ⟨e,cls,a0,B,H2,rfl,⟨x.os.trans I.os,x.bare,fun b o eb n hb=>?_,fun b o eb n hb=>?_,fun b o eb n=>un.free b o eb n (by simp),fun b o eb hb=>?_,un.tups,un.frzs,un.tbls,x.hok,fl⟩,hE _ _ _ q⟩
 ·exact x.keep b o (I.base.keep b o eb n hb (by simp [cxOf])) (I.base.free b o eb n (by simp [cxOf])) (zEv I eb hb)
 ·obtain ⟨sl,e1⟩:=I.base.slot b o eb n hb (by simp [cxOf])
  have hb2:b∈frs (cxOf (CX1 P w) P w K mg base N qual scope f cd A outer s H E).stack:=by
   show b∈frs (_ :: outer)
   unfold frs
   rw [List.filterMap_cons]
   split
   ·exact hb
   ·exact List.mem_cons_of_mem _ hb
  obtain ⟨sl1,e2⟩:=x.slot b _ e1 (I.base.free b o eb n (by simp [cxOf])) hb2
  obtain ⟨_,o',ho,nf⟩:=x.fly.2.2.1.mem hb2
  rw [e2] at ho
  cases ho
  obtain ⟨sl2,e3⟩:=up b _ e2 nf
  exact ⟨sl2,e3⟩
 ·obtain ⟨o',e1⟩:=I.base.there b o eb (by simp [cxOf])
  exact x.there b o' e1 (zEv I eb hb)
end
theorem zNO {K:PySem.W.Frag} {h:Heap} {C:Addr} {bmB:List Value} {newId:String} (X:K.In h) (q:PySem.W.excIn K C bmB newId=true) :
  ∃ bm N nm qn bs hdct sn sub ab col dd k0 k1 k2 k3 k5 mN,h.get? C=some (excClassObj nm qn C N bs bm hdct sn sub ab col dd k0 k1 k2 k3 k5 newId)/\h.Ns N mN/\mN "__init__" = none/\OwnTail h bmB bm:=by
 unfold PySem.W.excIn at q
 split at q
 case h_1 dd cd sl look=>
  split at q
  case h_1 C1 tl k0 k1 k2 k3 made k5 eqm eqs=>
   simp only [Bool.and_eq_true,beq_iff_eq,Bool.not_eq_true'] at q
   obtain ⟨⟨⟨⟨⟨e1,e2⟩,e3⟩,e4⟩,e5⟩,e6⟩:=q
   subst e1 e2
   obtain ⟨nm,bs,mro,ns,qn,hd,sn,sub,ab,col,del⟩:=cd
   obtain ⟨sll⟩:=sl
   dsimp only at eqm e3 e5 e6 eqs
   subst eqm e3 eqs
   exact ⟨tl,ns,nm,qn,bs,hd,sn,sub,ab,col,dd,k0,k1,k2,k3,k5,h.nsMap ns,X _ _ look,.of_isNs (PySem.W.isNs_of_in X e5),PySem.W.nsMap_none_of_in X e5 e6,PySem.W.tail_of_in X e4⟩
  all_goals cases q
 all_goals cases q
abbrev bmV:List Value:=[.type "ValueError",.type "Exception",.type "BaseException",.type "object"]
def zNh (C:Addr) (E:XK) (ta:TA):TS:=fun _ σ H=>ta σ H fun vs H1=>vs.length<=sizeLine/\E (.ref C) none H1
def zOY (X:Cx) (E:XK):Prop:=∀ (pins:List (Addr × Obj)) (σ:St) (H:Hp) (s:Shared) (h':Heap) (e:Addr) (cls:Value) (args:List Value),Inv X pins σ H s->Heap.MadeExcOf s.heap h' e cls args->E cls none H->X.xe (.ref e) { s with heap:=h' }
theorem zIw {X:Cx} {C:Addr} {E:XK} {x:Str} {np cpos pos:Pos} {e0:Expr} {es:List Expr} {ta:TA} (R:zOY X E) (hC:PySem.W.excIn X.K C bmV "ValueError.__new__" = true) (hg:Gl X x) (hm:X.mg x=some (.ref C)) (hc:X.calm=true) (ha:PA X (e0 :: es) ta)
  (hdb:(x == ("__debug__" : Str))=false:=by decide) (he:starEach (e0 :: es) X.env=(false,eval e0 X.env) :: starEach es X.env:=by rfl) (hpl:(backTo cpos (starEach es X.env)).any (·.1)=false:=by rfl) :
  PS X (.Raise (some (.Call (.Name x np) (e0 :: es) [] cpos)) none pos) (zNh C E ta):=by
 intro pins s σ H D I h
 obtain ⟨bm,N,nm,qn,bs,hdct,sn,sub,ab,col,dd,k0,k1,k2,k3,k5,mN,oC,oN,oi,oT⟩:=zNO I.ok.mod.kin hC
 have hp:(backTo cpos (starEach (e0 :: es) X.env)).any (·.1)=false:=by
  rw [he]
  show (false || (backTo cpos (starEach es X.env)).any (·.1))=false
  rw [hpl]
  rfl
 refine wpAny_Raise_call_subT (C:=C) (nm:=nm) (q:=qn) (N:=N) (bs:=bs) (bm:=bm) (hdct:=hdct) (sn:=sn) (sub:=sub) (ab:=ab) (col:=col) (dd:=dd) (k0:=k0) (k1:=k1) (k2:=k2) (k3:=k3) (k5:=k5) PySem.F.excBase_ValueError (mN:=mN)
  (oT.hasType PySem.F.excBase_ValueError.hasBase) (I.ok.hd hc) hp oi (zFG I hg hm ⟨rfl,?_⟩ hdb)
 have ha':=ha cpos pins s σ H _ I h
 rw [he] at ha' |-
 refine Calls.evalArgs_plain (thn ha' fun us s2 ⟨vs,H1,I2,r,hl,qE⟩=>?_)
 exact ⟨rfl,(by rw [<- r.length]; exact hl),I2.bk _ _ oC,oN.keeps I2.bk,oT.keeps I2.bk,fun h' e hm'=>R pins σ H1 s2 h' e _ _ I2 hm' qE⟩
section
variable {P:Program} {w:World} {K:PySem.W.Frag} {mg:Str->Option Value} {base:Heap}
theorem Fun.okX {x qual:Str} {st:Stmt} {f:Addr} {fd:FuncData} {N ps:List Str} {k:Nat} {sp:Sp} (F:Fun K x qual st f fd) (S:zAP N ps (zAC st)) (len:∀ vs H Q E,sp vs H Q E->vs.length=ps.length)
  (hbody:∀ (cdv:Value) (A:Around) (outer:List Env) (s:Shared) (H:Hp) (vs:List V) (Q:VK) (E:XK),Room k (A.deeper (envOfC qual (zAC st) s.heap.objs.size f cdv))->sp vs H Q E->
   ∃ t,PSs (cxOf (CX1 P w) P w K mg base N qual (zAC st) f cdv A outer s H E) (zAL st) t/\t { nx:=fun _ H'=>Q .non H',rt:=Q } (zGV N vs) H):FnOk P w K mg base (CX1 P w) (k + 1) f fd ps sp:=by
 obtain ⟨oc,od,kV,doc,pm,an,cdv,ct,osl,rfl,lk,hcd⟩:=F.ex
 exact zNN lk hcd S len fun A outer s H vs Q E hr hsp=>hbody cdv A outer s H vs Q E hr hsp
structure FnX (P:Program) (w:World) (K:PySem.W.Frag) (mg:Str->Option Value) (base:Heap) (x:Str) (ps:List Str) (k:Nat) (sp:Sp):Prop where
 ex:∃ f fd,FnOk P w K mg base (CX1 P w) k f fd ps sp/\mg x=some (.ref f)/\PySem.W.keepIn K (.ref f)=true/\zEH K fd ps []
theorem FnX.mono {x:Str} {ps:List Str} {j k:Nat} {sp:Sp} (F:FnX P w K mg base x ps j sp) (h:j<=k:=by decide):FnX P w K mg base x ps k sp:=by
 obtain ⟨f,fd,a,b,c,d⟩:=F.ex
 exact ⟨f,fd,a.mono h,b,c,d⟩
end
def ExcO (e C:Addr):HO:=.ext fun h=>∃ oe vs,h.get? e=some oe/\oe.cls=.ref C/\oe.data=.fields vs
section
variable {X:Cx}
end
abbrev Cx.mark (X:Cx) (e:Addr):Cx:={ X with A:=X.A.mark (some (.ref e)),calm:=false,xe:=fun _ _=>False }
section
variable {X:Cx} {pins:List (Addr × Obj)} {σ:St} {H:Hp} {s:Shared} {e:Addr}
theorem Inv.mark (I:Inv X pins σ H s) (e:Addr):Inv (X.mark e) pins σ H s:=
 ⟨⟨I.ok.mod,I.ok.kind,I.ok.glob,I.ok.blt,I.ok.above,I.ok.inj,I.ok.has,I.ok.cab,fun z=>(nomatch z),I.ok.frames,I.ok.stk,I.ok.exf,I.ok.bs,I.ok.bsz,I.ok.noex,I.ok.exfs,I.ok.funs,I.ok.frf⟩,I.os,I.bare,I.base,I.loc,I.cell,I.free,I.freeC,I.pin,I.hok,I.len⟩
theorem Inv.unmark (hh:X.calm=true->X.A.handled=none) (I:Inv (X.mark e) pins σ H s):Inv X pins σ H s:=
 ⟨⟨I.ok.mod,I.ok.kind,I.ok.glob,I.ok.blt,I.ok.above,I.ok.inj,I.ok.has,I.ok.cab,hh,I.ok.frames,I.ok.stk,I.ok.exf,I.ok.bs,I.ok.bsz,I.ok.noex,I.ok.exfs,I.ok.funs,I.ok.frf⟩,I.os,I.bare,I.base,I.loc,I.cell,I.free,I.freeC,I.pin,I.hok,I.len⟩
theorem Inv.track {o:HO} (I:Inv X pins σ H s) (hn:H e=none) (h0:e∈X.ex\/X.s₀.heap.get? e=none) (hL:e≠X.env.locals) (hc:∀ x c,X.env.cells.lookup x=some c->c≠e) (hp:∀ p∈X.pn++pins,p.1≠e)
  (new:zB5 X.prog X.w (upd H e o) s.heap e o):Inv X pins σ (upd H e o) s:=by
 have ne:∀ b u,H b=some u->b≠e:=fun b u q=>zAo q hn
 refine ⟨I.ok,I.os,I.bare,⟨I.base.keep,I.base.slot,fun b ob q n hx=>?_,I.base.there,fun b xs q=>?_,fun b ob u q=>?_,fun b ps q=>?_⟩,I.loc,I.cell,?_,fun x c q=>?_,fun p hq=>?_,fun b u q=>?_,I.len⟩
 ·rw [zAW fun z=>?_]
  ·exact I.base.free b ob q n hx
  ·subst z
   rcases h0 with z | z
   ·exact hx z
   ·rw [q] at z; cases z
 ·have z:=I.base.tups b xs q
  rw [zAW (ne _ _ z)]
  exact z
 ·have z:=I.base.frzs b ob u q
  rw [zAW (ne _ _ z)]
  exact z
 ·obtain ⟨m,z⟩:=I.base.tbls b ps q
  exact ⟨m,by rw [zAW (ne _ _ z)]; exact z⟩
 ·rw [zAW (Ne.symm hL)]
  exact I.free
 ·rw [zAW (hc x c q)]
  exact I.freeC x c q
 ·obtain ⟨a1,a2,a3,a4,a5⟩:=I.pin p hq
  exact ⟨a1,by rw [zAW (hp p hq)]; exact a2,a3,a4,a5⟩
 ·by_cases z:b=e
  ·subst z
   rw [zAF] at q
   cases q
   exact new
  ·rw [zAW z] at q
   exact (I.hok b u q).stay (fun _ _ _ r=>r) (fun c r=>by rw [zAW (ne _ _ r)]; exact r) fun c xs r=>by rw [zAW (ne _ _ r)]; exact r
end
def PEX (X:Cx) (ex:Expr) (t:XK->TE):Prop:=
 ∀ (pins:List (Addr × Obj)) (s:Shared) (σ:St) (H:Hp) (Q:VK) (E:XK),Inv X pins σ H s->t E σ H Q->
  wpAny (model X.prog X.w) X.A (eval ex X.env) (EP X pins σ Q) (fun ev s'=>∃ (s1:Shared) (H1 H2:Hp) (e:Addr) (cls a0:Value) (B:Heap),Inv X pins σ H1 s1/\ev=.ref e/\XL X.prog X.w X.stack H1 H2 s1 s' B e cls a0/\E cls none H2) s
theorem zKa {X:Cx} {x:Str} {ps:List Str} {k:Nat} {sp:Sp} {e:Expr} {es:List Expr} {t:TA} {p pos:Pos} (F:FnX X.prog X.w X.K X.mg X.base x ps k sp) (hr:Room k X.A) (hg:Gl X x) (ha:PA X.nox (e :: es) t)
  (hdb:(x == ("__debug__" : Str))=false:=by decide) (he:starEach (e :: es) X.env=(false,eval e X.env) :: starEach es X.env:=by rfl) (hpl:(backTo pos (starEach es X.env)).any (·.1)=false:=by rfl) :
  PEX X (.Call (.Name x p) (e :: es) [] pos) (fun E=>zKH sp [] E t):=by
 intro pins s σ H Q E I h
 obtain ⟨f,fd,Fk,hm,hk,hb⟩:=F.ex
 refine wpAny_Call_Name_kw (zFG I hg hm ?_ hdb)
 refine PySem.W.callWith_K (h₀:=X.base) I.ok.mod.kin hk (wpAny_mono (ha pos pins s σ H _ (I.wish _) h) (fun us s1 ⟨vs,H1,I1,r,q⟩=>⟨I1.unwish.kIn,?_⟩) fun _ _ z=>False.elim z) he hpl
 have I1':=I1.unwish
 have r2:Vals (vs++[]) (us++[]):=r.append .nil
 have hl:(us++[]).length=ps.length:=by rw [<- r2.length]; exact Fk.len _ _ _ _ q
 refine wpAny_call (codeAny_mono (Fk.run X.A X.stack s1 H1 ⟨us,[]⟩ (us++[]) (vs++[]) Q E hr I1'.env0 (hb s1 us I1'.kIn hl) r2 q) fun r s' hq=>?_)
 cases r with
 | error ev=>
  obtain ⟨ee,cls,a0,B,H2,rfl,x,qE⟩:=hq
  exact ⟨s1,H1,H2,ee,cls,a0,B,I1',rfl,x,qE⟩
 | ok fl=>
  cases fl with
  | ret u=>exact I1'.after hq
  | next=>exact False.elim hq
  | brk=>exact False.elim hq
  | cont=>exact False.elim hq
end L2
namespace L2
open PySem PySem.Spec PyProof.Rows
def XP (X:Cx) (pins:List (Addr × Obj)) (ES:St->XK) (ev:Value) (s':Shared):Prop:=
 ∃ (σ1:St) (s1:Shared) (H1 H2:Hp) (e:Addr) (cls a0:Value) (B:Heap),Inv X pins σ1 H1 s1/\ev=.ref e/\XL X.prog X.w X.stack H1 H2 s1 s' B e cls a0/\ES σ1 cls none H2
abbrev TX:=(St->XK)->TS
def PSX (X:Cx) (st:Stmt) (t:TX):Prop:=∀ (pins:List (Addr × Obj)) (s:Shared) (σ:St) (H:Hp) (D:Ends) (ES:St->XK),Inv X pins σ H s->t ES D σ H->wpAny (model X.prog X.w) X.A (exec st X.env) (SP X pins D) (XP X pins ES) s
def PSXs (X:Cx) (ss:List Stmt) (t:TX):Prop:=∀ (pins:List (Addr × Obj)) (s:Shared) (σ:St) (H:Hp) (D:Ends) (ES:St->XK),Inv X pins σ H s->t ES D σ H->wpAny (model X.prog X.w) X.A (execs ss X.env) (SP X pins D) (XP X pins ES) s
section
variable {X:Cx} {call:Expr} {tb:XK->TE} {pos pos':Pos}
theorem zM1 {i:Nat} {x:Str} (hN:X.N.Nodup) (hi:X.N[i]? = some x) (hx:Loc X.env.scope x) (hb:PEX X call tb) (hs:swapsWith call (some (.Name x pos')) pos.line X.env=pure false:=by rfl)
  (hf:X.fn x=true\/X.env.scope.names.lookup x=some .local:=by first | exact .inl rfl | exact .inr rfl | assumption):PSX X (.Assign [.Name x pos'] call pos) (fun ES D σ H=>tb (ES σ) σ H fun v H1=>D.nx (σ.set i (some v)) H1):=by
 intro pins s σ H D ES I h
 refine wpAny_Assign_Name (wpAny_mono (hb pins s σ H _ _ I h) (fun v s1 ⟨y,H1,I1,r1,q1⟩=>?_) fun ev s1 ⟨s0,H1,H2,e,cls,a0,B,I0,e1,xl,q⟩=>⟨σ,s0,H1,H2,e,cls,a0,B,I0,e1,xl,q⟩) hs
 exact zEX I1 hN hi hx r1 (fun s2 I2=>⟨_,H1,I2,q1⟩) hf
theorem zLw:PSXs X [] (fun _ D σ H=>D.nx σ H):=fun _ _ σ H _ _ I h=>wpAny_execs_nil ⟨σ,H,I,h⟩
theorem zKY {st:Stmt} {ss:List Stmt} {t u:TX} (h1:PSX X st t) (h2:PSXs X ss u):PSXs X (st :: ss) (fun ES D σ H=>t ES { D with nx:=u ES D } σ H):=by
 intro pins s σ H D ES I h
 refine wpAny_execs_cons (wpAny_mono (h1 pins s σ H _ ES I h) (fun f s1 q=>?_) fun _ _ z=>z)
 cases f with
 | next=>obtain ⟨σ',H',I',q'⟩:=q; exact h2 pins s1 σ' H' D ES I' q'
 | brk=>exact q
 | cont=>exact q
 | ret u=>exact q
end
def tTryN (K:PySem.W.Frag) (Cb:Addr) (tb:TX) (th:TS):TS:=fun D σ H=>
 tb (fun σ1 cls _ H2=>∃ C,cls=.ref C/\PySem.W.exmOne K (.ref C) (.ref Cb)=some true/\∀ e,H2 e=none->
  th D σ1 (upd H2 e (ExcO e C))) D σ H
theorem zM2 {X:Cx} {Cb:Addr} {x:Str} {body:List Stmt} {tb:TX} {th:TS} {b₀:Stmt} {suite:List Stmt} {np hpos pos:Pos} (hg:Gl X x) (hm:X.mg x=some (.ref Cb)) (hc:X.calm=true)
  (hf:X.env.frame=some X.env.locals) (hst:X.stack=X.env :: X.outer) (hb:PSXs X body tb) (hh:∀ e,PSs (X.mark e) (b₀ :: suite) th)
  (hdb:(x == ("__debug__" : Str))=false:=by decide) :
  PS X (.Try body [.ExceptHandler (some (.Name x np)) none (b₀ :: suite) hpos] [] [] pos) (tTryN X.K Cb tb th):=by
 intro pins s σ H D I h
 refine wpAny_Try_except (wpAny_mono (hb pins s σ H D _ I h) (fun fl s1 q1=>?_) fun ev s1 hx=>?_)
 ·cases fl with
  | next=>exact wpAny_execs_nil q1
  | brk=>exact q1
  | cont=>exact q1
  | ret u=>exact q1
 obtain ⟨σ1,s0,H1,H2,e,cls,a0,B,I0,rfl,xl,C,rfl,hx,q⟩:=hx
 have hfr:X.A.frames=some (X.env :: X.outer):=by rw [<- hst]; exact I.ok.frames
 have xl':XL X.prog X.w (X.env :: X.outer) H1 H2 s0 s1 B e (.ref C) a0:=by rw [<- hst]; exact xl
 have behind:∀ {h':Heap} {tk:Nat},XL X.prog X.w (X.env :: X.outer) H1 H2 s0 { s1 with heap:=h',toks:=tk } B e (.ref C) a0->Inv X pins σ1 H2 { s1 with heap:=h',toks:=tk }:=fun {h' tk} z=>by
  have z':XL X.prog X.w X.stack H1 H2 s0 { s1 with heap:=h',toks:=tk } B e (.ref C) a0:=by rw [hst]; exact z
  exact I0.call' (ch:=[]) z'.os z'.un z'.held z'.bare fun b hb=>absurd hb (by simp)
 have hE:∀ (Y:Around) (v:Value) (sx:Shared),False->notedBy (model X.prog X.w) Y X.env (cameBackBy (model X.prog X.w) X.A X.env X.xe) v sx:=fun _ _ _ z=>z.elim
 refine wpAny_looks_onW hfr hf xl'.fly fun h4 held4 up4=>?_
 refine wpAny_landsW held4 fun h5 fly5 up5=>?_
 have x5:=xl'.move (tk:=s1.toks) fly5 (up4.trans up5)
 have I5:=behind x5
 refine wpAny_handleBy_cons (codeAny_handlers_test (zFG (I5.mark e) hg hm ?_ hdb)) (by intro q; cases q)
 obtain ⟨oe,ws,he,hcl,hd,_⟩:=fly5.first
 have LT:PySem.W.Looks (model X.prog X.w) h5 (typeOf (.ref e)) (.ref C):=hcl ▸ (PySem.W.Looks.ld he).andThen .now
 refine (PySem.W.exm_one (K:=X.K) I5.kIn LT hx).here (codeAny_handlers_suite ?_)
 refine lands_againW (s:={ s1 with heap:=h5 }) fly5 fun h6 fly6 up6=>?_
 have x6:=xl'.move (tk:=s1.toks) fly6 ((up4.trans up5).trans up6)
 have I6:=behind x6
 obtain ⟨oe6,ws6,he6,hcl6,hd6,_⟩:=fly6.first
 obtain ⟨new,hH,nfr⟩:=xl.new
 have eL:e≠X.env.locals:=fun z=>nfr (by
  rw [hst]
  unfold frs
  rw [List.filterMap_cons,hf,z]
  exact List.mem_cons_self)
 have J6:Inv X pins σ1 (upd H2 e (ExcO e C)) { s1 with heap:=h6,toks:=s1.toks }:=by
  refine I6.track hH ?_ eL (fun y c q z=>?_) (fun p hp z=>?_) ⟨⟨oe6,ws6,he6,hcl6,hd6⟩,⟨oe6,he6⟩,fun g1 g2 ⟨o,v,p1,p2,p3⟩ k=>⟨o,v,k _ p1,p2,p3⟩⟩
  ·by_cases hx:e∈X.ex
   ·exact .inl hx
   ·refine .inr ?_
    cases q:X.s₀.heap.get? e with
    | none=>rfl
    | some o=>
     obtain ⟨o',z⟩:=I0.base.there e o q hx
     rw [new] at z
     cases z
  ·obtain ⟨v,o,ho,_⟩:=I0.cell y c q
   rw [z,new] at ho
   cases ho
  ·have z1:=(I0.pin p hp).1
   rw [z,new] at z1
   cases z1
 refine wpAny_mono (hh e pins _ _ _ _ (J6.mark e) (q e hH)) (fun fl s8 h8=>?_) fun _ _ z=>False.elim z
 cases fl with
 | ret u=>obtain ⟨v,σ8,H8,I8,r8,q8⟩:=h8; exact ⟨v,σ8,H8,I8.unmark fun z=>I.ok.hd z,r8,q8⟩
 | brk=>obtain ⟨σ8,H8,I8,q8⟩:=h8; exact ⟨σ8,H8,I8.unmark fun z=>I.ok.hd z,q8⟩
 | cont=>obtain ⟨σ8,H8,I8,q8⟩:=h8; exact ⟨σ8,H8,I8.unmark fun z=>I.ok.hd z,q8⟩
 | next=>obtain ⟨σ8,H8,I8,q8⟩:=h8; exact ⟨σ8,H8,I8.unmark fun z=>I.ok.hd z,q8⟩
end L2
namespace L2
open PySem PySem.Spec PyProof.Rows
section
variable {X:Cx} {C:Addr} {m x:Str} {ps:List Str} {k:Nat} {sp:Sp} {o e:Expr} {es:List Expr} {ta:TE} {t:TA} {p pos apos:Pos}
end
section
variable {P:Program} {w:World} {K:PySem.W.Frag} {mg:Str->Option Value} {base:Heap} {N:List Str} {qual:Str} {scope:Scope} {f:Addr} {cd:Value} {A:Around} {outer:List Env} {s:Shared} {H:Hp} {E:XK}
variable {C:Addr} {m x:Str} {ps:List Str} {k:Nat} {sp:Sp} {o e:Expr} {es:List Expr} {ta:TE} {t:TA} {p pos apos:Pos}
theorem zHA (F:FnX P w K mg base x ps k sp) (hr:Room k (cxOf (CX1 P w) P w K mg base N qual scope f cd A outer s H E).A) (hg:Gl (cxOf (CX1 P w) P w K mg base N qual scope f cd A outer s H E) x) (ha:PA (cxOf (CX1 P w) P w K mg base N qual scope f cd A outer s H E) (e :: es) t)
  (hdb:(x == ("__debug__" : Str))=false:=by decide) (he:starEach (e :: es) (cxOf (CX1 P w) P w K mg base N qual scope f cd A outer s H E).env=(false,eval e (cxOf (CX1 P w) P w K mg base N qual scope f cd A outer s H E).env) :: starEach es (cxOf (CX1 P w) P w K mg base N qual scope f cd A outer s H E).env:=by rfl)
  (hpl:(backTo pos (starEach es (cxOf (CX1 P w) P w K mg base N qual scope f cd A outer s H E).env)).any (·.1)=false:=by rfl) :
  PE (cxOf (CX1 P w) P w K mg base N qual scope f cd A outer s H E) (.Call (.Name x p) (e :: es) [] pos) (zKH sp [] E t):=by
 obtain ⟨f',fd,a,b,c,d⟩:=F.ex
 exact zH8 (X:=cxOf (CX1 P w) P w K mg base N qual scope f cd A outer s H E) a hr hg b c d .nil (zKe fun _ _ _ z=>z) ha hdb he hpl
end
end L2
namespace L2
open PySem PySem.Spec PyProof.Rows
def safe (sp:Sp):Sp:=fun vs H Q _=>sp vs H Q fun _ _ _=>False
section
variable {P:Program} {w:World} {K:PySem.W.Frag} {mg:Str->Option Value} {base:Heap} {k:Nat} {f C:Addr} {fd:FuncData} {x m:Str} {ps:List Str} {sp:Sp}
end
end L2
namespace L2
open PySem PySem.Spec PyProof.Rows PySem.Builtin PySem.Builtin.ObjectAttr PySem.Builtin.Getset_descriptor
section
variable {prog:Program} {w:World} {A:Around} {E:Value->Shared->Prop} {K:PySem.W.Frag} {s:Shared} {e C:Addr} {oe:Obj}
end
section
variable {X:Cx}
end
end L2
namespace L2
open PySem PySem.Spec PyProof.Rows
section
variable {X:Cx}
end
section
open Sh
variable {X:Cx}
end
end L2
namespace L2
open PySem PySem.Spec PyProof.Rows
abbrev zMZ (sp:Sp):Sp:=fun vs H Q _=>sp vs H Q (fun _ _ _=>False)
theorem FnX.calm {P:Program} {w:World} {K:PySem.W.Frag} {mg:Str->Option Value} {base:Heap} {x:Str} {ps:List Str} {k:Nat} {sp:Sp} (F:FnX P w K mg base x ps k sp):Fn P w K mg base x ps k (zMZ sp):=by
 obtain ⟨f,fd,a,b,c,d⟩:=F.ex
 refine ⟨f,fd,⟨fun vs H Q E h=>a.len _ _ _ _ h,fun A outer s H args us vs Q E hr he hb hv hs=>?_⟩,b,c,d⟩
 refine codeAny_mono (a.run A outer s H args us vs Q (fun _ _ _=>False) hr he hb hv hs) fun r s' h=>?_
 cases r with
 | ok o=>cases o <;> exact h
 | error ev=>
  obtain ⟨e,cls,a0,B,H',_,_,z⟩:=h
  exact z.elim
end L2
set_option linter.all false
namespace Sh
def bt:List (Int × Int)->Int
 | []=>1
 | p :: ps=>p.2 * bt ps
def tp:List Int->List (Int × Int)->Int
 | w :: ws,p :: ps=>w * p.1 * bt ps + p.2 * tp ws ps
 | _,_=>0
def sumP:List Int->List Int->Int
 | r :: rs,a :: as=>r * a + sumP rs as
 | _,_=>0
def plcL (nums:List Int) (ls:List (List Int)) (j:Nat):Int:=((nums.zip ls).map fun q=>q.1 * q.2.getD j 0).sum
end Sh
set_option linter.all false
namespace Sh
def zFR (pl:Int) (n:Nat) (nu:Int):List Int:=(List.range n).map fun (i:Nat)=>if (i:Int)=pl then nu else 0
theorem zFw (pl:Int) (n:Nat) (nu:Int):(zFR pl n nu).length=n:=by
 unfold zFR
 rw [List.length_map,List.length_range]
theorem zGc (pl:Int) (n:Nat) (nu:Int):zFR pl (n + 1) nu=zFR pl n nu++[if (n:Int)=pl then nu else 0]:=by
 unfold zFR
 rw [List.range_succ,List.map_append]
 rfl
def hB (pts:List (Int × Int)) (ws:List Int) (b:Int):Bool:=decide (tp ws pts<=b * bt pts)
end Sh
namespace K82
open PySem L2 Sh
theorem zAV {H:Hp} {a:Addr} (o:HO) (h:H a=none):∃ G,upd H a o=G/\Same H G/\G a=some o:=⟨_,rfl,zAI h o,zAF⟩
theorem sz0:0<=sizeLine:=by decide
theorem sz1:1<=sizeLine:=by decide
theorem sz2:2<=sizeLine:=by decide
theorem sz3:3<=sizeLine:=by decide
theorem sz4:4<=sizeLine:=by decide
theorem sz5:5<=sizeLine:=by decide
theorem sz6:6<=sizeLine:=by decide
theorem zAh {n:Nat} (h:n<=1000):n<=sizeLine:=Nat.le_of_lt (zAp h)
theorem zCq {X:Cx} {scope:Scope} {own:List Str} (k:scope.kind=.function) (nd:(scope.names.map (·.1)).Nodup:=by decide +kernel) (fr:scope.names.all (fun y=>y.2 != .free)=true:=by decide +kernel):zDe X scope own []:=
 ⟨k,nd,fun y hy e=>zCg nd (by rw [<- e]; exact hy),fun y hy e=>(by
  have q:=List.all_eq_true.mp fr y hy
  rw [e] at q
  exact absurd q (by decide)),fun p hp=>by cases hp⟩
theorem zBm {X:Cx} {scope S:Scope} {own N:List Str} {caps:List (Nat × Str)} (hc:∃ n,X.env.cells=cellsFrom n S.names []) (k:scope.kind=.function:=by rfl) (nd:(scope.names.map (·.1)).Nodup:=by decide +kernel) (hS:X.env.scope=S:=by rfl) (hN:X.N=N:=by rfl) (fr:scope.names.all (fun y=>y.2 != .free || S.names.lookup y.1 == some .cell)=true:=by decide +kernel)
  (cp:caps.all (fun p=>N[p.1]? == some p.2 && scope.names.lookup p.2 == some .free && S.names.lookup p.2 == some .cell)=true:=by decide +kernel):zDe X scope own caps:=zMS k nd hS hc hN fr cp
theorem zCD {l:Addr} {H H':Hp} (h:H l=none) (s:Same H H'):Same H (hide [l] H'):=zGk (fun x hx=>by rw [List.mem_singleton.mp hx]; exact h) s
abbrev nl0:List Str:=["_law_script","_law_many","_law_pushes","_law_modes","_law_unit","_law_xs","_law_rows_here","_law_nexts","_law_steer","_law_push","_law_add","_law_divisor_here","_law_spec","_law_low","_law_turns"]
abbrev nl1:List Str:=["_law_mode_here","_law_point_here","_law_steering","_law_pushes","_law_rows_here","_law_nexts","_law_steer","_law_push","_law_add","_law_divisor_here","_law_found","_law_i","_law_value"]
abbrev nl2:List Str:=["_law_script","_law_spec","_law_safe_here","_law_low","_law_high","_law_turns","_law_thing_here","_law_rooms_here","_law_point_here","_law_turn","_law_left","_law_steering","_law_drawn"]
abbrev nl3:List Str:=["_law_cell","_law_many","_law_wide","_law_unit","_law_split","_law_xs","_law_divisor_here","_law_nexts","_law_push","_law_i","_law_add","_law_rows_here","_law_row"]
abbrev nl4:List Str:=["_law_spec","_law_safe_here","_law_cell","_law_xs","_law_parts","_law_point_here","_law_i","_law_ends","_law_middle","_law_row","_law_off"]
abbrev nl5:List Str:=["_law_thing_here","_law_safe_here","_law_low","_law_high","_law_turns"]
abbrev nl6:List Str:=["_law_mode_here","_law_point_here","_law_steering","_law_pushes"]
abbrev nl7:List Str:=["_law_cell","_law_many","_law_wide","_law_unit","_law_split"]
abbrev nl8:List Str:=["self","rows","nexts","steer","push","add","divisor"]
def top (i:Nat):Stmt:=PySem.Challenge.pw_steadyhand_k82_whole_the_holder_wins.main.body.getD i (.Pass ⟨0,0,0,0⟩)
structure Bl (mg:Str->Option Value):Prop where
 isinstance_:mg "isinstance" = none
 int_:mg "int" = none
 bool_:mg "bool" = none
 tuple_:mg "tuple" = none
 len_:mg "len" = none
 abs_:mg "abs" = none
 all_:mg "all" = none
 list_:mg "list" = none
 range_:mg "range" = none
 zip_:mg "zip" = none
 sum_:mg "sum" = none
 MOST_NUMBERS_:∃ t,mg "MOST_NUMBERS" = some (.int 3 t)
 MOST_PUSHES_:∃ t,mg "MOST_PUSHES" = some (.int 6 t)
 MOST_MODES_:∃ t,mg "MOST_MODES" = some (.int 40 t)
 MOST_ROWS_:∃ t,mg "MOST_ROWS" = some (.int 60 t)
structure zCW (K:PySem.W.Frag) (C:Addr):Prop where
 n_rows:zDA K C "rows"
 n_nexts:zDA K C "nexts"
 n_steer:zDA K C "steer"
 n_push:zDA K C "push"
 n_add:zDA K C "add"
 n_divisor:zDA K C "divisor"
structure zBs (K:PySem.W.Frag) (C:Addr):Prop where
 n_many:zDA K C "many"
 n_kept_pushes:zDA K C "kept_pushes"
 n_kept_modes:zDA K C "kept_modes"
theorem zGR {n:Nat} {ns:List Int} (h:∀ x∈ns,Bd n x):Bd n (zAM ns):=by
 by_cases g:zAM ns=0
 ·rw [g]
  exact Nat.two_pow_pos n
 ·by_cases z:∀ x∈ns,x=0
  ·exfalso
   apply g
   have e:ns=ns.map (· * 0):=by
    refine ((List.map_congr_left fun x hx=>?_).trans (List.map_id ns)).symm
    rw [z x hx]
    rfl
   have:=zJ0 (Int.le_refl 0) ns
   rw [<- e,Int.mul_zero] at this
   exact this
  ·obtain ⟨x,hx,nx⟩:∃ x,x∈ns/\x≠0:=by
    apply Classical.byContradiction
    intro c
    exact z fun x hx=>Classical.byContradiction fun nx=>c ⟨x,hx,nx⟩
   obtain ⟨c,hc⟩:=zDb hx
   refine (h x hx).of_le ?_
   have nc:c≠0:=fun e=>nx (by rw [hc,e,Int.mul_zero])
   rw [hc,Int.natAbs_mul]
   exact Nat.le_mul_of_pos_right _ (Int.natAbs_pos.mpr nc)
def RwV (H:Hp) (v:V) (r:List Int × Int):Prop:=Tp H v (rowV r.1 r.2)
abbrev zAk (H:Hp) (vs:List V) (rows:List (List Int × Int)):Prop:=Paired (RwV H) vs rows
theorem zAk.same {H H':Hp} {vs:List V} {rows:List (List Int × Int)} (s:Same H H') (h:zAk H vs rows):zAk H' vs rows:=Paired.mapP h fun _ _ z=>Tp.same s z
theorem zAk.upd {H:Hp} {vs:List V} {rows:List (List Int × Int)} {l:Addr} {o o':HO} (hl:H l=some o) (n:∀ ys,o≠.tup ys) (h:zAk H vs rows):zAk (upd H l o') vs rows:=Paired.mapP h fun _ _ z=>Tp.upd hl n z
structure RwB (ws:List Int) (n:Nat):Prop where
 len:ws.length=n
 bd:∀ w∈ws,Bd 2000 w
def zGq (rows:List (List Int × Int)) (n:Nat):Prop:=∀ r∈rows,RwB r.1 n/\Bd 2000 r.2
theorem zId {st:DS4}:∀ (rows:List (List Int × Int)) (p:List Int × (List Int × Int)),p∈(rows.foldl zCv st).1->p∈st.1\/p.2∈rows
 | [],p,h=>.inl h
 | r :: rs,p,h=>by
  rw [List.foldl_cons] at h
  rcases zId rs p h with z | z
  ·unfold zCv at z
   split at z
   ·split at z
    ·rcases zF9 z with y | y
     ·exact .inr (by rw [y]; exact List.mem_cons_self)
     ·exact .inl y
    ·split at z
     ·rcases zF9 z with y | y
      ·exact .inr (by rw [y]; exact List.mem_cons_self)
      ·exact .inl y
     ·exact .inl z
   ·split at z
    ·exact .inl z
    ·exact .inl z
  ·exact .inr (List.mem_cons_of_mem _ z)
theorem zKN {st:DS4}:∀ (rows:List (List Int × Int)) (ws:List Int),(rows.foldl zCv st).2=some ws->st.2=some ws\/∃ r∈rows,r.1=ws
 | [],ws,h=>.inl h
 | r :: rs,ws,h=>by
  rw [List.foldl_cons] at h
  rcases zKN rs ws h with z | ⟨q,hq,e⟩
  ·unfold zCv at z
   split at z
   ·split at z
    ·exact .inl z
    ·split at z
     ·exact .inl z
     ·exact .inl z
   ·split at z
    ·cases z
     exact .inr ⟨r,List.mem_cons_self,rfl⟩
    ·exact .inl z
  ·exact .inr ⟨q,List.mem_cons_of_mem _ hq,e⟩
theorem zHI:∀ (rows:List (List Int × Int)) (st:TS4),(rows.foldl zCX st).1.length<=st.1.length + rows.length
 | [],st=>Nat.le_refl _
 | r :: rs,st=>by
  rw [List.foldl_cons]
  have ih:=zHI rs (zCX st r)
  have pl:∀ v,(put st.1 (zBJ r.1) v).length<=st.1.length + 1:=fun v=>by
   unfold put
   split
   ·rw [List.length_map]; omega
   ·rw [List.length_append,List.length_singleton]
    exact Nat.le_refl _
  have s1:(zCX st r).1.length<=st.1.length + 1:=by
   unfold zCX
   split
   ·split
    ·exact pl _
    ·split
     ·exact pl _
     ·omega
   ·split
    ·show st.1.length<=_; omega
    ·omega
  rw [List.length_cons]
  omega
def dirM (ws:List Int):List Int:=if zAM ws=0 then ws else zBJ ws
def keyL (ws:List Int):List Key:=ws.map Sum.inl
theorem zK3 (ws:List Int):(keyL ws).map kV=ws.map V.int:=by
 unfold keyL
 rw [List.map_map]
 rfl
theorem zHF:∀ {a b:List Int},keyL a=keyL b->a=b
 | [],[],_=>rfl
 | [],_ :: _,e=>by cases e
 | _ :: _,[],e=>by cases e
 | x :: xs,y :: ys,e=>by
  unfold keyL at e
  rw [List.map_cons,List.map_cons] at e
  injection e with e1 e2
  have e1':x=y:=Sum.inl.inj e1
  rw [e1',zHF e2]
abbrev KM {β:Type} (R:V->β->Prop) (kvs:List (List Key × V)) (m:List (List Int × β)):Prop:=Paired (fun (p:List Key × V) (q:List Int × β)=>p.1=keyL q.1/\R p.2 q.2) kvs m
theorem zIR {β:Type} {R:V->β->Prop} (k:List Int):∀ {kvs:List (List Key × V)} {m:List (List Int × β)},KM R kvs m->(valV kvs (keyL k)=none/\look m k=none)\/∃ v o,valV kvs (keyL k)=some v/\look m k=some o/\R v o
 | _,_,.nil=>.inl ⟨rfl,rfl⟩
 | p :: ps,q :: qs,.cons h t=>by
  obtain ⟨h1,h2⟩:=h
  by_cases e:q.1=k
  ·refine .inr ⟨p.2,q.2,zFa (by rw [h1,e]),?_,h2⟩
   unfold look
   rw [List.find?_cons,decide_eq_true e]
   rfl
  ·have e':¬ p.1=keyL k:=fun z=>e (zHF (h1.symm.trans z))
   have b:look (q :: qs) k=look qs k:=by
    unfold look
    rw [List.find?_cons,decide_eq_false e]
   rw [zFb e',b]
   exact zIR k t
theorem zOG {β:Type} {R:V->β->Prop} (k:List Int) {v:V} {o:β} (hv:R v o) {kvs:List (List Key × V)} {m:List (List Int × β)} (h:KM R kvs m):KM R (putK kvs (keyL k) v) (put m k o):=by
 have rep:∀ {kvs:List (List Key × V)} {m:List (List Int × β)},KM R kvs m->KM R (kvs.map fun kv=>if kv.1=keyL k then (kv.1,v) else kv) (m.map fun kv=>if kv.1=k then (kv.1,o) else kv):=by
  intro kvs m h
  induction h with
  | nil=>exact .nil
  | @cons p q ps qs h t ih=>
   rw [List.map_cons,List.map_cons]
   refine .cons ?_ ih
   by_cases e:q.1=k
   ·rw [if_pos e,if_pos (by rw [h.1,e])]
    exact ⟨h.1,hv⟩
   ·rw [if_neg e,if_neg fun z=>e (zHF (h.1.symm.trans z))]
    exact h
 unfold putK
 rw [zGv]
 rcases zIR k h with ⟨a,b⟩ | ⟨v',o',a,b,_⟩
 ·rw [a,zG9 _ b]
  rw [if_neg (show ¬ (none:Option V).isSome=true from Bool.false_ne_true)]
  exact zAb ⟨rfl,hv⟩ h
 ·rw [a,zIu _ b]
  rw [if_pos (show (some v').isSome=true from rfl)]
  exact rep h
theorem KM.imp {β:Type} {R S:V->β->Prop} (f:∀ v o,R v o->S v o) {kvs:List (List Key × V)} {m:List (List Int × β)} (h:KM R kvs m):KM S kvs m:=Paired.mapP h fun _ _ z=>⟨z.1,f _ _ z.2⟩
theorem zLK {K:PySem.W.Frag} {H:Hp}:∀ ws:List Int,zGT K H (ws.map V.int) (ws.map PyData.int)
 | []=>.nil
 | w :: r=>.cons (.int w) (zLK r)
theorem zOE:∀ ws:List Int,PyData.canLayAll0 (ws.map PyData.int)=true
 | []=>rfl
 | w :: r=>by
  show (PyData.canLay0 (.int w) && PyData.canLayAll0 (r.map PyData.int))=true
  rw [zOE r]
  rfl
theorem zOR:∀ ws:List Int,PyData.depthAll (ws.map PyData.int)=0
 | []=>rfl
 | w :: r=>by
  show max 0 (PyData.depthAll (r.map PyData.int))=0
  rw [zOR r]
  rfl
inductive zDi (vs:List V) (H:Hp) (Q:VK) (E:XK):Prop
 | mk (ra:Addr) (ws:List Int) (b:Int) (_:vs=[.ref ra]) (_:H ra=some (.tup (rowV ws b))) (_:ws.length<=100) (_:(∀ x∈ws,Bd 2000 x)) (_:∀ t H',Same H H'->H' t=some (.tup ((dirM ws).map V.int))->Q (.ref t) H'):zDi vs H Q E
inductive zEg (vs:List V) (H:Hp) (Q:VK) (E:XK):Prop
 | mk (wa ba:Addr) (ws:List Int) (t b:Int) (_:vs=[.ref wa,.ref ba]) (_:H wa=some (.tup (ws.map V.int))) (_:H ba=some (.tup [.int t,.int b])) (_:1<=ws.length) (_:ws.length<=100) (_:(∀ x∈ws,Bd 2000 x)) (_:Bd 2000 b) (_:∀ r H',Same H H'->H' r=some (.tup (rowV (ws.map (· * b)) t))->Q (.ref r) H'):zEg vs H Q E
inductive zFc (K:PySem.W.Frag) (vs:List V) (H:Hp) (Q:VK) (E:XK):Prop
 | mk (rm:Addr) (rv:List V) (rows:List (List Int × Int)) (n:Nat) (_:vs=[.ref rm]) (_:SqL K H rm rv) (_:zAk H rv rows) (_:zGq rows n) (_:1<=n) (_:n<=3) (_:rows.length<=990) (_:∀ l rv' H',Same H H'->H l=none->H' l=some (.lst rv')->zAk H' rv' (tidM rows)->Q (.ref l) H'):zFc K vs H Q E
section
variable {P:Program} {w:World} {K:PySem.W.Frag} {mg:Str->Option Value} {base:Heap}
abbrev zC0:Stmt:=top 8
theorem zH2:zAP ["thing"] ["thing"] (zAC zC0):=.a
abbrev zBL:Stmt:=top 9
theorem zA4:zAP ["numbers","common","number","rest","left"] ["numbers"] (zAC zBL):=.a
abbrev zC1:Stmt:=top 10
theorem zEN:zAP ["top","bottom","common"] ["top","bottom"] (zAC zC1):=.a
abbrev zE7:Stmt:=top 11
theorem zLr:zAP ["one","other"] ["one","other"] (zAC zE7):=.a
abbrev zCF:Stmt:=top 28
theorem zFL:zAP ["row","common"] ["row"] (zAC zCF):=.a
abbrev zC8:Stmt:=top 30
theorem zJb:zAP ["way","bound"] ["way","bound"] (zAC zC8):=.a
theorem zIl {rows:List (List Int × Int)} {n:Nat} (h:zGq rows n):∀ p∈(rows.foldl zCX ([],none)).1,0 < p.2.2/\Bd 2000 p.2.1/\Bd 2000 p.2.2/\p.1.length=n/\∀ x∈p.1,Bd 2000 x:=by
 intro p hp
 rw [zLI] at hp
 obtain ⟨q,hq,e⟩:=List.mem_map.mp hp
 have D:=dok rows
 rcases zId rows q hq with y | y
 ·cases y
 obtain ⟨W,B⟩:=h _ y
 have g:=D.g0 q hq
 have bg:=zGR W.bd
 rw [<- e]
 refine ⟨zFt (Int.ne_of_gt g),zDz B,zDp bg,?_,fun x hx=>?_⟩
 ·show q.1.length=n
  rw [D.way q hq,zMn]
  exact W.len
 ·have hx':x∈q.1:=hx
  rw [D.way q hq] at hx'
  obtain ⟨z,hz,e2⟩:=List.mem_map.mp hx'
  rw [<- e2]
  exact (W.bd z hz).fdiv _
theorem zLH {α β:Type} (f:β->α->β) (b:β) {l:List α} {i:Nat} {x:α} (h:l[i]? = some x):(l.take (i + 1)).foldl f b=f ((l.take i).foldl f b) x:=by
 rw [zAa h,List.foldl_append]
 rfl
theorem zH7 {rows:List (List Int × Int)} {n:Nat} (h:zGq rows n) (i:Nat):zGq (rows.take i) n:=fun r hr=>h r (List.mem_of_mem_take hr)
theorem zOF {ws:List Int} {H:Hp} {t:Addr} (h:H t=some (.tup (ws.map V.int))):H t=some (.tup ((keyL ws).map kV)):=by rw [zK3]; exact h
abbrev zD4:Stmt:=top 29
theorem zCl:zAP ["room","least","shut","row","common","way","bound"] ["room"] (zAC zD4):=.a
variable {ac ae:Addr} (af:ClsF K mg "Mode" ac) (ah:zCW K ac) (ag:ClsF K mg "Thing" ae) (ai:zBs K ae)
include af ah ag ai
theorem zIG {k:Nat} {f:Addr} {fd:FuncData} (F:Fun K "is_whole" "is_whole" zC0 f fd) (B:Bl mg):FnOk P w K mg base CX0 (k + 1) f fd ["thing"] zCO:=by
 refine F.ok zH2 ?_ ?_
 ·rintro vs H Q E ⟨i,rfl,_⟩
  rfl
 rintro cdv A outer s H vs Q E hr ⟨i,rfl,q⟩
 refine ⟨_,(zAH (zAU (zDZ (zAS zDt rfl B.isinstance_ zAT (zAA (pvj 0) (zAA (zBr (v:=.ty "int") (u:=.type "int") rfl B.int_ zE2 rfl) zAB))) (zEn (zN6 (zAS zDt rfl B.isinstance_ zAT (zAA (pvj 0) (zAA (zBr (v:=.ty "bool") (u:=.type "bool") rfl B.bool_ zGo rfl) zAB)))))))),?_⟩
 try dsimp only [cxOf,Cx.nox,Cx.wish]
 refine ⟨_,rfl,_,_,_,_,rfl,.int _,zGF _,_,rfl,iteT ?_⟩
 exact ⟨_,rfl,_,_,_,_,rfl,.int _,zFQ _,_,rfl,q⟩
theorem zFD {k:Nat} {f:Addr} {fd:FuncData} (F:Fun K "common_divisor" "common_divisor" zBL f fd) (B:Bl mg):FnOk P w K mg base CX0 (k + 1) f fd ["numbers"] (zD2 K):=by
 refine F.ok zA4 ?_ ?_
 ·rintro vs H Q E ⟨a,ns,rfl,_⟩
  rfl
 rintro cdv A outer s H vs Q E hr ⟨a,ns,rfl,hS,q⟩
 refine ⟨_,(zAD (zAR (i:=1) zA4.nd rfl (Or.inl rfl) zAE)
  (zAD (zBy PassesOwn.never rfl (zFO (pvj 0)) (zAJ (i:=2) zA4.nd rfl (Or.inl rfl)) (zAD (zAR (i:=3) zA4.nd rfl (Or.inl rfl) (zAS zJG rfl B.abs_ zHt (zAA (pvj 2) zAB)))
   (zAH (zIv PassesOwn.never (zAx zH9 (pvj 3) zAE (zAq _)) (zAD (zAR (i:=4) zA4.nd rfl (Or.inl rfl) (zAK (ji zAz) (pvj 1) (pvj 3)))
    (zAD (zAR (i:=1) zA4.nd rfl (Or.inl rfl) (pvj 3))
    (zAH (zAR (i:=3) zA4.nd rfl (Or.inl rfl) (pvj 4)))))))))
  (zAH (zAU (pvj 1))))),?_⟩
 try dsimp only [cxOf,Cx.nox,Cx.wish]
 refine ⟨_,rfl,a,rfl,⟨_,hS⟩,zLG (K:=K) (a:=a) (xs:=ns.map V.int) (fun i σ H2=>∃ n r l,σ=[some (.ref a),some (.int (zAM (ns.take i))),n,r,l]/\H2=H)
  ⟨none,none,none,rfl,rfl⟩ (fun i σ H2 _ ⟨_,_,_,_,e⟩=>e ▸ hS) ?_ ?_⟩
 ·rintro i x σ H2 hi ⟨n,r,l,rfl,rfl⟩
  obtain ⟨z,hz,rfl⟩:∃ z,ns[i]? = some z/\x=V.int z:=by
   rw [List.getElem?_map] at hi
   cases e:ns[i]? with
   | none=>rw [e] at hi; cases hi
   | some z=>rw [e] at hi; exact ⟨z,rfl,(Option.some.inj hi).symm⟩
  have hlt:i < ns.length:=(List.getElem?_eq_some_iff.mp hz).1
  have ez:ns[i]=z:=(List.getElem?_eq_some_iff.mp hz).2
  have tk:zAM (ns.take (i + 1))=(Int.gcd (zAM (ns.take i)) z:Int):=by rw [List.take_succ_eq_append_getElem hlt,zDn,ez]
  refine ⟨_,rfl,z,rfl,?_⟩
  refine zIi (fun σ H'=>∃ (c r:Int) (l:Option V),σ=[some (.ref a),some (.int c),some (.int z),some (.int r),l]/\H'=H2/\0<=c/\0<=r/\Int.gcd c r=Int.gcd (zAM (ns.take i)) z)
   (fun σ _=>match σ with | [_,_,_,some (.int r),_]=>r.toNat | _=>0) ⟨_,_,l,rfl,rfl,zEt _,(by split <;> omega),zNL _ _⟩ ?_ ?_
  ·rintro σ H' ⟨c,r,l,rfl,rfl,hc,hr0,hg⟩
   refine ⟨_,rfl,rfl,_,rfl,?_⟩
   by_cases z0:r=0
   ·subst z0
    refine zNF rfl ?_
    rw [Int.gcd_zero_right] at hg
    have ec:c=zAM (ns.take (i + 1)):=by rw [tk]; omega
    exact ⟨_,_,_,by rw [ec],rfl⟩
   ·have ne:¬ (V.int r=V.int 0):=fun e=>z0 (by injection e)
    refine zCU (zF8 z0) ?_
    refine ⟨_,rfl,_,rfl,_,_,rfl,rfl,z0,_,rfl,_,rfl,?_⟩
    have h1:=Int.fmod_nonneg_of_pos c (show 0 < r by omega)
    have h2:=Int.fmod_lt_of_pos c (show 0 < r by omega)
    refine ⟨⟨r,c.fmod r,_,rfl,rfl,hr0,h1,by rw [zI6]; exact hg⟩,?_⟩
    show (c.fmod r).toNat < r.toNat
    omega
  ·rintro σ H' Q1 Q2 h ⟨v,e,sc,k,ek,q1⟩
   exact ⟨v,e,sc,k,ek,h _ _ q1⟩
 ·rintro σ H2 ⟨n,r,l,rfl,rfl⟩
  refine ⟨_,rfl,?_⟩
  rw [List.length_map,List.take_length]
  exact q
theorem zIJ {k:Nat} {f:Addr} {fd:FuncData} {dv:Value} (F:FunD K "fraction" "fraction" zC1 f fd dv) (B:Bl mg) (ao:Fn P w K mg base "is_whole" ["thing"] k zCO) (aw:Fn P w K mg base "common_divisor" ["numbers"] k (zD2 K)):FnOk P w K mg base CX0 (k + 1) f fd ["top","bottom"] zCw:=by
 refine F.ok zEN ?_ ?_
 ·rintro vs H Q E ⟨t,b,rfl,_⟩
  rfl
 rintro cdv A outer s H vs Q E hr ⟨t,b,rfl,b0,bb,q⟩
 refine ⟨_,(zAD (zBc (PW.pt (zEk (zB9 (zBF (zAG ao hr rfl (zAA (pvj 0) zAB)))) (zDX (zB9 (zBF (zAG ao hr rfl (zAA (pvj 1) zAB))))))) (zAH zFq) zAj)
  (zAD (zBc (zAx zEG (pvj 1) zAE (zAq _)) (zAH zFq) zAj)
  (zAD (zAR (i:=2) zEN.nd rfl (Or.inl rfl) (zAG aw hr rfl (zAA (zCA (zAA (pvj 0) (zAA (pvj 1) zAB))) zAB)))
  (zAD (zBc (zAx (ji0 zIA) (pvj 1) zAE (zAq _)) (zAH (zAR (i:=2) zEN.nd rfl (Or.inl rfl) (zBU zAu (pvj 2)))) zAj)
  (zAH (zAU (zCA (zAA (zAK (ji zBh) (pvj 0) (pvj 2)) (zAA (zAK (ji zBh) (pvj 1) (pvj 2)) zAB))))))))),?_⟩
 try dsimp only [cxOf,Cx.nox,Cx.wish]
 refine ⟨_,rfl,t,rfl,_,rfl,iteF ?_⟩
 refine ⟨_,rfl,b,rfl,_,rfl,iteF ?_⟩
 refine ⟨_,rfl,rfl,_,rfl,?_⟩
 refine zB0 (zC9 b0) ?_
 refine ⟨_,rfl,_,rfl,sz2,fun p hp=>?_⟩
 refine ⟨p,[t,b],rfl,SqT.of zAF,?_⟩
 rw [zJz]
 have sm:=zAI hp (HO.tup [.int t,.int b])
 have fin:∀ c:Int,c=cm t b->∀ D':Hp,D'=upd H p (.tup [.int t,.int b])->(t.fdiv c)=lowT t b/\b.fdiv c=lowB t b/\c≠0/\Bd 8000 c:=fun c e _ _=>by
  subst e
  exact ⟨rfl,rfl,zNS b0,zNW bb b0⟩
 refine ⟨_,rfl,_,_,rfl,rfl,_,rfl,?_⟩
 refine ite2 (fun hb=>?_) (fun hb=>?_)
 ·have hb':b < 0:=of_decide_eq_true hb
  refine ⟨_,rfl,_,rfl,?_⟩
  have ec : -(Int.gcd t b:Int)=cm t b:=by unfold cm; rw [if_pos hb']
  obtain ⟨e1,e2,e3,e4⟩:=fin _ ec _ rfl
  refine ⟨_,rfl,_,rfl,_,_,rfl,rfl,⟨e3,e4⟩,_,rfl,_,rfl,_,_,rfl,rfl,⟨e3,e4⟩,sz2,fun r hr'=>?_⟩
  exact q r _ (sm.trans (zAI hr' _)) (zAF.trans (by show some (HO.tup [V.int (t.fdiv _),V.int (b.fdiv _)])=_; rw [e1,e2]))
 ·have hb':¬ b < 0:=fun z=>hb (decide_eq_true z)
  have ec:(Int.gcd t b:Int)=cm t b:=by unfold cm; rw [if_neg hb']
  obtain ⟨e1,e2,e3,e4⟩:=fin _ ec _ rfl
  refine ⟨_,rfl,_,rfl,_,_,rfl,rfl,⟨e3,e4⟩,_,rfl,_,rfl,_,_,rfl,rfl,⟨e3,e4⟩,sz2,fun r hr'=>?_⟩
  exact q r _ (sm.trans (zAI hr' _)) (zAF.trans (by show some (HO.tup [V.int (t.fdiv _),V.int (b.fdiv _)])=_; rw [e1,e2]))
theorem zL3 {k:Nat} {f:Addr} {fd:FuncData} (F:Fun K "under" "under" zE7 f fd) (B:Bl mg):FnOk P w K mg base CX0 (k + 1) f fd ["one","other"] zFy:=by
 refine F.ok zLr ?_ ?_
 ·rintro vs H Q E ⟨p,q,a,b,c,d,rfl,_⟩
  rfl
 rintro cdv A outer s H vs Q E hr ⟨p,q,a,b,c,d,rfl,T,qq⟩
 refine ⟨_,(zAH (zAU (zCH (ji0 zIA) (zAK (ji zAd) (zAX zAO (pvj 0) zAE (fun _ _=>rfl)) (zAX zAO (pvj 1) zAE (fun _ _=>rfl))) (zAK (ji zAd) (zAX zAO (pvj 1) zAE (fun _ _=>rfl)) (zAX zAO (pvj 0) zAE (fun _ _=>rfl))) (zAq _)))),?_⟩
 try dsimp only [cxOf,Cx.nox,Cx.wish]
 refine ⟨_,rfl,p,_,0,_,rfl,rfl,SqT.of T.p,at0,_,rfl,q,_,1,_,rfl,rfl,SqT.of T.q,at1,_,_,rfl,rfl,⟨(T.ab).mono,(T.db).mono⟩,?_⟩
 refine ⟨_,rfl,q,_,0,_,rfl,rfl,SqT.of T.q,at0,_,rfl,p,_,1,_,rfl,rfl,SqT.of T.p,at1,_,_,rfl,rfl,⟨(T.cb).mono,(T.bb).mono⟩,_,_,rfl,rfl,?_⟩
 exact qq
theorem zHd {k:Nat} {f:Addr} {fd:FuncData} (F:Fun K "direction" "direction" zCF f fd) (B:Bl mg) (aw:Fn P w K mg base "common_divisor" ["numbers"] k (zD2 K)):FnOk P w K mg base CX0 (k + 1) f fd ["row"] zDi:=by
 refine F.ok zFL ?_ ?_
 ·rintro vs H Q E ⟨ra,ws,b,rfl,_⟩
  rfl
 rintro cdv A outer s H vs Q E hr ⟨ra,ws,b,rfl,hra,hl,hb,q⟩
 refine ⟨_,(zAD (zAR (i:=1) zFL.nd rfl (Or.inr rfl) (zAG aw hr rfl (zAA (zBP zCI (pvj 0) zCG (zBg (zBU zAu zAE))) zAB)))
  (zAD (zBc (zAx zEG (pvj 1) zAE (zAq _)) (zAH (zAU (zBP zCI (pvj 0) zCG (zBg (zBU zAu zAE))))) zAj)
  (zAH (zAU (zAi jtup rfl B.tuple_ zAn (zAA (zAr (own:=["number"]) (caps:=[(1,"common")]) (zBm (S:=zAC zCF) (N:=["row","common"]) ⟨_,rfl⟩) rfl (zFO (zBP zCI (pvj 0) zCG (zBg (zBU zAu zAE)))) (fun _ _ _ _=>zAJ (i:=0) (show (["number","common"]:List Str).Nodup by decide +kernel) rfl (Or.inl rfl)) (fun _ _ _ _=>(zAK (ji zBh) (pvj 0) (pvj 1)))) zAB)))))),?_⟩
 try dsimp only [cxOf,Cx.nox,Cx.wish]
 have ec:cutV (rowV ws b) none (some (-1))=ws.map V.int:=zDo _ _
 refine ⟨_,rfl,_,rfl,_,rfl,ra,_,rfl,SqT.of hra,zBV _ _,fun p hp=>?_⟩
 have s1:=zAI hp (HO.tup (cutV (rowV ws b) none (some (-1))))
 refine ⟨p,ws,rfl,SqT.of (zAF.trans (by rw [ec])),?_⟩
 refine ⟨_,rfl,rfl,_,rfl,?_⟩
 by_cases g:zAM ws=0
 ·refine zCU (zDH g) ?_
  refine ⟨_,rfl,_,rfl,_,rfl,ra,_,rfl,SqT.of (s1 _ _ hra),zBV _ _,fun p2 hp2=>?_⟩
  refine q p2 _ (s1.trans (zAI hp2 _)) (zAF.trans ?_)
  unfold dirM
  rw [if_pos g]
  show some (HO.tup (cutV (rowV ws b) none (some (-1))))=_
  rw [ec]
 ·refine zB0 (zC9 g) ?_
  refine ⟨_,rfl,_,rfl,_,rfl,ra,_,rfl,SqT.of (s1 _ _ hra),zBV _ _,fun p2 hp2=>?_⟩
  have s2:=zAI hp2 (HO.tup (cutV (rowV ws b) none (some (-1))))
  have e2:upd (upd H p (HO.tup (cutV (rowV ws b) none (some (-1))))) p2 (HO.tup (cutV (rowV ws b) none (some (-1)))) p2=some (.tup (ws.map V.int)):=zAF.trans (by rw [ec])
  refine ⟨p2,rfl,⟨_,SqT.of e2⟩,zEy (K:=K) (a:=p2) (xs:=ws.map V.int) (fun i ys σ H'=>ys=((ws.take i).map (·.fdiv (zAM ws))).map V.int/\(∃ o,σ=[o,some (.int (zAM ws))])/\H'=upd (upd H p (HO.tup (cutV (rowV ws b) none (some (-1))))) p2 (HO.tup (cutV (rowV ws b) none (some (-1)))))
   ⟨rfl,⟨none,rfl⟩,rfl⟩ (fun i ys σ H' hi ⟨e1,_,e3⟩=>⟨by rw [e3]; exact SqT.of e2,by rw [e1,List.length_map,List.length_map,List.length_take]; exact Nat.min_le_left _ _⟩) (by rw [List.length_map]; exact zAh (by omega)) ?_ ?_⟩
  ·rintro i x ys σ H' hi ⟨rfl,⟨o,rfl⟩,rfl⟩
   obtain ⟨z,hz,rfl⟩:∃ z,ws[i]? = some z/\x=V.int z:=by
    rw [List.getElem?_map] at hi
    cases e:ws[i]? with
    | none=>rw [e] at hi; cases hi
    | some z=>rw [e] at hi; exact ⟨z,rfl,(Option.some.inj hi).symm⟩
   refine ⟨_,rfl,_,rfl,_,_,rfl,rfl,⟨g,(zGR hb).mono⟩,?_,⟨_,rfl⟩,rfl⟩
   rw [zAa hz,List.map_append,List.map_append]
   rfl
  ·rintro ys σ H' ⟨rfl,⟨o,rfl⟩,rfl⟩ l hl'
   refine ⟨l,_,rfl,.inl ⟨SqL.of zAF,fun t ht=>?_⟩⟩
   refine q t _ (s1.trans (s2.trans ((zAI hl' _).trans (zAI ht _)))) (zAF.trans ?_)
   unfold dirM
   rw [if_neg g,List.length_map,List.take_length]
   rfl
theorem zJp {k:Nat} {f:Addr} {fd:FuncData} (F:Fun K "bounded" "bounded" zC8 f fd) (B:Bl mg):FnOk P w K mg base CX0 (k + 1) f fd ["way","bound"] zEg:=by
 refine F.ok zJb ?_ ?_
 ·rintro vs H Q E ⟨wa,ba,ws,t,b,rfl,_⟩
  rfl
 rintro cdv A outer s H vs Q E hr ⟨wa,ba,ws,t,b,rfl,hwa,hba,l1,l2,hb,bb,q⟩
 refine ⟨_,(zAH (zAU (zAK zDw (zAi jtup rfl B.tuple_ zAn (zAA (zAr (own:=["number"]) (caps:=[(1,"bound")]) (zBm (S:=zAC zC8) (N:=["way","bound"]) ⟨_,rfl⟩) rfl (zFO (pvj 0)) (fun _ _ _ _=>zAJ (i:=0) (show (["number","bound"]:List Str).Nodup by decide +kernel) rfl (Or.inl rfl)) (fun _ _ _ _=>(zAK (ji zAd) (pvj 0) (zAX (show IxR _ (JIx (SqT K)) from zAO) (pvj 1) zAE (fun _ _=>rfl))))) zAB)) (zCA (zAA (zAX zAO (pvj 1) zAE (fun _ _=>rfl)) zAB))))),?_⟩
 try dsimp only [cxOf,Cx.nox,Cx.wish]
 refine ⟨_,rfl,wa,rfl,⟨_,SqT.of hwa⟩,zEy (K:=K) (a:=wa) (xs:=ws.map V.int) (fun i ys σ H'=>ys=((ws.take i).map (· * b)).map V.int/\(∃ o,σ=[o,some (.ref ba)])/\H'=H)
  ⟨rfl,⟨none,rfl⟩,rfl⟩ (fun i ys σ H' hi ⟨e1,_,e3⟩=>⟨by rw [e3]; exact SqT.of hwa,by rw [e1,List.length_map,List.length_map,List.length_take]; exact Nat.min_le_left _ _⟩) (by rw [List.length_map]; exact zAh (by omega)) ?_ ?_⟩
 ·rintro i x ys σ H' hi ⟨rfl,⟨o,rfl⟩,rfl⟩
  obtain ⟨z,hz,rfl⟩:∃ z,ws[i]? = some z/\x=V.int z:=by
   rw [List.getElem?_map] at hi
   cases e:ws[i]? with
   | none=>rw [e] at hi; cases hi
   | some z=>rw [e] at hi; exact ⟨z,rfl,(Option.some.inj hi).symm⟩
  have bz:=hb z (List.mem_of_getElem? hz)
  refine ⟨_,rfl,_,rfl,ba,_,1,_,rfl,rfl,SqT.of hba,at1,_,_,rfl,rfl,⟨bz.mono,bb.mono⟩,?_,⟨_,rfl⟩,rfl⟩
  rw [zAa hz,List.map_append,List.map_append]
  rfl
 rintro ys σ H' ⟨rfl,⟨o,rfl⟩,rfl⟩ l hl'
 refine ⟨l,_,rfl,.inl ⟨SqL.of zAF,fun t1 ht1=>?_⟩⟩
 have sA:=(zAI hl' (HO.lst (((ws.take (ws.map V.int).length).map (· * b)).map V.int))).trans (zAI ht1 (HO.tup (((ws.take (ws.map V.int).length).map (· * b)).map V.int)))
 have eT:((ws.take (ws.map V.int).length).map (· * b)).map V.int=(ws.map (· * b)).map V.int:=by rw [List.length_map,List.take_length]
 have hT:=zAF (H:=upd H' l (HO.lst (((ws.take (ws.map V.int).length).map (· * b)).map V.int))) (a:=t1) (o:=HO.tup (((ws.take (ws.map V.int).length).map (· * b)).map V.int))
 refine ⟨_,rfl,ba,_,0,_,rfl,rfl,SqT.of (sA _ _ hba),at0,sz1,fun t2 ht2=>?_⟩
 have s2:=zAI ht2 (HO.tup [V.int t])
 have wne:((ws.take (ws.map V.int).length).map (· * b)).map V.int≠[]:=fun e=>by
  have h:=congrArg List.length e
  rw [eT,List.length_map,List.length_map] at h
  rw [h] at l1
  exact absurd l1 (by decide)
 refine ⟨t1,t2,_,_,rfl,rfl,SqT.of (s2 _ _ hT),SqT.of zAF,wne,(by rw [eT,List.length_map,List.length_map]; exact zAh ((by show ws.length + 1<=1000; omega))),(fun e=>by cases e),fun _ t3 ht3=>?_⟩
 refine q t3 _ (sA.trans (s2.trans (zAI ht3 _))) (zAF.trans ?_)
 rw [eT]
 rfl
theorem zKg {k:Nat} {f:Addr} {fd:FuncData} (F:Fun K "tidied" "tidied" zD4 f fd) (B:Bl mg) (aw:Fn P w K mg base "common_divisor" ["numbers"] k (zD2 K)) (bR:Fn P w K mg base "direction" ["row"] k zDi) (ax:FnD P w K mg base "fraction" ["top","bottom"] k zCw (.int 1)) (aE:Fn P w K mg base "under" ["one","other"] k zFy) (bT:Fn P w K mg base "bounded" ["way","bound"] k zEg):FnOk P w K mg base CX0 (k + 1) f fd ["room"] (zFc K):=by
 refine F.ok zCl ?_ ?_
 ·rintro vs H Q E ⟨rm,rv,rows,n,rfl,_⟩
  rfl
 rintro cdv A outer s H vs Q E hr ⟨rm,rv,rows,n,rfl,hrm,hrv,RO,n1,n3,r100,q⟩
 refine ⟨_,(zAD (zAR (i:=1) zCl.nd rfl (Or.inl rfl) zL0)
  (zAD (zAR (i:=2) zCl.nd rfl (Or.inl rfl) (zA7 zAB))
  (zAD (zBy PassesOwn.never rfl (zBC (pvj 0)) (zAJ (i:=3) zCl.nd rfl (Or.inl rfl)) (zAD (zAR (i:=4) zCl.nd rfl (Or.inl rfl) (zAG aw hr rfl (zAA (zBP zCI (pvj 3) zCG (zBg (zBU zAu zAE))) zAB)))
   (zAH (zBc (zAx zH9 (pvj 4) zAE (zAq _)) (zAD (zAR (i:=5) zCl.nd rfl (Or.inl rfl) (zAG bR hr rfl (zAA (pvj 3) zAB)))
    (zAD (zAR (i:=6) zCl.nd rfl (Or.inl rfl) (zAG ax.fn hr rfl (zAA (zAX zAO (pvj 3) (zBU zAu zAE) (fun _ _=>rfl)) (zAA (pvj 4) zAB))))
    (zAH (zBc (PW.pt (zEk (zNx (zKd (zNG hr) (pvj 5) (pvj 1))) (zDX (zBF (zAG aE hr rfl (zAA (pvj 6) (zAA (zM5 (zNG hr) (pvj 1) (pvj 5) (fun _ _=>rfl)) zAB))))))) (zAH (zM3 (zNG hr) (pvj 1) (pvj 5) (pvj 6) rfl)) zAj)))) (zAH (zBc (zAx (ji0 zIA) (zAX zAO (pvj 3) (zBU zAu zAE) (fun _ _=>rfl)) zAE (zAq _)) (zAH (zAR (i:=2) zCl.nd rfl (Or.inl rfl) (zA7 (zAA (zAK zDw (zBP zCI (pvj 3) zCG (zBg (zBU zAu zAE))) (zCA (zAA (zBU zAu zAE) zAB))) zAB)))) zAj))))))
  (zAH (zAU (zAK jcat (zAr (own:=["way","bound"]) (caps:=[]) (zCq rfl) rfl (zLy (pvj 1)) (fun _ _ _ _=>show PG _ _ (gTup K 2 (zGJ (zEu 0) (zGJ (zEu 1) gNil))) from zDD (n:=2) rfl (zAY (zAJ (i:=0) (show (["way","bound"]:List Str).Nodup by decide +kernel) rfl (Or.inl rfl)) (zAY (zAJ (i:=1) (show (["way","bound"]:List Str).Nodup by decide +kernel) rfl (Or.inl rfl)) zCQ))) (fun _ _ _ _=>(zAG bT hr rfl (zAA (pvj 0) (zAA (pvj 1) zAB))))) (pvj 2))))))),?_⟩
 try dsimp only [cxOf,Cx.nox,Cx.wish]
 intro d hd
 refine ⟨sz0,fun s0 hs0=>?_⟩
 have lr:rv.length=rows.length:=Paired.length hrv
 have sD:=zAI hd (HO.dT [])
 have sS:=zAI hs0 (HO.lst [])
 refine ⟨_,rfl,rm,rfl,⟨_,(sD.trans sS).seq hrm⟩,zED (K:=K) (a:=rm) (xs:=rv)
  (fun i σ H'=>∃ (kvs:List (List Key × V)) (sh:Addr) (sv:List V) (o3 o4 o5 o6:Option V),σ=[some (.ref rm),some (.ref d),some (.ref sh),o3,o4,o5,o6]/\Same H H'/\H' d=some (.dT kvs)/\H' sh=some (.lst sv)∧
   KM (FrV H') kvs ((rows.take i).foldl zCX ([],none)).1/\zAk H' sv (zF0 ((rows.take i).foldl zCX ([],none)).2))
  ⟨[],s0,[],none,none,none,none,rfl,sD.trans sS,sS _ _ zAF,zAF,.nil,.nil⟩ (fun i σ H' _ ⟨_,_,_,_,_,_,_,_,sm,_⟩=>sm.seq hrm) ?_ ?_⟩
 ·rintro i x σ H' hi ⟨kvs,sh,sv,o3,o4,o5,o6,rfl,sm,hd',hsh,km,hsv⟩
  obtain ⟨⟨ws,b⟩,hrow,a,rfl,ea0⟩:=zAc hrv hi
  obtain ⟨W,bb⟩:=RO _ (List.mem_of_getElem? hrow)
  have wl:ws.length=n:=W.len
  have wb:∀ x∈ws,Bd 2000 x:=W.bd
  have il:i < rows.length:=(List.getElem?_eq_some_iff.mp hrow).1
  have ea:=sm _ _ ea0
  have ec:cutV (rowV ws b) none (some (-1))=ws.map V.int:=zDo _ _
  have tk:=zLH zCX ([],none) hrow
  have kl:kvs.length<=1000:=by
   have z:=Paired.length km
   have y:=zHI (rows.take i) ([],none)
   rw [List.length_take] at y
   have y':((rows.take i).foldl zCX ([],none)).1.length<=0 + min i rows.length:=y
   omega
  have tok:=zIl (zH7 RO i)
  generalize (rows.take i).foldl zCX ([],none)=st at tk km hsv tok
  refine ⟨_,rfl,_,rfl,_,rfl,a,_,rfl,SqT.of ea,zBV _ _,fun p hp=>?_⟩
  have s1:=zAI hp (HO.tup (cutV (rowV ws b) none (some (-1))))
  refine ⟨p,ws,rfl,SqT.of (zAF.trans (by rw [ec])),?_⟩
  refine ⟨_,rfl,rfl,_,rfl,?_⟩
  by_cases g:zAM ws=0
  ·refine zB0 (zFs g) ?_
   refine ⟨_,rfl,_,rfl,a,_,_,_,rfl,rfl,SqT.of (s1 _ _ ea),zCE _ _,_,_,rfl,rfl,_,rfl,?_⟩
   have stp:zCX st (ws,b)=if b < 0 then (st.1,some ws) else st:=by
    unfold zCX
    rw [if_neg (show ¬ zAM ws≠0 from fun z=>z g)]
   rw [stp] at tk
   refine ite2 (fun c=>?_) (fun c=>?_)
   ·have c':b < 0:=of_decide_eq_true c
    rw [if_pos c'] at tk
    refine ⟨_,rfl,_,rfl,_,rfl,a,_,rfl,SqT.of (s1 _ _ ea),zBV _ _,fun p2 hp2=>?_⟩
    have s2:=zAI hp2 (HO.tup (cutV (rowV ws b) none (some (-1))))
    refine ⟨_,rfl,sz1,fun p3 hp3=>?_⟩
    have s3:=zAI hp3 (HO.tup [V.int (-1)])
    have wne:cutV (rowV ws b) none (some (-1))≠[]:=fun e=>by
     rw [ec] at e
     have h:=congrArg List.length e
     rw [List.length_map,wl] at h
     rw [h] at n1
     exact absurd n1 (by decide)
    refine ⟨p2,p3,_,_,rfl,rfl,SqT.of (s3 _ _ zAF),SqT.of zAF,wne,(by rw [ec,List.length_map]; exact zAh ((by show ws.length + 1<=1000; omega))),(fun e=>by cases e),fun _ p4 hp4=>?_⟩
    have s4:=zAI hp4 (HO.tup (cutV (rowV ws b) none (some (-1))++[V.int (-1)]))
    refine ⟨sz1,fun l hl=>?_⟩
    have s5:=zAI hl (HO.lst [V.ref p4])
    have sF:=s1.trans (s2.trans (s3.trans (s4.trans s5)))
    refine ⟨kvs,l,[V.ref p4],_,_,_,_,rfl,sm.trans sF,sF _ _ hd',zAF,?_,?_⟩
    ·rw [tk]
     exact KM.imp (fun _ _ z=>z.same sF) km
    ·rw [tk]
     refine .cons ⟨p4,rfl,(s5 _ _ zAF).trans ?_⟩ .nil
     rw [ec]
     rfl
   ·have c':¬ b < 0:=fun z=>c (decide_eq_true z)
    rw [if_neg c'] at tk
    refine ⟨kvs,sh,sv,_,_,_,_,rfl,sm.trans s1,s1 _ _ hd',s1 _ _ hsh,?_,?_⟩
    ·rw [tk]
     exact KM.imp (fun _ _ z=>z.same s1) km
    ·rw [tk]
     exact hsv.same s1
  ·refine zCU (zF8 g) ?_
   refine ⟨_,rfl,a,ws,b,rfl,s1 _ _ ea,(by omega),wb,fun t H2 s2 e2=>?_⟩
   have dm:dirM ws=zBJ ws:=by
    unfold dirM
    rw [if_neg g]
   rw [dm] at e2
   have s12:=s1.trans s2
   have gp:=gpos g
   have bg:Bd 2000 (zAM ws):=zGR wb
   refine ⟨_,rfl,_,rfl,a,_,_,_,rfl,rfl,SqT.of (s12 _ _ ea),zCE _ _,_,rfl,b,zAM ws,rfl,g,bg.mono,fun r H3 s3 e3=>?_⟩
   have s13:=s12.trans s3
   have et:=zOF (s3 _ _ e2)
   have hd3:=s13 _ _ hd'
   have km3:KM (FrV H3) kvs st.1:=KM.imp (fun _ _ z=>z.same s13) km
   have stp:zCX st (ws,b)=match look st.1 (zBJ ws) with
     | none=>(put st.1 (zBJ ws) (zBv (ws,b)),st.2)
     | some o=>if (zBv (ws,b)).1 * o.2 < o.1 * (zBv (ws,b)).2 then (put st.1 (zBJ ws) (zBv (ws,b)),st.2) else st:=by
    unfold zCX
    rw [if_pos (show zAM ws≠0 from g)]
    all_goals rfl
   rw [stp] at tk
   have store:∀ o3 o4 o5 o6:Option V,(rows.take (i + 1)).foldl zCX ([],none)=(put st.1 (zBJ ws) (zBv (ws,b)),st.2)->
     ∃ (kvs':List (List Key × V)) (sh':Addr) (sv':List V) (p3 p4 p5 p6:Option V),[some (V.ref rm),some (.ref d),some (.ref sh),o3,o4,o5,o6]=[some (V.ref rm),some (.ref d),some (.ref sh'),p3,p4,p5,p6]/\Same H (upd H3 d (.dT (putK kvs (keyL (zBJ ws)) (.ref r))))∧
      upd H3 d (.dT (putK kvs (keyL (zBJ ws)) (.ref r))) d=some (.dT kvs')/\upd H3 d (.dT (putK kvs (keyL (zBJ ws)) (.ref r))) sh'=some (.lst sv')∧
      KM (FrV (upd H3 d (.dT (putK kvs (keyL (zBJ ws)) (.ref r))))) kvs' ((rows.take (i + 1)).foldl zCX ([],none)).1/\zAk (upd H3 d (.dT (putK kvs (keyL (zBJ ws)) (.ref r)))) sv' (zF0 ((rows.take (i + 1)).foldl zCX ([],none)).2):=by
    intro o3 o4 o5 o6 e
    have nt:∀ ys,HO.dT kvs≠.tup ys:=fun ys z=>by cases z
    refine ⟨_,sh,sv,o3,o4,o5,o6,rfl,zLt (sm.trans s13) hd,zAF,?_,?_,?_⟩
    ·have hs3:=s13 _ _ hsh
     rw [zAW (zKx hs3 hd3 (by intro z; cases z))]
     exact hs3
    ·rw [e]
     refine zOG (zBJ ws) (v:=.ref r) (o:=zBv (ws,b)) ?_ (KM.imp (fun _ _ z=>Tp.upd hd3 nt z) km3)
     exact Tp.upd hd3 nt ⟨r,rfl,e3⟩
    ·rw [e]
     exact zAk.upd hd3 nt (hsv.same s13)
   rcases zIR (zBJ ws) km3 with ⟨v0,l0⟩ | ⟨v,o,v0,l0,rel⟩
   ·rw [l0] at tk
    refine ⟨_,rfl,_,rfl,d,_,rfl,DGet.t hd3 et,_,rfl,zCU (by rw [v0]; rfl) (iteT ?_)⟩
    refine ⟨_,rfl,_,rfl,_,rfl,d,_,rfl,DPut.t hd3 et (zAp kl),?_⟩
    exact store _ _ _ _ tk
   ·rw [l0] at tk
    refine ⟨_,rfl,_,rfl,d,_,rfl,DGet.t hd3 et,_,rfl,zB0 (by rw [v0]; rfl) ?_⟩
    obtain ⟨r0,rfl,e0⟩:=rel
    obtain ⟨t1,t2,t3,_⟩:=tok _ (zFu l0)
    refine ⟨_,rfl,_,rfl,_,rfl,d,.ref r0,rfl,(by rw [<- v0]; exact DGet.t hd3 et),r,r0,_,_,_,_,rfl,⟨e3,e0,zFt g,t1,(zDz bb).mono,(zDp bg).mono,t2.mono,t3.mono⟩,_,rfl,?_⟩
    refine ite2 (fun c=>?_) (fun c=>?_)
    ·have c':(zBv (ws,b)).1 * o.2 < o.1 * (zBv (ws,b)).2:=of_decide_eq_true c
     dsimp only at tk
     rw [if_pos c'] at tk
     refine ⟨_,rfl,_,rfl,_,rfl,d,_,rfl,DPut.t hd3 et (zAp kl),?_⟩
     exact store _ _ _ _ tk
    ·have c':¬ (zBv (ws,b)).1 * o.2 < o.1 * (zBv (ws,b)).2:=fun z=>c (decide_eq_true z)
     dsimp only at tk
     rw [if_neg c'] at tk
     refine ⟨kvs,sh,sv,_,_,_,_,rfl,sm.trans s13,hd3,s13 _ _ hsh,?_,?_⟩
     ·rw [tk]
      exact km3
     ·rw [tk]
      exact hsv.same s13
 ·rintro σ H' ⟨kvs,sh,sv,o3,o4,o5,o6,rfl,sm,hd',hsh,km,hsv⟩
  rw [lr,List.take_length] at km hsv
  have tok:=zIl RO
  have kl:kvs.length<=1000:=by
   have z:=Paired.length km
   have y:=zHI rows ([],none)
   have y':(rows.foldl zCX ([],none)).1.length<=0 + rows.length:=y
   omega
  have tid:tidM rows=(rows.foldl zCX ([],none)).1.map (fun p=>(p.1.map (· * p.2.2),p.2.1))++zF0 (rows.foldl zCX ([],none)).2:=rfl
  generalize rows.foldl zCX ([],none)=st at km hsv tok tid
  refine ⟨_,rfl,d,kvs,rfl,hd',fun od=>zJ4 (d:=d) (od:=od) (kvs:=kvs)
   (fun i ys σ H3=>zAk H3 ys ((st.1.take i).map fun p=>(p.1.map (· * p.2.2),p.2.1))/\(∃ o1 o2,σ=[o1,o2])/\Same (upd H' d (.frz od (.dT kvs))) H3)
   ⟨.nil,⟨none,none,rfl⟩,Same.refl _⟩ (fun i ys σ H3 hi ⟨e1,_,e2⟩=>⟨e2 _ _ zAF,by have:=Paired.length e1; rw [List.length_map,List.length_take] at this; omega⟩) (zAh (kl)) ?_ ?_⟩
  ·rintro i k x T b0 ys σ H3 hi hT hb0 ⟨hys,⟨o1,o2,rfl⟩,s3⟩
   have km3:KM (FrV H3) kvs st.1:=KM.imp (fun _ _ z=>Tp.same s3 (Tp.upd hd' (fun ys z=>by cases z) z)) km
   obtain ⟨⟨wy,tb⟩,hq,e1,r,rfl,er⟩:=zAc km3 hi
   have e1':k=keyL wy:=e1
   subst e1'
   obtain ⟨t1,t2,t3,t4,t5⟩:=tok _ (List.mem_of_getElem? hq)
   have s4:=zAI hT (HO.tup [V.ref b0,V.ref r])
   rw [zK3] at hb0
   refine ⟨T,_,rfl,SqT.of zAF,rfl,_,_,rfl,_,_,rfl,rfl,?_⟩
   refine ⟨_,rfl,_,rfl,b0,r,wy,tb.1,tb.2,rfl,s4 _ _ hb0,s4 _ _ er,(by rw [t4]; exact n1),(by rw [t4]; omega),t5,t3,fun r' H4 s5 e4=>?_⟩
   refine ⟨?_,⟨_,_,rfl⟩,s3.trans (s4.trans s5)⟩
   rw [zAa hq,List.map_append]
   exact zAb ⟨r',rfl,e4⟩ (hys.same (s4.trans s5))
  ·rintro ys σ H3 ⟨hys,⟨o1,o2,rfl⟩,s3⟩ l hl
   have s4:=zAI hl (HO.lst ys)
   have nd:∀ b u,H' b=some u->b≠d->H3 b=some u:=fun b u e ne=>s3 _ _ (by rw [zAW ne]; exact e)
   have shne:sh≠d:=zKx hsh hd' (by intro z; cases z)
   have hsh3:=nd _ _ hsh shne
   have kl2:kvs.length=st.1.length:=Paired.length km
   have yl:=Paired.length hys
   rw [List.length_map,List.length_take,kl2,Nat.min_self] at yl
   have svl:sv.length<=1:=by
    have z:=Paired.length hsv
    have y:(zF0 st.2).length<=1:=by cases st.2 with | none=>decide | some ws=>exact Nat.le_refl 1
    omega
   have sH:Same H H3:=fun b u e=>by
    have ne:b≠d:=zAo e hd
    exact nd _ _ (sm _ _ e) ne
   refine ⟨_,rfl,l,sh,ys,sv,rfl,rfl,zAF,s4 _ _ hsh3,(by have:=zAp (n:=1000) (Nat.le_refl _); omega),fun l2 hl2=>?_⟩
   have s5:=zAI hl2 (HO.lst (ys++sv))
   have sF:=sH.trans (s4.trans s5)
   refine q l2 _ _ sF ((sH.trans s4).free hl2) zAF ?_
   rw [tid]
   have hsv3:zAk H3 sv (zF0 st.2):=Paired.mapP hsv fun _ _ z=>Tp.same s3 (Tp.upd hd' (fun ys z=>by cases z) z)
   refine zDa ?_ (hsv3.same (s4.trans s5))
   have hy:zAk H3 ys (st.1.map fun p=>(p.1.map (· * p.2.2),p.2.1)):=by
    have z:=hys
    rw [kl2,List.take_length] at z
    exact z
   exact hy.same (s4.trans s5)
end
section
variable {P:Program} {w:World} {K:PySem.W.Frag} {mg:Str->Option Value} {base:Heap}
abbrev zBt:Stmt:=top 15
theorem zF3:zAP ["value","depth"] ["value","depth"] (zAC zBt):=.a
abbrev zCL:Stmt:=top 13
theorem zG8:zAP ["value","count"] ["value","count"] (zAC zCL):=.a
abbrev zCb:Stmt:=top 14
theorem zH3:zAP ["value","tall","wide"] ["value","tall","wide"] (zAC zCb):=.a
abbrev zD9:Stmt:=top 21
theorem zKT:zAP ["value","many"] ["value","many"] (zAC zD9):=.a
abbrev zC7:Stmt:=top 22
theorem zJX:zAP ["value","many"] ["value","many"] (zAC zC7):=.a
abbrev zDU:Stmt:=top 42
theorem zJY:zAP ["value"] ["value"] (zAC zDU):=.a
abbrev zBb:Stmt:=zGI (top 39) 0
theorem zFT:zAP nl8 nl8 (zAC zBb):=.a
abbrev zDV:Stmt:=top 43
theorem zJZ:zAP ["value","many","wide"] ["value","many","wide"] (zAC zDV):=.a
abbrev zCc:Stmt:=top 41
theorem zH4:zAP ["many","pushes","modes"] ["many","pushes","modes"] (zAC zCc):=.a
abbrev zBN:Stmt:=zGI (top 40) 0
theorem zE6:zAP ["self","many","pushes","modes"] ["self","many","pushes","modes"] (zAC zBN):=.a
abbrev zBq:Stmt:=zGI (top 40) 1
theorem zF4:zAP ["self"] ["self"] (zAC zBq):=.a
abbrev zB7:Stmt:=zGI (top 40) 2
theorem zGW:zAP ["self"] ["self"] (zAC zB7):=.a
abbrev zBM:Stmt:=zGI (top 40) 4
theorem zE5:zAP ["self"] ["self"] (zAC zBM):=.a
variable {ac ae:Addr} (af:ClsF K mg "Mode" ac) (ah:zCW K ac) (ag:ClsF K mg "Thing" ae) (ai:zBs K ae)
include af ah ag ai
theorem zIM {k:Nat} {f:Addr} {fd:FuncData} {dv:Value} (F:FunD K "copied" "copied" zBt f fd dv) (B:Bl mg) (am:FnD P w K mg base "copied" ["value","depth"] k zKL (.int 5)):FnOk P w K mg base CX0 (k + 1) f fd ["value","depth"] spC0:=by
 refine F.ok zF3 (fun vs H Q E h=>?_) (fun cdv A outer s H vs Q E hr h=>?_)
 ·obtain ⟨_,_,rfl,_⟩:=h
  rfl
 refine ⟨_,(zAD (zBc (zAx zEG (pvj 1) zAE (zAq _)) (zAH (zAU (pvj 0))) zAj)
  (zAD (zBc (zBF (zAS zDt rfl B.isinstance_ zAT (zAA (pvj 0) (zAA (zBr (v:=.ty "list") (u:=.type "list") rfl B.list_ zAm rfl) zAB)))) (zAH (zAU (zAr (own:=["part"]) (caps:=[(1,"depth")]) (zBm (S:=zAC zBt) (N:=["value","depth"]) ⟨_,rfl⟩) rfl (zBC (pvj 0)) (fun _ _ _ _=>zAJ (i:=0) (show (["part","depth"]:List Str).Nodup by decide +kernel) rfl (Or.inl rfl)) (fun _ _ _ _=>(zAG am.fn hr rfl (zAA (pvj 0) (zAA (zAK (ji0 zCR) (pvj 1) zAE) zAB))))))) zAj)
  (zAD (zBc (zBF (zAS zDt rfl B.isinstance_ zAT (zAA (pvj 0) (zAA (zBr (v:=.ty "tuple") (u:=.type "tuple") rfl B.tuple_ zAn rfl) zAB)))) (zAH (zAU (zAi jtup rfl B.tuple_ zAn (zAA (zAr (own:=["part"]) (caps:=[(1,"depth")]) (zBm (S:=zAC zBt) (N:=["value","depth"]) ⟨_,rfl⟩) rfl (zFO (pvj 0)) (fun _ _ _ _=>zAJ (i:=0) (show (["part","depth"]:List Str).Nodup by decide +kernel) rfl (Or.inl rfl)) (fun _ _ _ _=>(zAG am.fn hr rfl (zAA (pvj 0) (zAA (zAK (ji0 zCR) (pvj 1) zAE) zAB))))) zAB)))) zAj)
  (zAH (zAU (pvj 0)))))),?_⟩
 try dsimp only [cxOf,Cx.nox,Cx.wish]
 obtain ⟨i,d,rfl,q⟩:=h
 refine ⟨_,rfl,rfl,_,rfl,?_⟩
 by_cases d0:d=0
 ·exact zCU (zDH d0) ⟨_,rfl,q⟩
 refine zB0 (zC9 d0) ?_
 refine ⟨_,rfl,_,_,_,_,rfl,.int i,zHh K .int,_,rfl,iteF ?_⟩
 refine ⟨_,rfl,_,_,_,_,rfl,.int i,zK6 K .int,_,rfl,iteF ?_⟩
 exact ⟨_,rfl,q⟩
theorem zIL {k:Nat} {f:Addr} {fd:FuncData} {dv:Value} (F:FunD K "copied" "copied" zBt f fd dv) (B:Bl mg) (am:FnD P w K mg base "copied" ["value","depth"] k spC0 (.int 5)):FnOk P w K mg base CX0 (k + 1) f fd ["value","depth"] spC1:=by
 refine F.ok zF3 (fun vs H Q E h=>?_) (fun cdv A outer s H vs Q E hr h=>?_)
 ·obtain ⟨i,d,rfl,_⟩ | ⟨a,ns,d,rfl,_⟩ | ⟨a,ns,d,rfl,_⟩:=h
  all_goals rfl
 refine ⟨_,(zAD (zBc (zAx zEG (pvj 1) zAE (zAq _)) (zAH (zAU (pvj 0))) zAj)
  (zAD (zBc (zBF (zAS zDt rfl B.isinstance_ zAT (zAA (pvj 0) (zAA (zBr (v:=.ty "list") (u:=.type "list") rfl B.list_ zAm rfl) zAB)))) (zAH (zAU (zAr (own:=["part"]) (caps:=[(1,"depth")]) (zBm (S:=zAC zBt) (N:=["value","depth"]) ⟨_,rfl⟩) rfl (zBC (pvj 0)) (fun _ _ _ _=>zAJ (i:=0) (show (["part","depth"]:List Str).Nodup by decide +kernel) rfl (Or.inl rfl)) (fun _ _ _ _=>(zAG am.fn hr rfl (zAA (pvj 0) (zAA (zAK (ji0 zCR) (pvj 1) zAE) zAB))))))) zAj)
  (zAD (zBc (zBF (zAS zDt rfl B.isinstance_ zAT (zAA (pvj 0) (zAA (zBr (v:=.ty "tuple") (u:=.type "tuple") rfl B.tuple_ zAn rfl) zAB)))) (zAH (zAU (zAi jtup rfl B.tuple_ zAn (zAA (zAr (own:=["part"]) (caps:=[(1,"depth")]) (zBm (S:=zAC zBt) (N:=["value","depth"]) ⟨_,rfl⟩) rfl (zFO (pvj 0)) (fun _ _ _ _=>zAJ (i:=0) (show (["part","depth"]:List Str).Nodup by decide +kernel) rfl (Or.inl rfl)) (fun _ _ _ _=>(zAG am.fn hr rfl (zAA (pvj 0) (zAA (zAK (ji0 zCR) (pvj 1) zAE) zAB))))) zAB)))) zAj)
  (zAH (zAU (pvj 0)))))),?_⟩
 try dsimp only [cxOf,Cx.nox,Cx.wish]
 rcases h with h | h | h
 ·obtain ⟨i,d,rfl,q⟩:=h
  refine ⟨_,rfl,rfl,_,rfl,?_⟩
  by_cases d0:d=0
  ·exact zCU (zDH d0) ⟨_,rfl,q⟩
  refine zB0 (zC9 d0) ?_
  refine ⟨_,rfl,_,_,_,_,rfl,.int i,zHh K .int,_,rfl,iteF ?_⟩
  refine ⟨_,rfl,_,_,_,_,rfl,.int i,zK6 K .int,_,rfl,iteF ?_⟩
  exact ⟨_,rfl,q⟩
 ·obtain ⟨a,ns,d,rfl,d1,ha,few,q⟩:=h
  refine ⟨_,rfl,rfl,_,rfl,zB0 (zC9 (by omega)) ?_⟩
  refine ⟨_,rfl,_,_,_,_,rfl,.lst ha,zBD K,_,rfl,iteT ?_⟩
  refine ⟨_,rfl,a,rfl,⟨_,SqL.of ha⟩,zBQ (K:=K) (a:=a) (xs:=ns.map V.int) (fun i ys σ H'=>ys=(ns.take i).map V.int/\(∃ o,σ=[o,some (.int d)])/\H'=H)
   ⟨rfl,⟨none,rfl⟩,rfl⟩ (fun i ys σ H' hi ⟨e1,_,e3⟩=>⟨by rw [e3]; exact SqL.of ha,by rw [e1,List.length_map,List.length_take]; exact Nat.min_le_left _ _⟩) (by rw [List.length_map]; exact zAh (by omega)) ?_ ?_⟩
  ·rintro i x ys σ H' hi ⟨rfl,⟨o,rfl⟩,rfl⟩
   obtain ⟨z,hz,rfl⟩:=zBW hi
   refine ⟨_,rfl,_,rfl,_,_,rfl,rfl,⟨z,d - 1,rfl,?_,⟨_,rfl⟩,rfl⟩⟩
   rw [zAa hz,List.map_append]
   rfl
  rintro ys σ H' ⟨rfl,⟨o,rfl⟩,rfl⟩ l hl
  refine q l _ (zAI hl _) hl (zAF.trans ?_)
  rw [List.length_map,List.take_length]
 ·obtain ⟨a,ns,d,rfl,d1,ha,few,q⟩:=h
  refine ⟨_,rfl,rfl,_,rfl,zB0 (zC9 (by omega)) ?_⟩
  refine ⟨_,rfl,_,_,_,_,rfl,.tup ha,zHh K .tup,_,rfl,iteF ?_⟩
  refine ⟨_,rfl,_,_,_,_,rfl,.tup ha,zBz K,_,rfl,iteT ?_⟩
  refine ⟨_,rfl,a,rfl,⟨_,SqT.of ha⟩,zEy (K:=K) (a:=a) (xs:=ns.map V.int) (fun i ys σ H'=>ys=(ns.take i).map V.int/\(∃ o,σ=[o,some (.int d)])/\H'=H)
   ⟨rfl,⟨none,rfl⟩,rfl⟩ (fun i ys σ H' hi ⟨e1,_,e3⟩=>⟨by rw [e3]; exact SqT.of ha,by rw [e1,List.length_map,List.length_take]; exact Nat.min_le_left _ _⟩) (by rw [List.length_map]; exact zAh (by omega)) ?_ ?_⟩
  ·rintro i x ys σ H' hi ⟨rfl,⟨o,rfl⟩,rfl⟩
   obtain ⟨z,hz,rfl⟩:=zBW hi
   refine ⟨_,rfl,_,rfl,_,_,rfl,rfl,⟨z,d - 1,rfl,?_,⟨_,rfl⟩,rfl⟩⟩
   rw [zAa hz,List.map_append]
   rfl
  rintro ys σ H' ⟨rfl,⟨o,rfl⟩,rfl⟩ l hl
  refine ⟨l,_,rfl,.inl ⟨SqL.of zAF,fun t ht=>?_⟩⟩
  refine q t _ ((zAI hl _).trans (zAI ht _)) ((zAI hl _).free ht) (zAF.trans ?_)
  rw [List.length_map,List.take_length]
theorem zIK {k:Nat} {f:Addr} {fd:FuncData} {dv:Value} (F:FunD K "copied" "copied" zBt f fd dv) (B:Bl mg) (am:FnD P w K mg base "copied" ["value","depth"] k spC1 (.int 5)):FnOk P w K mg base CX0 (k + 1) f fd ["value","depth"] spC2:=by
 refine F.ok zF3 (fun vs H Q E h=>?_) (fun cdv A outer s H vs Q E hr h=>?_)
 ·obtain (⟨i,d,rfl,_⟩ | ⟨a,ns,d,rfl,_⟩ | ⟨a,ns,d,rfl,_⟩) | ⟨a,rv,rows,d,rfl,_⟩ | ⟨a,tv,tab,d,rfl,_⟩:=h
  all_goals rfl
 refine ⟨_,(zAD (zBc (zAx zEG (pvj 1) zAE (zAq _)) (zAH (zAU (pvj 0))) zAj)
  (zAD (zBc (zBF (zAS zDt rfl B.isinstance_ zAT (zAA (pvj 0) (zAA (zBr (v:=.ty "list") (u:=.type "list") rfl B.list_ zAm rfl) zAB)))) (zAH (zAU (zAr (own:=["part"]) (caps:=[(1,"depth")]) (zBm (S:=zAC zBt) (N:=["value","depth"]) ⟨_,rfl⟩) rfl (zBC (pvj 0)) (fun _ _ _ _=>zAJ (i:=0) (show (["part","depth"]:List Str).Nodup by decide +kernel) rfl (Or.inl rfl)) (fun _ _ _ _=>(zAG am.fn hr rfl (zAA (pvj 0) (zAA (zAK (ji0 zCR) (pvj 1) zAE) zAB))))))) zAj)
  (zAD (zBc (zBF (zAS zDt rfl B.isinstance_ zAT (zAA (pvj 0) (zAA (zBr (v:=.ty "tuple") (u:=.type "tuple") rfl B.tuple_ zAn rfl) zAB)))) (zAH (zAU (zAi jtup rfl B.tuple_ zAn (zAA (zAr (own:=["part"]) (caps:=[(1,"depth")]) (zBm (S:=zAC zBt) (N:=["value","depth"]) ⟨_,rfl⟩) rfl (zFO (pvj 0)) (fun _ _ _ _=>zAJ (i:=0) (show (["part","depth"]:List Str).Nodup by decide +kernel) rfl (Or.inl rfl)) (fun _ _ _ _=>(zAG am.fn hr rfl (zAA (pvj 0) (zAA (zAK (ji0 zCR) (pvj 1) zAE) zAB))))) zAB)))) zAj)
  (zAH (zAU (pvj 0)))))),?_⟩
 try dsimp only [cxOf,Cx.nox,Cx.wish]
 rcases h with (h | h | h) | h | h
 ·obtain ⟨i,d,rfl,q⟩:=h
  refine ⟨_,rfl,rfl,_,rfl,?_⟩
  by_cases d0:d=0
  ·exact zCU (zDH d0) ⟨_,rfl,q⟩
  refine zB0 (zC9 d0) ?_
  refine ⟨_,rfl,_,_,_,_,rfl,.int i,zHh K .int,_,rfl,iteF ?_⟩
  refine ⟨_,rfl,_,_,_,_,rfl,.int i,zK6 K .int,_,rfl,iteF ?_⟩
  exact ⟨_,rfl,q⟩
 ·obtain ⟨a,ns,d,rfl,d1,ha,few,q⟩:=h
  refine ⟨_,rfl,rfl,_,rfl,zB0 (zC9 (by omega)) ?_⟩
  refine ⟨_,rfl,_,_,_,_,rfl,.lst ha,zBD K,_,rfl,iteT ?_⟩
  refine ⟨_,rfl,a,rfl,⟨_,SqL.of ha⟩,zBQ (K:=K) (a:=a) (xs:=ns.map V.int) (fun i ys σ H'=>ys=(ns.take i).map V.int/\(∃ o,σ=[o,some (.int d)])/\H'=H)
   ⟨rfl,⟨none,rfl⟩,rfl⟩ (fun i ys σ H' hi ⟨e1,_,e3⟩=>⟨by rw [e3]; exact SqL.of ha,by rw [e1,List.length_map,List.length_take]; exact Nat.min_le_left _ _⟩) (by rw [List.length_map]; exact zAh (by omega)) ?_ ?_⟩
  ·rintro i x ys σ H' hi ⟨rfl,⟨o,rfl⟩,rfl⟩
   obtain ⟨z,hz,rfl⟩:=zBW hi
   refine ⟨_,rfl,_,rfl,_,_,rfl,rfl,.inl ⟨z,d - 1,rfl,?_,⟨_,rfl⟩,rfl⟩⟩
   rw [zAa hz,List.map_append]
   rfl
  rintro ys σ H' ⟨rfl,⟨o,rfl⟩,rfl⟩ l hl
  refine q l _ (zAI hl _) hl (zAF.trans ?_)
  rw [List.length_map,List.take_length]
 ·obtain ⟨a,ns,d,rfl,d1,ha,few,q⟩:=h
  refine ⟨_,rfl,rfl,_,rfl,zB0 (zC9 (by omega)) ?_⟩
  refine ⟨_,rfl,_,_,_,_,rfl,.tup ha,zHh K .tup,_,rfl,iteF ?_⟩
  refine ⟨_,rfl,_,_,_,_,rfl,.tup ha,zBz K,_,rfl,iteT ?_⟩
  refine ⟨_,rfl,a,rfl,⟨_,SqT.of ha⟩,zEy (K:=K) (a:=a) (xs:=ns.map V.int) (fun i ys σ H'=>ys=(ns.take i).map V.int/\(∃ o,σ=[o,some (.int d)])/\H'=H)
   ⟨rfl,⟨none,rfl⟩,rfl⟩ (fun i ys σ H' hi ⟨e1,_,e3⟩=>⟨by rw [e3]; exact SqT.of ha,by rw [e1,List.length_map,List.length_take]; exact Nat.min_le_left _ _⟩) (by rw [List.length_map]; exact zAh (by omega)) ?_ ?_⟩
  ·rintro i x ys σ H' hi ⟨rfl,⟨o,rfl⟩,rfl⟩
   obtain ⟨z,hz,rfl⟩:=zBW hi
   refine ⟨_,rfl,_,rfl,_,_,rfl,rfl,.inl ⟨z,d - 1,rfl,?_,⟨_,rfl⟩,rfl⟩⟩
   rw [zAa hz,List.map_append]
   rfl
  rintro ys σ H' ⟨rfl,⟨o,rfl⟩,rfl⟩ l hl
  refine ⟨l,_,rfl,.inl ⟨SqL.of zAF,fun t ht=>?_⟩⟩
  refine q t _ ((zAI hl _).trans (zAI ht _)) ((zAI hl _).free ht) (zAF.trans ?_)
  rw [List.length_map,List.take_length]
 ·obtain ⟨a,rv,rows,d,rfl,d1,ha,hrv,few,rl,q⟩:=h
  have lr:rv.length=rows.length:=Paired.length hrv
  refine ⟨_,rfl,rfl,_,rfl,zB0 (zC9 (by omega)) ?_⟩
  refine ⟨_,rfl,_,_,_,_,rfl,.lst ha,zBD K,_,rfl,iteT ?_⟩
  refine ⟨_,rfl,a,rfl,⟨_,SqL.of ha⟩,zBQ (K:=K) (a:=a) (xs:=rv) (fun i ys σ H'=>zBT H' ys (rows.take i)/\(∃ o,σ=[o,some (.int d)])/\Same H H')
   ⟨.nil,⟨none,rfl⟩,Same.refl _⟩ (fun i ys σ H' hi ⟨e1,_,sm⟩=>⟨SqL.of (sm _ _ ha),by have:=Paired.length e1; rw [List.length_take] at this; omega⟩) (zAh (by omega)) ?_ ?_⟩
  ·rintro i x ys σ H' hi ⟨hys,⟨o,rfl⟩,sm⟩
   obtain ⟨r,hr',b,rfl,eb⟩:=zAc hrv hi
   refine ⟨_,rfl,_,rfl,_,_,rfl,rfl,.inr (.inr ⟨b,r,d - 1,rfl,(by omega),sm _ _ eb,rl r (List.mem_of_getElem? hr'),fun t H2 s2 _ et=>?_⟩)⟩
   refine ⟨?_,⟨_,rfl⟩,sm.trans s2⟩
   rw [zAa hr']
   exact zAb (R:=fun v (k:List Int)=>Tp H2 v (k.map V.int)) ⟨t,rfl,et⟩ (zBT.same s2 hys)
  rintro ys σ H' ⟨hys,⟨o,rfl⟩,sm⟩ l hl
  rw [lr,List.take_length] at hys
  exact q l ys _ (sm.trans (zAI hl _)) (sm.free hl) zAF (zBT.same (zAI hl _) hys)
 ·obtain ⟨a,tv,tab,d,rfl,d1,ha,htv,few,rl,q⟩:=h
  have lr:tv.length=tab.length:=Paired.length htv
  refine ⟨_,rfl,rfl,_,rfl,zB0 (zC9 (by omega)) ?_⟩
  refine ⟨_,rfl,_,_,_,_,rfl,.lst ha,zBD K,_,rfl,iteT ?_⟩
  refine ⟨_,rfl,a,rfl,⟨_,SqL.of ha⟩,zBQ (K:=K) (a:=a) (xs:=tv) (fun i ys σ H'=>Paired (NewL H H') ys (tab.take i)/\(∃ o,σ=[o,some (.int d)])/\Same H H')
   ⟨.nil,⟨none,rfl⟩,Same.refl _⟩ (fun i ys σ H' hi ⟨e1,_,sm⟩=>⟨SqL.of (sm _ _ ha),by have:=Paired.length e1; rw [List.length_take] at this; omega⟩) (zAh (by omega)) ?_ ?_⟩
  ·rintro i x ys σ H' hi ⟨hys,⟨o,rfl⟩,sm⟩
   obtain ⟨r,hr',b,rfl,eb⟩:=zAc htv hi
   refine ⟨_,rfl,_,rfl,_,_,rfl,rfl,.inr (.inl ⟨b,r,d - 1,rfl,(by omega),sm _ _ eb,rl r (List.mem_of_getElem? hr'),fun t H2 s2 tn et=>?_⟩)⟩
   refine ⟨?_,⟨_,rfl⟩,sm.trans s2⟩
   rw [zAa hr']
   exact zAb (R:=NewL H H2) ⟨t,rfl,sm.free tn,et⟩ (Paired.mapP hys fun _ _ ⟨c,e,n,k⟩=>⟨c,e,n,s2 _ _ k⟩)
  rintro ys σ H' ⟨hys,⟨o,rfl⟩,sm⟩ l hl
  rw [lr,List.take_length] at hys
  have z:=zAI hl (HO.lst ys)
  exact q l ys _ (sm.trans z) (sm.free hl) zAF (Paired.mapP hys fun _ _ ⟨c,e,n,k⟩=>⟨c,e,n,z _ _ k⟩)
theorem zHC {k:Nat} {f:Addr} {fd:FuncData} (F:Fun K "is_numbers" "is_numbers" zCL f fd) (B:Bl mg) (ao:Fn P w K mg base "is_whole" ["thing"] k zCO):FnOk P w K mg base CX0 (k + 1) f fd ["value","count"] zC4:=by
 refine F.ok zG8 ?_ ?_
 ·rintro vs H Q E ⟨a,ns,rfl,_⟩
  rfl
 rintro cdv A outer s H vs Q E hr ⟨a,ns,rfl,ha,few,q⟩
 refine ⟨_,(zAH (zAU (zDZ (zAS zDt rfl B.isinstance_ zAT (zAA (pvj 0) (zAA (zBr (v:=.ty "list") (u:=.type "list") rfl B.list_ zAm rfl) zAB))) (zDZ (zCH zEG (zAS jlen rfl B.len_ zAv (zAA (pvj 0) zAB)) (pvj 1) (zAq _)) (zEn (zAS (zDE rfl) rfl B.all_ zCn (zAA (zAr (own:=["number"]) (caps:=[]) (zCq rfl) rfl (zBC (pvj 0)) (fun _ _ _ _=>zAJ (i:=0) (show (["number"]:List Str).Nodup by decide +kernel) rfl (Or.inl rfl)) (fun _ _ _ _=>(zAG ao hr rfl (zAA (pvj 0) zAB)))) zAB))))))),?_⟩
 try dsimp only [cxOf,Cx.nox,Cx.wish]
 refine ⟨_,rfl,_,_,_,_,rfl,.lst ha,zBD K,_,rfl,iteT ?_⟩
 refine ⟨_,rfl,a,_,rfl,.inl (SqL.of ha),_,rfl,rfl,_,rfl,zCU (zDH (by rw [List.length_map])) ?_⟩
 refine ⟨_,rfl,a,rfl,⟨_,SqL.of ha⟩,zBQ (K:=K) (a:=a) (xs:=ns.map V.int) (fun i ys σ H'=>ys=(List.replicate i true).map V.bl/\(∃ o,σ=[o])/\H'=H)
  ⟨rfl,⟨none,rfl⟩,rfl⟩ (fun i ys σ H' hi ⟨e1,_,e3⟩=>⟨by rw [e3]; exact SqL.of ha,by rw [e1,List.length_map,List.length_replicate]; exact Nat.le_refl _⟩) (by rw [List.length_map]; exact zAh (by omega)) ?_ ?_⟩
 ·rintro i x ys σ H' hi ⟨rfl,⟨o,rfl⟩,rfl⟩
  obtain ⟨z,hz,rfl⟩:=zBW hi
  refine ⟨_,rfl,z,rfl,?_,⟨_,rfl⟩,rfl⟩
  rw [List.replicate_succ',List.map_append]
  rfl
 rintro ys σ H' ⟨rfl,⟨o,rfl⟩,rfl⟩ l hl
 refine ⟨l,List.replicate _ true,rfl,SqL.of zAF,?_⟩
 rw [zDq]
 exact q _ (zAI hl _)
theorem zIH {k:Nat} {f:Addr} {fd:FuncData} (F:Fun K "is_table" "is_table" zCb f fd) (B:Bl mg) (aA:Fn P w K mg base "is_numbers" ["value","count"] k zC4):FnOk P w K mg base CX0 (k + 1) f fd ["value","tall","wide"] zEe:=by
 refine F.ok zH3 ?_ ?_
 ·rintro vs H Q E ⟨a,tv,tab,w0,rfl,_⟩
  rfl
 rintro cdv A outer s H vs Q E hr ⟨a,tv,tab,w0,rfl,ha,htv,few,tw,w9,q⟩
 refine ⟨_,(zAH (zAU (zDZ (zAS zDt rfl B.isinstance_ zAT (zAA (pvj 0) (zAA (zBr (v:=.ty "list") (u:=.type "list") rfl B.list_ zAm rfl) zAB))) (zDZ (zCH zEG (zAS jlen rfl B.len_ zAv (zAA (pvj 0) zAB)) (pvj 1) (zAq _)) (zEn (zAS (zDE rfl) rfl B.all_ zCn (zAA (zAr (own:=["part"]) (caps:=[(2,"wide")]) (zBm (S:=zAC zCb) (N:=["value","tall","wide"]) ⟨_,rfl⟩) rfl (zBC (pvj 0)) (fun _ _ _ _=>zAJ (i:=0) (show (["part","wide"]:List Str).Nodup by decide +kernel) rfl (Or.inl rfl)) (fun _ _ _ _=>(zAG aA hr rfl (zAA (pvj 0) (zAA (pvj 1) zAB))))) zAB))))))),?_⟩
 try dsimp only [cxOf,Cx.nox,Cx.wish]
 have lt:tv.length=tab.length:=Paired.length htv
 refine ⟨_,rfl,_,_,_,_,rfl,.lst ha,zBD K,_,rfl,iteT ?_⟩
 refine ⟨_,rfl,a,_,rfl,.inl (SqL.of ha),_,rfl,rfl,_,rfl,zCU (zDH (by omega)) ?_⟩
 refine ⟨_,rfl,a,rfl,⟨_,SqL.of ha⟩,zBQ (K:=K) (a:=a) (xs:=tv) (fun i ys σ H'=>ys=(List.replicate i true).map V.bl/\(∃ o,σ=[o,some (.int (w0:Int))])/\Same H H')
  ⟨rfl,⟨none,rfl⟩,Same.refl _⟩ (fun i ys σ H' hi ⟨e1,_,sm⟩=>⟨SqL.of (sm _ _ ha),by rw [e1,List.length_map,List.length_replicate]; exact Nat.le_refl _⟩) (zAh (by omega)) ?_ ?_⟩
 ·rintro i x ys σ H' hi ⟨rfl,⟨o,rfl⟩,sm⟩
  obtain ⟨r,hr',b,rfl,eb⟩:=zAc htv hi
  have lw:=tw r (List.mem_of_getElem? hr')
  refine ⟨_,rfl,_,rfl,b,r,(by rw [lw]; rfl),sm _ _ eb,(by omega),fun H2 s2=>⟨?_,⟨_,rfl⟩,sm.trans s2⟩⟩
  rw [List.replicate_succ',List.map_append]
  rfl
 rintro ys σ H' ⟨rfl,⟨o,rfl⟩,sm⟩ l hl
 refine ⟨l,List.replicate _ true,rfl,SqL.of zAF,?_⟩
 rw [zDq]
 exact q _ (sm.trans (zAI hl _))
theorem zKr {k:Nat} {f:Addr} {fd:FuncData} (F:Fun K "is_row" "is_row" zD9 f fd) (B:Bl mg) (ao:Fn P w K mg base "is_whole" ["thing"] k zCO):FnOk P w K mg base CX0 (k + 1) f fd ["value","many"] zG4:=by
 refine F.ok zKT ?_ ?_
 ·rintro vs H Q E ⟨a,ns,n,rfl,_⟩
  rfl
 rintro cdv A outer s H vs Q E hr ⟨a,ns,n,rfl,ha,ln,few,q⟩
 refine ⟨_,(zAH (zAU (zDZ (zAS zDt rfl B.isinstance_ zAT (zAA (pvj 0) (zAA (zBr (v:=.ty "tuple") (u:=.type "tuple") rfl B.tuple_ zAn rfl) zAB))) (zDZ (zCH zEG (zAS jlen rfl B.len_ zAv (zAA (pvj 0) zAB)) (zAK (ji0 zAt) (pvj 1) zAE) (zAq _)) (zEn (zAS (zDE rfl) rfl B.all_ zCn (zAA (zAr (own:=["number"]) (caps:=[]) (zCq rfl) rfl (zFO (pvj 0)) (fun _ _ _ _=>zAJ (i:=0) (show (["number"]:List Str).Nodup by decide +kernel) rfl (Or.inl rfl)) (fun _ _ _ _=>(zAG ao hr rfl (zAA (pvj 0) zAB)))) zAB))))))),?_⟩
 try dsimp only [cxOf,Cx.nox,Cx.wish]
 refine ⟨_,rfl,_,_,_,_,rfl,.tup ha,zBz K,_,rfl,iteT ?_⟩
 refine ⟨_,rfl,a,_,rfl,.inr (SqT.of ha),_,rfl,_,_,rfl,rfl,rfl,_,rfl,zCU (zDH (by rw [List.length_map,ln]; omega)) ?_⟩
 refine ⟨_,rfl,a,rfl,⟨_,SqT.of ha⟩,zEy (K:=K) (a:=a) (xs:=ns.map V.int) (fun i ys σ H'=>ys=(List.replicate i true).map V.bl/\(∃ o,σ=[o])/\H'=H)
  ⟨rfl,⟨none,rfl⟩,rfl⟩ (fun i ys σ H' hi ⟨e1,_,e3⟩=>⟨by rw [e3]; exact SqT.of ha,by rw [e1,List.length_map,List.length_replicate]; exact Nat.le_refl _⟩) (by rw [List.length_map]; exact zAh (by omega)) ?_ ?_⟩
 ·rintro i x ys σ H' hi ⟨rfl,⟨o,rfl⟩,rfl⟩
  obtain ⟨z,hz,rfl⟩:=zBW hi
  refine ⟨_,rfl,z,rfl,?_,⟨_,rfl⟩,rfl⟩
  rw [List.replicate_succ',List.map_append]
  rfl
 rintro ys σ H' ⟨rfl,⟨o,rfl⟩,rfl⟩ l hl
 refine ⟨l,List.replicate _ true,rfl,SqL.of zAF,?_⟩
 rw [zDq]
 exact q _ (zAI hl _)
theorem zJm {k:Nat} {f:Addr} {fd:FuncData} (F:Fun K "is_room" "is_room" zC7 f fd) (B:Bl mg) (bU:Fn P w K mg base "is_row" ["value","many"] k zG4):FnOk P w K mg base CX0 (k + 1) f fd ["value","many"] zFi:=by
 refine F.ok zJX ?_ ?_
 ·rintro vs H Q E ⟨a,rv,rows,n,rfl,_⟩
  rfl
 rintro cdv A outer s H vs Q E hr ⟨a,rv,rows,n,rfl,ha,hrv,few,rl,n8,q⟩
 refine ⟨_,(zAH (zAU (zDZ (zAS zDt rfl B.isinstance_ zAT (zAA (pvj 0) (zAA (zBr (v:=.ty "list") (u:=.type "list") rfl B.list_ zAm rfl) zAB))) (zEn (zAS (zDE rfl) rfl B.all_ zCn (zAA (zAr (own:=["row"]) (caps:=[(1,"many")]) (zBm (S:=zAC zC7) (N:=["value","many"]) ⟨_,rfl⟩) rfl (zBC (pvj 0)) (fun _ _ _ _=>zAJ (i:=0) (show (["row","many"]:List Str).Nodup by decide +kernel) rfl (Or.inl rfl)) (fun _ _ _ _=>(zAG bU hr rfl (zAA (pvj 0) (zAA (pvj 1) zAB))))) zAB)))))),?_⟩
 try dsimp only [cxOf,Cx.nox,Cx.wish]
 have lr:rv.length=rows.length:=Paired.length hrv
 refine ⟨_,rfl,_,_,_,_,rfl,.lst ha,zBD K,_,rfl,iteT ?_⟩
 refine ⟨_,rfl,a,rfl,⟨_,SqL.of ha⟩,zBQ (K:=K) (a:=a) (xs:=rv) (fun i ys σ H'=>ys=(List.replicate i true).map V.bl/\(∃ o,σ=[o,some (.int (n:Int))])/\Same H H')
  ⟨rfl,⟨none,rfl⟩,Same.refl _⟩ (fun i ys σ H' hi ⟨e1,_,sm⟩=>⟨SqL.of (sm _ _ ha),by rw [e1,List.length_map,List.length_replicate]; exact Nat.le_refl _⟩) (zAh (by omega)) ?_ ?_⟩
 ·rintro i x ys σ H' hi ⟨rfl,⟨o,rfl⟩,sm⟩
  obtain ⟨r,hr',b,rfl,eb⟩:=zAc hrv hi
  refine ⟨_,rfl,_,rfl,b,r,n,rfl,sm _ _ eb,rl r (List.mem_of_getElem? hr'),(by omega),fun H2 s2=>⟨?_,⟨_,rfl⟩,sm.trans s2⟩⟩
  rw [List.replicate_succ',List.map_append]
  rfl
 rintro ys σ H' ⟨rfl,⟨o,rfl⟩,sm⟩ l hl
 refine ⟨l,List.replicate _ true,rfl,SqL.of zAF,?_⟩
 rw [zDq]
 exact q _ (sm.trans (zAI hl _))
theorem zJn {k:Nat} {f:Addr} {fd:FuncData} (F:Fun K "is_push" "is_push" zDU f fd) (B:Bl mg) (ao:Fn P w K mg base "is_whole" ["thing"] k zCO):FnOk P w K mg base CX0 (k + 1) f fd ["value"] zFj:=by
 refine F.ok zJY ?_ ?_
 ·rintro vs H Q E ⟨a,lo,hi,rfl,_⟩
  rfl
 rintro cdv A outer s H vs Q E hr ⟨a,lo,hi,rfl,ha,lh,q⟩
 refine ⟨_,(zAD (zBc (PW.pt (zEk (zB9 (zBF (zAS zDt rfl B.isinstance_ zAT (zAA (pvj 0) (zAA (zBr (v:=.ty "tuple") (u:=.type "tuple") rfl B.tuple_ zAn rfl) zAB))))) (zDX (zAx zH9 (zAS jlen rfl B.len_ zAv (zAA (pvj 0) zAB)) zAE (zAq _))))) (zAH (zAU zFU)) zAj)
  (zAH (zAU (zDZ (zAG ao hr rfl (zAA (zAX zAO (pvj 0) zAE (fun _ _=>rfl)) zAB)) (zDZ (zAG ao hr rfl (zAA (zAX zAO (pvj 0) zAE (fun _ _=>rfl)) zAB)) (zEn (zCH (ji0 zKf) (zAX zAO (pvj 0) zAE (fun _ _=>rfl)) (zAX zAO (pvj 0) zAE (fun _ _=>rfl)) (zAq _)))))))),?_⟩
 try dsimp only [cxOf,Cx.nox,Cx.wish]
 refine ⟨_,rfl,_,_,_,_,rfl,.tup ha,zBz K,_,rfl,iteF ?_⟩
 refine ⟨_,rfl,a,_,rfl,.inr (SqT.of ha),rfl,_,rfl,zNF rfl ?_⟩
 refine ⟨_,rfl,a,_,0,_,rfl,rfl,SqT.of ha,at0,lo,rfl,_,rfl,iteT ?_⟩
 refine ⟨_,rfl,a,_,1,_,rfl,rfl,SqT.of ha,at1,hi,rfl,_,rfl,iteT ?_⟩
 refine ⟨_,rfl,a,_,0,_,rfl,rfl,SqT.of ha,at0,_,rfl,a,_,1,_,rfl,rfl,SqT.of ha,at1,_,_,rfl,rfl,?_⟩
 have z:decide (lo<=hi)=true:=decide_eq_true lh
 show Q (.bl (decide (lo<=hi))) H
 rw [z]
 exact q
theorem zFW {k:Nat} {f:Addr} {fd:FuncData} (F:Fun K "__init__" "Mode.__init__" zBb f fd) (B:Bl mg) (am:FnD P w K mg base "copied" ["value","depth"] k spC2 (.int 5)):FnOk P w K mg base CX0 (k + 1) f fd nl8 (zD1 ac):=by
 refine F.ok zFT ?_ ?_
 ·rintro vs H Q E ⟨o,dx,ra,na,sa,pa,aa,rv,nv,pv,m,n0,p0,rfl,_⟩
  rfl
 rintro cdv A outer s H vs Q E hr ⟨o,dx,ra,na,sa,pa,aa,rv,nv,pv,m,n0,p0,rfl,ho,MO,hra,hrv,hna,hnv,hsa,hpa,hpv,haa,q⟩
 refine ⟨_,(zAD (zEl (pvj 0) (zDY am hr rfl (zAA (pvj 1) zAB)) rfl)
  (zAD (zEl (pvj 0) (zDY am hr rfl (zAA (pvj 2) zAB)) rfl)
  (zAD (zEl (pvj 0) (zDY am hr rfl (zAA (pvj 3) zAB)) rfl)
  (zAD (zEl (pvj 0) (zDY am hr rfl (zAA (pvj 4) zAB)) rfl)
  (zAD (zEl (pvj 0) (zDY am hr rfl (zAA (pvj 5) zAB)) rfl)
  (zAH (zEl (pvj 0) (pvj 6) rfl))))))),?_⟩
 try dsimp only [cxOf,Cx.nox,Cx.wish]
 have n3:=MO.n3
 have p6:=MO.p6
 have G0:zBn o H H:=fun _ _ e _=>e
 refine ⟨_,rfl,.inr (.inl ⟨ra,rv,m.rows,5,rfl,(by decide),hra,hrv,MO.few,(fun x hx=>by have:=MO.rows x hx; omega),fun r lr H1 s1 fr er hr=>?_⟩)⟩
 refine ⟨_,rfl,o,ac,dx,_,rfl,(s1 _ _ ho),af.cl,ah.n_rows,(by show 0 < 1000; decide),?_⟩
 have o1:=zAF (H:=H1) (a:=o) (o:=HO.ins ac dx (putF "rows" (.ref r) []))
 have G1:zBn o H (upd H1 o (HO.ins ac dx (putF "rows" (.ref r) []))):=G0.trans ((Same.but s1).trans (zBO o H1 _))
 have T1:zBn o H1 (upd H1 o (HO.ins ac dx (putF "rows" (.ref r) []))):=zBO o H1 _
 have b1:=s1 _ _ ho
 obtain ⟨J1,hJ1⟩:∃ J,J=upd H1 o (HO.ins ac dx (putF "rows" (.ref r) [])):=⟨_,rfl⟩
 rw [<- hJ1] at o1 G1 T1 |-
 refine ⟨_,rfl,.inr (.inr ⟨na,nv,m.nexts,5,rfl,(by decide),(keepB ho G1 hna (fun z=>by cases z)),(TabV.keepB ho G1 hnv),(by have:=MO.nexts.1; omega),(fun x hx=>by have:=MO.nexts.2 x hx; omega),fun n ln H2 s2 fn en hn=>?_⟩)⟩
 refine ⟨_,rfl,o,ac,dx,_,rfl,(s2 _ _ o1),af.cl,ah.n_nexts,(by show 1 < 1000; decide),?_⟩
 have o2:=zAF (H:=H2) (a:=o) (o:=HO.ins ac dx (putF "nexts" (.ref n) (putF "rows" (.ref r) [])))
 have G2:zBn o H (upd H2 o (HO.ins ac dx (putF "nexts" (.ref n) (putF "rows" (.ref r) [])))):=G1.trans ((Same.but s2).trans (zBO o H2 _))
 have T2:zBn o H2 (upd H2 o (HO.ins ac dx (putF "nexts" (.ref n) (putF "rows" (.ref r) [])))):=zBO o H2 _
 have b2:=s2 _ _ o1
 obtain ⟨J2,hJ2⟩:∃ J,J=upd H2 o (HO.ins ac dx (putF "nexts" (.ref n) (putF "rows" (.ref r) []))):=⟨_,rfl⟩
 rw [<- hJ2] at o2 G2 T2 |-
 refine ⟨_,rfl,.inl (.inr (.inl ⟨sa,m.steer,5,rfl,(by decide),(keepB ho G2 hsa (fun z=>by cases z)),(by have:=MO.steer; omega),fun s H3 s3 fs es=>?_⟩))⟩
 refine ⟨_,rfl,o,ac,dx,_,rfl,(s3 _ _ o2),af.cl,ah.n_steer,(by show 2 < 1000; decide),?_⟩
 have o3:=zAF (H:=H3) (a:=o) (o:=HO.ins ac dx (putF "steer" (.ref s) (putF "nexts" (.ref n) (putF "rows" (.ref r) []))))
 have G3:zBn o H (upd H3 o (HO.ins ac dx (putF "steer" (.ref s) (putF "nexts" (.ref n) (putF "rows" (.ref r) []))))):=G2.trans ((Same.but s3).trans (zBO o H3 _))
 have T3:zBn o H3 (upd H3 o (HO.ins ac dx (putF "steer" (.ref s) (putF "nexts" (.ref n) (putF "rows" (.ref r) []))))):=zBO o H3 _
 have b3:=s3 _ _ o2
 obtain ⟨J3,hJ3⟩:∃ J,J=upd H3 o (HO.ins ac dx (putF "steer" (.ref s) (putF "nexts" (.ref n) (putF "rows" (.ref r) [])))):=⟨_,rfl⟩
 rw [<- hJ3] at o3 G3 T3 |-
 refine ⟨_,rfl,.inr (.inr ⟨pa,pv,m.push,5,rfl,(by decide),(keepB ho G3 hpa (fun z=>by cases z)),(TabV.keepB ho G3 hpv),(by have:=MO.push.1; omega),(fun x hx=>by have:=MO.push.2 x hx; omega),fun p lp H4 s4 fp ep hp=>?_⟩)⟩
 refine ⟨_,rfl,o,ac,dx,_,rfl,(s4 _ _ o3),af.cl,ah.n_push,(by show 3 < 1000; decide),?_⟩
 have o4:=zAF (H:=H4) (a:=o) (o:=HO.ins ac dx (putF "push" (.ref p) (putF "steer" (.ref s) (putF "nexts" (.ref n) (putF "rows" (.ref r) [])))))
 have G4:zBn o H (upd H4 o (HO.ins ac dx (putF "push" (.ref p) (putF "steer" (.ref s) (putF "nexts" (.ref n) (putF "rows" (.ref r) [])))))):=G3.trans ((Same.but s4).trans (zBO o H4 _))
 have T4:zBn o H4 (upd H4 o (HO.ins ac dx (putF "push" (.ref p) (putF "steer" (.ref s) (putF "nexts" (.ref n) (putF "rows" (.ref r) [])))))):=zBO o H4 _
 have b4:=s4 _ _ o3
 obtain ⟨J4,hJ4⟩:∃ J,J=upd H4 o (HO.ins ac dx (putF "push" (.ref p) (putF "steer" (.ref s) (putF "nexts" (.ref n) (putF "rows" (.ref r) []))))):=⟨_,rfl⟩
 rw [<- hJ4] at o4 G4 T4 |-
 refine ⟨_,rfl,.inl (.inr (.inl ⟨aa,m.add,5,rfl,(by decide),(keepB ho G4 haa (fun z=>by cases z)),(by have:=MO.add; omega),fun a H5 s5 fa ea=>?_⟩))⟩
 refine ⟨_,rfl,o,ac,dx,_,rfl,(s5 _ _ o4),af.cl,ah.n_add,(by show 4 < 1000; decide),?_⟩
 have o5:=zAF (H:=H5) (a:=o) (o:=HO.ins ac dx (putF "add" (.ref a) (putF "push" (.ref p) (putF "steer" (.ref s) (putF "nexts" (.ref n) (putF "rows" (.ref r) []))))))
 have G5:zBn o H (upd H5 o (HO.ins ac dx (putF "add" (.ref a) (putF "push" (.ref p) (putF "steer" (.ref s) (putF "nexts" (.ref n) (putF "rows" (.ref r) []))))))):=G4.trans ((Same.but s5).trans (zBO o H5 _))
 have T5:zBn o H5 (upd H5 o (HO.ins ac dx (putF "add" (.ref a) (putF "push" (.ref p) (putF "steer" (.ref s) (putF "nexts" (.ref n) (putF "rows" (.ref r) []))))))):=zBO o H5 _
 have b5:=s5 _ _ o4
 obtain ⟨J5,hJ5⟩:∃ J,J=upd H5 o (HO.ins ac dx (putF "add" (.ref a) (putF "push" (.ref p) (putF "steer" (.ref s) (putF "nexts" (.ref n) (putF "rows" (.ref r) [])))))):=⟨_,rfl⟩
 rw [<- hJ5] at o5 G5 T5 |-
 refine ⟨_,rfl,_,rfl,o,ac,dx,_,rfl,o5,af.cl,ah.n_divisor,(by show 5 < 1000; decide),?_⟩
 have e6:upd J5 o (HO.ins ac dx (putF "divisor" (.int m.div) (putF "add" (.ref a) (putF "push" (.ref p) (putF "steer" (.ref s) (putF "nexts" (.ref n) (putF "rows" (.ref r) []))))))) o=some (.ins ac dx (zNA (.ref r) (.ref n) (.ref s) (.ref p) (.ref a) m.div)):=zAF.trans (by rw [zMA])
 have T6:zBn o J5 (upd J5 o (HO.ins ac dx (putF "divisor" (.int m.div) (putF "add" (.ref a) (putF "push" (.ref p) (putF "steer" (.ref s) (putF "nexts" (.ref n) (putF "rows" (.ref r) [])))))))):=zBO o J5 _
 obtain ⟨J6,hJ6⟩:∃ J,J=upd J5 o (HO.ins ac dx (putF "divisor" (.int m.div) (putF "add" (.ref a) (putF "push" (.ref p) (putF "steer" (.ref s) (putF "nexts" (.ref n) (putF "rows" (.ref r) []))))))):=⟨_,rfl⟩
 rw [<- hJ6] at e6 T6 |-
 have U5:zBn o H5 J6:=T5.trans T6
 have U4:zBn o H4 J6:=T4.trans ((Same.but s5).trans U5)
 have U3:zBn o H3 J6:=T3.trans ((Same.but s4).trans U4)
 have U2:zBn o H2 J6:=T2.trans ((Same.but s3).trans U3)
 have U1:zBn o H1 J6:=T1.trans ((Same.but s2).trans U2)
 have G6:zBn o H J6:=G5.trans T6
 have nH:∀ {k:Nat} {Hk:Hp} {x:HO},zBn o H Hk->Hk o=some x->∀ {vs:List V} {tab:List (List Int)} {Hj:Hp},Paired (NewL Hk Hj) vs tab->zBn o Hj J6->(∃ y,Hj o=some y/\∀ l,HO.lst l≠y)->Paired (NewL H J6) vs tab:=fun G e _ _ _ z U ⟨y,ey,ny⟩=>
  Paired.mapP z fun _ _ ⟨c,e1,e2,e3⟩=>⟨c,e1,zIV G e e2,U _ _ e3 fun w=>by rw [w,ey] at e3; exact ny _ (Option.some.inj e3).symm⟩
 have NI:∀ (fs:List (Str × V)) (l:List V),HO.lst l≠.ins ac dx fs:=fun _ _ z=>by cases z
 refine q ⟨dx,r,lr,n,ln,s,p,lp,a⟩ J6 G6 ⟨e6,keepB b1 U1 er (NI _ _),zBT.keepB b1 U1 hr,keepB b2 U2 en (NI _ _),TabV.keepB b2 U2 (NewL.tab hn),keepB b3 U3 es (NI _ _),keepB b4 U4 ep (NI _ _),TabV.keepB b4 U4 (NewL.tab hp),keepB b5 U5 ea (NI _ _)⟩ fr (zIV G1 o1 fn) (zIV G2 o2 fs) (zIV G3 o3 fp) (zIV G4 o4 fa) (nH (k:=0) G1 o1 hn U2 ⟨_,b2,NI _⟩) (nH (k:=0) G3 o3 hp U4 ⟨_,b4,NI _⟩)
theorem zJo {k:Nat} {f:Addr} {fd:FuncData} (F:Fun K "is_mode" "is_mode" zDV f fd) (B:Bl mg) (bV:Fn P w K mg base "is_room" ["value","many"] k zFi) (bL:Fn P w K mg base "is_table" ["value","tall","wide"] k zEe) (aA:Fn P w K mg base "is_numbers" ["value","count"] k zC4) (ao:Fn P w K mg base "is_whole" ["thing"] k zCO):FnOk P w K mg base CX0 (k + 1) f fd ["value","many","wide"] (zFk ac):=by
 refine F.ok zJZ ?_ ?_
 ·rintro vs H Q E ⟨v,m,n,p,rfl,_⟩
  rfl
 rintro cdv A outer s H vs Q E hr ⟨v,m,n,p,rfl,⟨o,M,rfl,k0⟩,MO,q⟩
 refine ⟨_,(zAD (zBc (PW.pt (zEk (zB9 (zBF (zAS (show zDr _ _ (zMc K) from zHq) rfl B.isinstance_ zAT (zAA (pvj 0) (zAA (zN7 af rfl) zAB))))) (zDX (zB9 (zBF (zAG bV hr rfl (zAA (zBl (pvj 0) rfl) (zAA (pvj 1) zAB)))))))) (zAH (zAU zFU)) zAj)
  (zAD (zBc (PW.pt (zEk (zB9 (zBF (zAG bL hr rfl (zAA (zBl (pvj 0) rfl) (zAA (pvj 1) (zAA (pvj 1) zAB)))))) (zDX (zB9 (zBF (zAG bL hr rfl (zAA (zBl (pvj 0) rfl) (zAA (pvj 1) (zAA (pvj 2) zAB))))))))) (zAH (zAU zFU)) zAj)
  (zAD (zBc (PW.pt (zEk (zB9 (zBF (zAG aA hr rfl (zAA (zBl (pvj 0) rfl) (zAA (pvj 1) zAB))))) (zDX (zB9 (zBF (zAG aA hr rfl (zAA (zBl (pvj 0) rfl) (zAA (pvj 1) zAB)))))))) (zAH (zAU zFU)) zAj)
  (zAH (zAU (zDZ (zAG ao hr rfl (zAA (zBl (pvj 0) rfl) zAB)) (zEn (zCH (ji0 zOA) (zBl (pvj 0) rfl) zAE (zAq _))))))))),?_⟩
 try dsimp only [cxOf,Cx.nox,Cx.wish]
 have n3:=MO.n3
 have p6:=MO.p6
 refine ⟨_,rfl,_,_,_,_,rfl,(af.ty k0.ins),zME,_,rfl,iteF ?_⟩
 refine ⟨_,rfl,o,ac,M.dx,_,_,rfl,k0.ins,af.cl,ah.n_rows,rfl,_,rfl,M.r,M.rv,m.rows,n,rfl,k0.hr,k0.hrv,MO.few,MO.rows,(by omega),fun H1 s1=>?_⟩
 refine ⟨_,rfl,iteF ?_⟩
 refine ⟨_,rfl,o,ac,M.dx,_,_,rfl,(s1 _ _ k0.ins),af.cl,ah.n_nexts,rfl,_,rfl,_,rfl,M.n,M.nv,m.nexts,n,(by rw [MO.nexts.1]; rfl),s1 _ _ k0.hn,k0.hnv.same s1,(by have:=MO.nexts.1; omega),MO.nexts.2,(by omega),fun H2 s2=>?_⟩
 have s12:=s1.trans s2
 refine ⟨_,rfl,iteF ?_⟩
 refine ⟨_,rfl,o,ac,M.dx,_,_,rfl,(s12 _ _ k0.ins),af.cl,ah.n_push,rfl,_,rfl,_,rfl,M.p,M.pv,m.push,p,(by rw [MO.push.1]; rfl),s12 _ _ k0.hp,k0.hpv.same s12,(by have:=MO.push.1; omega),MO.push.2,(by omega),fun H3 s3=>?_⟩
 have s13:=s12.trans s3
 refine ⟨_,rfl,iteF ?_⟩
 refine ⟨_,rfl,o,ac,M.dx,_,_,rfl,(s13 _ _ k0.ins),af.cl,ah.n_steer,rfl,_,rfl,M.s,m.steer,(by rw [MO.steer]; rfl),s13 _ _ k0.hs,(by have:=MO.steer; omega),fun H4 s4=>?_⟩
 have s14:=s13.trans s4
 refine ⟨_,rfl,iteF ?_⟩
 refine ⟨_,rfl,o,ac,M.dx,_,_,rfl,(s14 _ _ k0.ins),af.cl,ah.n_add,rfl,_,rfl,M.a,m.add,(by rw [MO.add]; rfl),s14 _ _ k0.ha,(by have:=MO.add; omega),fun H5 s5=>?_⟩
 have s15:=s14.trans s5
 refine ⟨_,rfl,iteF ?_⟩
 refine ⟨_,rfl,o,ac,M.dx,_,_,rfl,(s15 _ _ k0.ins),af.cl,ah.n_divisor,rfl,m.div,rfl,_,rfl,iteT ?_⟩
 refine ⟨_,rfl,o,ac,M.dx,_,_,rfl,(s15 _ _ k0.ins),af.cl,ah.n_divisor,rfl,_,_,rfl,rfl,?_⟩
 have z:decide (m.div ≥ 1)=true:=decide_eq_true MO.div
 show Q (.bl (decide (m.div ≥ 1))) H5
 rw [z]
 exact q _ s15
theorem zII {k:Nat} {f:Addr} {fd:FuncData} (F:Fun K "is_sound" "is_sound" zCc f fd) (B:Bl mg) (ao:Fn P w K mg base "is_whole" ["thing"] k zCO) (bW:Fn P w K mg base "is_push" ["value"] k zFj) (bX:Fn P w K mg base "is_mode" ["value","many","wide"] k (zFk ac)):FnOk P w K mg base CX0 (k + 1) f fd ["many","pushes","modes"] (zEf ac):=by
 refine F.ok zH4 ?_ ?_
 ·rintro vs H Q E ⟨pa,ma,pv,mv,n,bs,ms,rfl,_⟩
  rfl
 rintro cdv A outer s H vs Q E hr ⟨pa,ma,pv,mv,n,bs,ms,rfl,hpa,hpv,hma,hmv,TO,q⟩
 refine ⟨_,(zAD (zBc (PW.pt (zEk (zB9 (zBF (zAG ao hr rfl (zAA (pvj 0) zAB)))) (zEk (zAx (ji0 zIA) (pvj 0) zAE (zAq _)) (zDX (zAx (ji0 zHa) (pvj 0) (zFr rfl B.MOST_NUMBERS_) (zAq _)))))) (zAH (zAU zFU)) zAj)
  (zAD (zBc (PW.pt (zEk (zB9 (zBF (zAS zDt rfl B.isinstance_ zAT (zAA (pvj 1) (zAA (zBr (v:=.ty "list") (u:=.type "list") rfl B.list_ zAm rfl) zAB))))) (zDX (zB9 (zBF (zAS (zDE rfl) rfl B.all_ zCn (zAA (zAr (own:=["push"]) (caps:=[]) (zCq rfl) rfl (zBC (pvj 1)) (fun _ _ _ _=>zAJ (i:=0) (show (["push"]:List Str).Nodup by decide +kernel) rfl (Or.inl rfl)) (fun _ _ _ _=>(zAG bW hr rfl (zAA (pvj 0) zAB)))) zAB))))))) (zAH (zAU zFU)) zAj)
  (zAD (zBc (PW.pt (zEk (zB9 (zBF (zAS zDt rfl B.isinstance_ zAT (zAA (pvj 2) (zAA (zBr (v:=.ty "list") (u:=.type "list") rfl B.list_ zAm rfl) zAB))))) (zDX (zAx zEG (zAS jlen rfl B.len_ zAv (zAA (pvj 2) zAB)) zAE (zAq _))))) (zAH (zAU zFU)) zAj)
  (zAH (zAU (zAS (zDE rfl) rfl B.all_ zCn (zAA (zAr (own:=["mode"]) (caps:=[(0,"many"),(1,"pushes")]) (zBm (S:=zAC zCc) (N:=["many","pushes","modes"]) ⟨_,rfl⟩) rfl (zBC (pvj 2)) (fun _ _ _ _=>zAJ (i:=0) (show (["mode","many","pushes"]:List Str).Nodup by decide +kernel) rfl (Or.inl rfl)) (fun _ _ _ _=>(zAG bX hr rfl (zAA (pvj 0) (zAA (pvj 1) (zAA (zAS (show zDr _ _ (JLen K) from jlen) rfl B.len_ zAv (zAA (pvj 2) zAB)) zAB)))))) zAB))))))),?_⟩
 try dsimp only [cxOf,Cx.nox,Cx.wish]
 have n1:=TO.n1
 have n3:=TO.n3
 have b6:=TO.b6
 have m1:=TO.m1
 have m40:=TO.m40
 have lp:pv.length=bs.length:=Paired.length hpv
 have lm:mv.length=ms.length:=Paired.length hmv
 refine ⟨_,rfl,(n:Int),rfl,_,rfl,iteF ?_⟩
 refine ⟨_,rfl,_,_,rfl,rfl,_,rfl,zB0 (decide_eq_false (show ¬ ((n:Int) < 1) by omega)) ?_⟩
 refine ⟨_,rfl,_,_,rfl,rfl,_,rfl,zB0 (decide_eq_false (show ¬ ((n:Int) > 3) by omega)) ?_⟩
 refine ⟨_,rfl,_,_,_,_,rfl,.lst hpa,zBD K,_,rfl,iteF ?_⟩
 refine ⟨_,rfl,pa,rfl,⟨_,SqL.of hpa⟩,zBQ (K:=K) (a:=pa) (xs:=pv) (fun i ys σ H'=>ys=(List.replicate i true).map V.bl/\(∃ o,σ=[o])/\H'=H)
  ⟨rfl,⟨none,rfl⟩,rfl⟩ (fun i ys σ H' hi ⟨e1,_,e3⟩=>⟨by rw [e3]; exact SqL.of hpa,by rw [e1,List.length_map,List.length_replicate]; exact Nat.le_refl _⟩) (zAh (by omega)) ?_ ?_⟩
 ·rintro i x ys σ H' hi ⟨rfl,⟨o,rfl⟩,rfl⟩
  obtain ⟨b,hb,c,rfl,ec⟩:=zAc hpv hi
  refine ⟨_,rfl,c,b.1,b.2,rfl,ec,TO.bok b (List.mem_of_getElem? hb),?_,⟨_,rfl⟩,rfl⟩
  rw [List.replicate_succ',List.map_append]
  rfl
 rintro ys σ H1 ⟨rfl,⟨o,rfl⟩,rfl⟩ l1 hl1
 refine ⟨l1,List.replicate _ true,rfl,SqL.of zAF,?_⟩
 rw [zDq]
 refine ⟨_,rfl,iteF ?_⟩
 have s1:=zAI hl1 (HO.lst ((List.replicate pv.length true).map V.bl))
 obtain ⟨H2,hH2⟩:∃ H2,H2=upd H1 l1 (HO.lst ((List.replicate pv.length true).map V.bl)):=⟨_,rfl⟩
 rw [<- hH2] at s1 |-
 have hma2:=s1 _ _ hma
 refine ⟨_,rfl,_,_,_,_,rfl,.lst hma2,zBD K,_,rfl,iteF ?_⟩
 refine ⟨_,rfl,ma,_,rfl,.inl (SqL.of hma2),rfl,_,rfl,zB0 (zC9 (by omega)) ?_⟩
 refine ⟨_,rfl,ma,rfl,⟨_,SqL.of hma2⟩,zBQ (K:=K) (a:=ma) (xs:=mv) (fun i ys σ H'=>ys=(List.replicate i true).map V.bl/\(∃ o,σ=[o,some (.int (n:Int)),some (.ref pa)])/\Same H2 H')
  ⟨rfl,⟨none,rfl⟩,Same.refl _⟩ (fun i ys σ H' hi ⟨e1,_,sm⟩=>⟨SqL.of (sm _ _ hma2),by rw [e1,List.length_map,List.length_replicate]; exact Nat.le_refl _⟩) (zAh (by omega)) ?_ ?_⟩
 ·rintro i x ys σ H' hi ⟨rfl,⟨o,rfl⟩,sm⟩
  obtain ⟨md,hmd,hx⟩:=zAc hmv hi
  have s2:=s1.trans sm
  refine ⟨_,rfl,_,rfl,_,rfl,pa,_,rfl,.inl (SqL.of (s2 _ _ hpa)),x,md,n,bs.length,(by rw [lp]; rfl),hx.same s2,TO.mok md (List.mem_of_getElem? hmd),fun H3 s3=>⟨?_,⟨_,rfl⟩,sm.trans s3⟩⟩
  rw [List.replicate_succ',List.map_append]
  rfl
 rintro ys σ H3 ⟨rfl,⟨o,rfl⟩,sm⟩ l hl
 refine ⟨l,List.replicate _ true,rfl,SqL.of zAF,?_⟩
 rw [zDq]
 exact q _ (s1.trans (sm.trans (zAI hl _)))
theorem zFF {k:Nat} {f:Addr} {fd:FuncData} (F:Fun K "__init__" "Thing.__init__" zBN f fd) (B:Bl mg) (bY:Fn P w K mg base "is_sound" ["many","pushes","modes"] k (zEf ac)):FnOk P w K mg base CX0 (k + 1) f fd ["self","many","pushes","modes"] (zDg ae ac):=by
 refine F.ok zE6 ?_ ?_
 ·rintro vs H Q E ⟨o,dx,pa,ma,pv,mv,n,bs,ms,rfl,_⟩
  rfl
 rintro cdv A outer s H vs Q E hr ⟨o,dx,pa,ma,pv,mv,n,bs,ms,rfl,ho,hpa,hpv,hma,hmv,TO,q⟩
 refine ⟨_,(zAD (zBc (zB9 (zBF (zAG bY hr rfl (zAA (pvj 1) (zAA (pvj 2) (zAA (pvj 3) zAB)))))) (zAH zFq) zAj)
  (zAD (zBc (PW.pt (zEk (zAx (ji0 zHa) (zAS jlen rfl B.len_ zAv (zAA (pvj 2) zAB)) (zFr rfl B.MOST_PUSHES_) (zAq _)) (zDX (zAx (ji0 zHa) (zAS jlen rfl B.len_ zAv (zAA (pvj 3) zAB)) (zFr rfl B.MOST_MODES_) (zAq _))))) (zAH zFq) zAj)
  (zAD (zEl (pvj 0) (pvj 1) rfl)
  (zAD (zEl (pvj 0) (zAi zAy rfl B.list_ zAm (zAA (pvj 2) zAB)) rfl)
  (zAH (zEl (pvj 0) (zAi zAy rfl B.list_ zAm (zAA (pvj 3) zAB)) rfl)))))),?_⟩
 try dsimp only [cxOf,Cx.nox,Cx.wish]
 have b6:=TO.b6
 have m40:=TO.m40
 have lp:pv.length=bs.length:=Paired.length hpv
 have lm:mv.length=ms.length:=Paired.length hmv
 refine ⟨_,rfl,_,rfl,_,rfl,pa,ma,pv,mv,n,bs,ms,rfl,hpa,hpv,hma,hmv,TO,fun H1 s1=>?_⟩
 refine ⟨_,rfl,iteF ?_⟩
 refine ⟨_,rfl,pa,_,rfl,.inl (SqL.of (s1 _ _ hpa)),_,_,rfl,rfl,_,rfl,zB0 (decide_eq_false (show ¬ ((pv.length:Int) > 6) by omega)) ?_⟩
 refine ⟨_,rfl,ma,_,rfl,.inl (SqL.of (s1 _ _ hma)),_,_,rfl,rfl,_,rfl,zB0 (decide_eq_false (show ¬ ((mv.length:Int) > 40) by omega)) ?_⟩
 have ho1:=s1 _ _ ho
 refine ⟨_,rfl,_,rfl,o,ae,dx,_,rfl,ho1,ag.cl,ai.n_many,(by show 0 < 1000; decide),?_⟩
 have NI:∀ (fs:List (Str × V)) (l:List V),HO.lst l≠.ins ae dx fs:=fun _ _ z=>by cases z
 have e2:=zAF (H:=H1) (a:=o) (o:=HO.ins ae dx (putF "many" (.int (n:Int)) []))
 have T2:zBn o H1 (upd H1 o (HO.ins ae dx (putF "many" (.int (n:Int)) []))):=zBO o H1 _
 obtain ⟨H2,hH2⟩:∃ H2,H2=upd H1 o (HO.ins ae dx (putF "many" (.int (n:Int)) [])):=⟨_,rfl⟩
 rw [<- hH2] at e2 T2 |-
 have hpa2:=keepB ho1 T2 (s1 _ _ hpa) (NI _ _)
 have hma2:=keepB ho1 T2 (s1 _ _ hma) (NI _ _)
 refine ⟨_,rfl,pa,pv,rfl,.inl (SqL.of hpa2),fun kp hkp=>?_⟩
 have z3:=zAI hkp (HO.lst pv)
 have ekp:=zAF (H:=H2) (a:=kp) (o:=HO.lst pv)
 have G2:zBn o H H2:=(Same.but s1).trans T2
 have nkp:=zIV G2 e2 hkp
 obtain ⟨H3,hH3⟩:∃ H3,H3=upd H2 kp (HO.lst pv):=⟨_,rfl⟩
 rw [<- hH3] at z3 ekp |-
 refine ⟨_,rfl,o,ae,dx,_,rfl,(z3 _ _ e2),ag.cl,ai.n_kept_pushes,(by show 1 < 1000; decide),?_⟩
 have e4:=zAF (H:=H3) (a:=o) (o:=HO.ins ae dx (putF "kept_pushes" (.ref kp) (putF "many" (.int (n:Int)) [])))
 have T4:zBn o H3 (upd H3 o (HO.ins ae dx (putF "kept_pushes" (.ref kp) (putF "many" (.int (n:Int)) [])))):=zBO o H3 _
 obtain ⟨H4,hH4⟩:∃ H4,H4=upd H3 o (HO.ins ae dx (putF "kept_pushes" (.ref kp) (putF "many" (.int (n:Int)) []))):=⟨_,rfl⟩
 rw [<- hH4] at e4 T4 |-
 have e23:=z3 _ _ e2
 have hma4:=keepB e23 T4 (z3 _ _ hma2) (NI _ _)
 have hkp4:=keepB e23 T4 ekp (NI _ _)
 refine ⟨_,rfl,ma,mv,rfl,.inl (SqL.of hma4),fun km hkm=>?_⟩
 have z5:=zAI hkm (HO.lst mv)
 have ekm:=zAF (H:=H4) (a:=km) (o:=HO.lst mv)
 have G4:zBn o H H4:=G2.trans ((Same.but z3).trans T4)
 have nkm:=zIV G4 e4 hkm
 have nkk:kp≠km:=zAo hkp4 hkm
 obtain ⟨H5,hH5⟩:∃ H5,H5=upd H4 km (HO.lst mv):=⟨_,rfl⟩
 rw [<- hH5] at z5 ekm |-
 have e45:=z5 _ _ e4
 refine ⟨_,rfl,o,ae,dx,_,rfl,(z5 _ _ e4),ag.cl,ai.n_kept_modes,(by show 2 < 1000; decide),?_⟩
 have T6:zBn o H5 (upd H5 o (HO.ins ae dx (putF "kept_modes" (.ref km) (putF "kept_pushes" (.ref kp) (putF "many" (.int (n:Int)) []))))):=zBO o H5 _
 exact q kp km _ (G4.trans ((Same.but z5).trans T6)) nkp nkm nkk zAF (keepB e45 T6 (z5 _ _ hkp4) (NI _ _)) (keepB e45 T6 ekm (NI _ _))
theorem zF7 {k:Nat} {f:Addr} {fd:FuncData} (F:Fun K "pushes" "Thing.pushes" zBq f fd) (B:Bl mg):FnOk P w K mg base CX0 (k + 1) f fd ["self"] (zEb ae ac):=by
 refine F.ok zF4 ?_ ?_
 ·rintro vs H Q E ⟨o,kp,km,n,bs,ms,pv,mv,rfl,_⟩
  rfl
 rintro cdv A outer s H vs Q E hr ⟨o,kp,km,n,bs,ms,pv,mv,rfl,TA,q⟩
 refine ⟨_,(zAH (zAU (zAi zAy rfl B.list_ zAm (zAA (zBl (pvj 0) rfl) zAB)))),?_⟩
 try dsimp only [cxOf,Cx.nox,Cx.wish]
 obtain ⟨dx,ins⟩:=TA.ins
 refine ⟨_,rfl,o,ae,dx,_,_,rfl,ins,ag.cl,ai.n_kept_pushes,rfl,kp,pv,rfl,.inl (SqL.of TA.hp),fun l hl=>?_⟩
 exact q l _ (zAI hl _) hl zAF
theorem zGZ {k:Nat} {f:Addr} {fd:FuncData} (F:Fun K "modes" "Thing.modes" zB7 f fd) (B:Bl mg):FnOk P w K mg base CX0 (k + 1) f fd ["self"] (zG2 ae ac):=by
 refine F.ok zGW ?_ ?_
 ·rintro vs H Q E ⟨o,kp,km,n,bs,ms,pv,mv,rfl,_⟩
  rfl
 rintro cdv A outer s H vs Q E hr ⟨o,kp,km,n,bs,ms,pv,mv,rfl,TA,q⟩
 refine ⟨_,(zAH (zAU (zAi zAy rfl B.list_ zAm (zAA (zBl (pvj 0) rfl) zAB)))),?_⟩
 try dsimp only [cxOf,Cx.nox,Cx.wish]
 obtain ⟨dx,ins⟩:=TA.ins
 refine ⟨_,rfl,o,ae,dx,_,_,rfl,ins,ag.cl,ai.n_kept_modes,rfl,km,mv,rfl,.inl (SqL.of TA.hm),fun l hl=>?_⟩
 exact q l _ (zAI hl _) hl zAF
theorem zFE {k:Nat} {f:Addr} {fd:FuncData} (F:Fun K "is_plain" "Thing.is_plain" zBM f fd) (B:Bl mg):FnOk P w K mg base CX0 (k + 1) f fd ["self"] (zG1 ae ac):=by
 refine F.ok zE5 ?_ ?_
 ·rintro vs H Q E ⟨o,kp,km,n,bs,ms,pv,mv,rfl,_⟩
  rfl
 rintro cdv A outer s H vs Q E hr ⟨o,kp,km,n,bs,ms,pv,mv,rfl,TA,TO,q⟩
 refine ⟨_,(zAH (zAU (zDZ (zCH zEG (zAS jlen rfl B.len_ zAv (zAA (zBl (pvj 0) rfl) zAB)) zAE (zAq _)) (zEn (zCH zEG (zAS jlen rfl B.len_ zAv (zAA (zBl (zAX zAQ (zBl (pvj 0) rfl) zAE (fun _ _=>rfl)) rfl) zAB)) zAE (zAq _)))))),?_⟩
 try dsimp only [cxOf,Cx.nox,Cx.wish]
 obtain ⟨dx,ins⟩:=TA.ins
 have m1:=TO.m1
 have lm:mv.length=ms.length:=Paired.length TA.hmv
 have hv:mv[0]? = some (mv[0]'(by omega)):=List.getElem?_eq_getElem _
 obtain ⟨md,hmd,ob,M,e0,k0⟩:=zAc TA.hmv hv
 have av:atI mv (0:Int)=some (.ref ob):=zDJ (j:=0) (hv.trans (by rw [e0]))
 have lrv:M.rv.length=md.rows.length:=Paired.length k0.hrv
 have eg:(ms.map MD.rows).getD 0 []=md.rows:=by rw [List.getD_eq_getElem?_getD,List.getElem?_map,hmd]; rfl
 rw [eg] at q
 refine ⟨_,rfl,o,ae,dx,_,_,rfl,ins,ag.cl,ai.n_kept_modes,rfl,km,_,rfl,.inl (SqL.of TA.hm),rfl,_,rfl,?_⟩
 by_cases c:ms.length=1
 ·refine zCU (zDH (by omega)) ?_
  refine ⟨_,rfl,o,ae,dx,_,_,rfl,ins,ag.cl,ai.n_kept_modes,rfl,km,_,0,_,rfl,rfl,SqL.of TA.hm,av,ob,ac,M.dx,_,_,rfl,k0.ins,af.cl,ah.n_rows,rfl,M.r,_,rfl,.inl (SqL.of k0.hr),rfl,?_⟩
  have z:decide (V.int (M.rv.length:Int)=V.int 0)=decide (md.rows=[]):=by
   rw [zMP]
   by_cases h:md.rows=[]
   ·rw [decide_eq_true h,decide_eq_true (by rw [lrv,h]; rfl)]
   ·have:md.rows.length≠0:=fun y=>h (List.length_eq_zero_iff.mp y)
    rw [decide_eq_false h,decide_eq_false (by omega)]
  rw [decide_eq_true c,Bool.true_and,<- z] at q
  exact q
 ·refine zB0 (zC9 (by omega)) ?_
  rw [decide_eq_false c,Bool.false_and] at q
  exact q
end
inductive zIm (vs:List V) (H:Hp) (Q:VK) (E:XK):Prop
 | mk (pl wd nu:Int) (_:vs=[.int pl,.int wd,.int nu]) (_:0<=wd) (_:wd<=100) (_:∀ l H',Same H H'->H l=none->H' l=some (.lst ((zFR pl wd.toNat nu).map V.int))->Q (.ref l) H'):zIm vs H Q E
inductive zFd (vs:List V) (H:Hp) (Q:VK) (E:XK):Prop
 | mk (pl wd nu b:Int) (_:vs=[.int pl,.int wd,.int nu,.int b]) (_:1<=wd) (_:wd<=100) (_:∀ t H',Same H H'->H t=none->H' t=some (.tup ((zFR pl wd.toNat nu++[b]).map V.int))->Q (.ref t) H'):zFd vs H Q E
inductive zJU (K:PySem.W.Frag) (vs:List V) (H:Hp) (Q:VK) (E:XK):Prop
 | mk (a b:Addr) (ns os:List Int) (_:vs=[.ref a,.ref b]) (_:SqE K H a (ns.map V.int)) (_:SqE K H b (os.map V.int)) (_:ns.length=os.length) (_:ns.length<=100) (_:(∀ x∈ns,Bd 2500 x)) (_:(∀ x∈os,Bd 2500 x)) (_:∀ H',Same H H'->Q (.int (sumP ns os)) H'):zJU K vs H Q E
theorem zGx:∀ (ns os:List Int),((ns.zip os).map fun q=>q.1 * q.2).sum=sumP ns os
 | [],_=>by simp [sumP]
 | _ :: _,[]=>by simp [sumP]
 | n :: ns,o :: os=>by simp only [List.zip_cons_cons,List.map_cons,List.sum_cons,sumP,zGx ns os]
structure NLOk (nums:List Int) (ls:List (List Int)) (n:Nat):Prop where
 len:nums.length=ls.length
 row:∀ r∈ls,r.length=n/\∀ x∈r,Bd 2500 x
 num:∀ x∈nums,Bd 2500 x
 few:nums.length<=100
inductive zIq (K:PySem.W.Frag) (vs:List V) (H:Hp) (Q:VK) (E:XK):Prop
 | mk (na rm:Addr) (nums:List Int) (rv:List V) (ls:List (List Int)) (w:Int) (_:vs=[.ref na,.ref rm,.int w]) (_:0<=w) (_:w<=100) (_:SqE K H na (nums.map V.int)) (_:SqL K H rm rv) (_:TabV H rv ls) (_:NLOk nums ls w.toNat) (_:∀ l H',Same H H'->H l=none->H' l=some (.lst (((List.range w.toNat).map (plcL nums ls)).map V.int))->Q (.ref l) H'):zIq K vs H Q E
def zIt (n p:Nat) (ws:List Int) (b:Int) (m:MD):List Int:=((List.range n).map (plcL ws m.nexts)++(List.range p).map (plcL ws m.push))++[m.div * b - sumP ws m.add]
structure MBd (m:MD):Prop where
 nexts:∀ r∈m.nexts,∀ x∈r,Bd 2500 x
 push:∀ r∈m.push,∀ x∈r,Bd 2500 x
 add:∀ x∈m.add,Bd 2500 x
 div:Bd 2500 m.div
inductive zG0 (C CM:Addr) (vs:List V) (H:Hp) (Q:VK) (E:XK):Prop
 | mk (o kp km ra:Addr) (n:Nat) (bs:List (Int × Int)) (ms:List MD) (pv mv:List V) (v:V) (m:MD) (ws:List Int) (b:Int) (_:vs=[.ref o,v,.ref ra]) (_:zA5 C CM H o n bs ms pv mv kp km) (_:zEU CM H v m) (_:MDOk m n bs.length) (_:MBd m) (_:1<=n) (_:n<=3) (_:bs.length<=6) (_:H ra=some (.tup (rowV ws b))) (_:ws.length=n) (_:(∀ x∈ws,Bd 2500 x)) (_:Bd 2500 b) (_:∀ t H',Same H H'->H t=none->H' t=some (.tup ((zIt n bs.length ws b m).map V.int))->Q (.ref t) H'):zG0 C CM vs H Q E
section
variable {P:Program} {w:World} {K:PySem.W.Frag} {mg:Str->Option Value} {base:Heap}
abbrev zF5:Stmt:=top 16
theorem zMz:zAP ["place","wide","number"] ["place","wide","number"] (zAC zF5):=.a
abbrev zD5:Stmt:=top 23
theorem zKP:zAP ["place","many","number","bound"] ["place","many","number","bound"] (zAC zD5):=.a
abbrev zD6:Stmt:=top 18
theorem zKQ:zAP ["numbers","others"] ["numbers","others"] (zAC zD6):=.a
abbrev zCe:Stmt:=top 19
theorem zH5:zAP ["numbers","lists","wide"] ["numbers","lists","wide"] (zAC zCe):=.a
abbrev zE8:Stmt:=top 32
theorem zG7:zAP ["thing","mode","row","numbers","ahead"] ["thing","mode","row"] (zAC zE8):=.a
variable {ac ae:Addr} (af:ClsF K mg "Mode" ac) (ah:zCW K ac) (ag:ClsF K mg "Thing" ae) (ai:zBs K ae)
include af ah ag ai
theorem zM7 {k:Nat} {f:Addr} {fd:FuncData} {dv:Value} (F:FunD K "unit" "unit" zF5 f fd dv) (B:Bl mg):FnOk P w K mg base CX0 (k + 1) f fd ["place","wide","number"] zIm:=by
 refine F.ok zMz ?_ ?_
 ·rintro vs H Q E ⟨pl,wd,nu,rfl,_⟩
  rfl
 rintro cdv A outer s H vs Q E hr ⟨pl,wd,nu,rfl,w0,w1,q⟩
 refine ⟨_,(zAH (zAU (zAr (own:=["other"]) (caps:=[(0,"place"),(2,"number")]) (zBm (S:=zAC zF5) (N:=["place","wide","number"]) ⟨_,rfl⟩) rfl (zAs rfl B.range_ (zAA (pvj 1) zAB)) (fun _ _ _ _=>zAJ (i:=0) (show (["other","place","number"]:List Str).Nodup by decide +kernel) rfl (Or.inl rfl)) (fun _ _ _ _=>(zIy (zAx zEG (pvj 0) (pvj 1) (zAq _)) (pvj 2) zAE))))),?_⟩
 try dsimp only [cxOf,Cx.nox,Cx.wish]
 refine ⟨_,rfl,wd,rfl,(by omega),(by omega),zB8 (lo:=0) (n:=wd.toNat)
  (fun j ys σ H'=>ys=(zFR pl j nu).map V.int/\(∃ o,σ=[o,some (.int pl),some (.int nu)])/\H'=H)
  ⟨rfl,⟨none,rfl⟩,rfl⟩ (fun j ys σ H' ⟨e,_⟩=>by rw [e,List.length_map,zFw]; exact Nat.le_refl _) (zAh (by omega)) ?_ ?_⟩
 ·rintro j ys σ H' hj ⟨rfl,⟨o,rfl⟩,rfl⟩
  refine ⟨_,rfl,_,rfl,rfl,_,rfl,?_⟩
  by_cases e:(j:Int)=pl
  ·refine zCU (decide_eq_true (by rw [<- e,Int.zero_add])) ?_
   refine ⟨_,rfl,?_,⟨_,rfl⟩,rfl⟩
   rw [zGc,if_pos e,List.map_append]
   rfl
  ·refine zB0 (decide_eq_false (fun z=>e (by injection z; omega))) ?_
   refine ⟨?_,⟨_,rfl⟩,rfl⟩
   rw [zGc,if_neg e,List.map_append]
   rfl
 rintro ys σ H' ⟨rfl,⟨o,rfl⟩,rfl⟩ l hl
 exact q l _ (zAI hl _) hl zAF
theorem zKh {k:Nat} {f:Addr} {fd:FuncData} (F:Fun K "single" "single" zD5 f fd) (B:Bl mg) (bZ:FnD P w K mg base "unit" ["place","wide","number"] k zIm (.int 1)):FnOk P w K mg base CX0 (k + 1) f fd ["place","many","number","bound"] zFd:=by
 refine F.ok zKP ?_ ?_
 ·rintro vs H Q E ⟨pl,wd,nu,b,rfl,_⟩
  rfl
 rintro cdv A outer s H vs Q E hr ⟨pl,wd,nu,b,rfl,w0,w1,q⟩
 refine ⟨_,(zAH (zAU (zAK zDw (zAi jtup rfl B.tuple_ zAn (zAA (zAG bZ.fn hr rfl (zAA (pvj 0) (zAA (pvj 1) (zAA (pvj 2) zAB)))) zAB)) (zCA (zAA (pvj 3) zAB))))),?_⟩
 try dsimp only [cxOf,Cx.nox,Cx.wish]
 refine ⟨_,rfl,_,rfl,_,rfl,pl,wd,nu,rfl,(by omega),w1,fun l H1 s1 nl el=>?_⟩
 refine ⟨l,_,rfl,.inl ⟨SqL.of el,fun t ht=>?_⟩⟩
 refine ⟨_,rfl,sz1,fun t2 ht2=>?_⟩
 have ne:(zFR pl wd.toNat nu).map V.int≠[]:=fun z=>by
  have:=congrArg List.length z
  rw [List.length_map,zFw] at this
  simp at this
  omega
 refine ⟨t,t2,_,_,rfl,rfl,SqT.of (zAI ht2 _ _ _ zAF),SqT.of zAF,ne,?_,(fun z=>nomatch z),fun _ p hp=>?_⟩
 ·rw [List.length_map,zFw]
  exact zAh ((by simp; omega))
 have S3:=(s1.trans (zAI ht _)).trans (zAI ht2 (HO.tup [V.int b]))
 refine q p _ (S3.trans (zAI hp _)) (S3.free hp) (zAF.trans ?_)
 rw [List.map_append]
 rfl
theorem zKi {k:Nat} {f:Addr} {fd:FuncData} (F:Fun K "paired" "paired" zD6 f fd) (B:Bl mg):FnOk P w K mg base CX0 (k + 1) f fd ["numbers","others"] (zJU K):=by
 refine F.ok zKQ ?_ ?_
 ·rintro vs H Q E ⟨a,b,ns,os,rfl,_⟩
  rfl
 rintro cdv A outer s H vs Q E hr ⟨a,b,ns,os,rfl,ha,hb,ln,l1,bn,bo,q⟩
 refine ⟨_,(zAH (zAU (zAS (zJF rfl) rfl B.sum_ zHs (zAA (zAr (own:=["number","other"]) (caps:=[]) (zCq rfl) rfl (zFB rfl B.zip_ (zAA (pvj 0) (zAA (pvj 1) zAB))) (fun _ _ _ _=>show PG _ _ (gTup K 2 (zGJ (zEu 0) (zGJ (zEu 1) gNil))) from zDD (n:=2) rfl (zAY (zAJ (i:=0) (show (["number","other"]:List Str).Nodup by decide +kernel) rfl (Or.inl rfl)) (zAY (zAJ (i:=1) (show (["number","other"]:List Str).Nodup by decide +kernel) rfl (Or.inl rfl)) zCQ))) (fun _ _ _ _=>(zAK (ji zAd) (pvj 0) (pvj 1)))) zAB)))),?_⟩
 try dsimp only [cxOf,Cx.nox,Cx.wish]
 refine ⟨_,rfl,_,rfl,a,b,rfl,zEx (K:=K) (a:=a) (b:=b) (xs:=ns.map V.int) (ys:=os.map V.int) ha hb
  (fun i zs σ H'=>zs=(((ns.zip os).take i).map fun q=>q.1 * q.2).map V.int/\(∃ o1 o2,σ=[o1,o2])/\Same H H')
  ⟨rfl,⟨none,none,rfl⟩,Same.refl _⟩ (fun i zs σ H' hi ⟨e1,_,sm⟩=>⟨sm,by rw [e1,List.length_map,List.length_map,List.length_take]; exact Nat.min_le_left _ _⟩) (by rw [List.length_map,List.length_map,ln]; exact Nat.le_refl _) (by rw [List.length_map]; exact zAh (by omega)) ?_ ?_⟩
 ·rintro i x y T zs σ H' hx hy hT ⟨rfl,⟨o1,o2,rfl⟩,sm⟩
  obtain ⟨x0,hx0,rfl⟩:=zBW hx
  obtain ⟨y0,hy0,rfl⟩:=zBW hy
  have s2:=sm.trans (zAI hT (HO.tup [V.int x0,V.int y0]))
  refine ⟨T,_,rfl,SqT.of zAF,rfl,_,_,rfl,_,_,rfl,rfl,?_⟩
  refine ⟨_,rfl,_,rfl,_,_,rfl,rfl,⟨(bn _ (List.mem_of_getElem? hx0)).mono,(bo _ (List.mem_of_getElem? hy0)).mono⟩,?_,⟨_,_,rfl⟩,s2⟩
  have hz:(ns.zip os)[i]? = some (x0,y0):=by rw [List.getElem?_zip_eq_some]; exact ⟨hx0,hy0⟩
  rw [zAa hz,List.map_append,List.map_append]
  rfl
 rintro zs σ H' ⟨rfl,⟨o1,o2,rfl⟩,sm⟩ l hl
 refine ⟨l,_,rfl,SqL.of zAF,?_⟩
 rw [List.take_of_length_le (by rw [List.length_zip,List.length_map]; omega),zGx]
 exact q _ (sm.trans (zAI hl _))
theorem zIN {k:Nat} {f:Addr} {fd:FuncData} (F:Fun K "added_up" "added_up" zCe f fd) (B:Bl mg):FnOk P w K mg base CX0 (k + 1) f fd ["numbers","lists","wide"] (zIq K):=by
 refine F.ok zH5 ?_ ?_
 ·rintro vs H Q E ⟨na,rm,nums,rv,ls,w,rfl,_⟩
  rfl
 rintro cdv A outer s H vs Q E hr ⟨na,rm,nums,rv,ls,w,rfl,w0,w1,hna,hrm,hrv,RN,q⟩
 refine ⟨_,(zAH (zAU (zAr (own:=["place"]) (caps:=[(0,"numbers"),(1,"lists")]) (zBm (S:=zAC zCe) (N:=["numbers","lists","wide"]) ⟨_,rfl⟩) rfl (zAs rfl B.range_ (zAA (pvj 2) zAB)) (fun _ _ _ _=>zAJ (i:=0) (show (["place","numbers","lists"]:List Str).Nodup by decide +kernel) rfl (Or.inr rfl)) (fun _ _ _ _=>(zAS (show zDr _ _ (fun xs H Q=>∃ (p:Addr) (ns:List Int),xs=[V.ref p]/\SqL K H p (ns.map V.int)/\Q (V.int ns.sum) H) from zJF rfl) rfl B.sum_ zHs (zAA (zAr (own:=["number","part"]) (caps:=[(0,"place")]) (zOS rfl (by decide +kernel) (by decide +kernel) (by decide +kernel) (by decide +kernel)) rfl (show PI _ _ _ (zON K _) from zFB rfl B.zip_ (zAA (pvj 1) (zAA (pvj 2) zAB))) (fun _ _ _ _=>show PG _ _ (gTup K 2 (zGJ (zEu 0) (zGJ (zEu 1) gNil))) from zDD (n:=2) rfl (zAY (zAJ (i:=0) (show (["number","part","place"]:List Str).Nodup by decide +kernel) rfl (Or.inl rfl)) (zAY (zAJ (i:=1) (show (["number","part","place"]:List Str).Nodup by decide +kernel) rfl (Or.inl rfl)) zCQ))) (fun _ _ _ _=>(zAK (ji zAd) (pvj 0) (zAX (show IxR _ (JIx (SqL K)) from zAQ) (pvj 1) (pvj 2) (fun _ _=>rfl))))) zAB)))))),?_⟩
 try dsimp only [cxOf,Cx.nox,Cx.wish]
 have lr:rv.length=ls.length:=Paired.length hrv
 have ln:=RN.len
 have lf:=RN.few
 refine ⟨_,rfl,w,rfl,(by omega),(by omega),zB8 (lo:=0) (n:=w.toNat)
  (fun i ys σ H'=>ys=((List.range i).map (plcL nums ls)).map V.int/\(∃ o,σ=[o,some (.ref na),some (.ref rm)])/\Same H H')
  ⟨rfl,⟨none,rfl⟩,Same.refl _⟩ (fun i ys σ H' ⟨e1,_,_⟩=>by rw [e1,List.length_map,List.length_map,List.length_range]; omega) (zAh (by omega)) ?_ ?_⟩
 ·rintro j ys σ H1 hj ⟨rfl,⟨o,rfl⟩,sm⟩
  have hrm5:=sm.seq hrm
  have hrv5:=TabV.same sm hrv
  have hna5:=hna.same sm
  refine ⟨_,rfl,_,rfl,na,rm,rfl,zEx (K:=K) (a:=na) (b:=rm) (xs:=nums.map V.int) (ys:=rv) hna5 (.inr hrm5)
   (fun i zs σ H'=>zs=(((nums.zip ls).take i).map (fun p=>p.1 * p.2.getD j 0)).map V.int/\(∃ o1 o2,σ=[o1,o2,some (.int (0 + (j:Int)))])/\Same H1 H')
   ⟨rfl,⟨none,none,rfl⟩,Same.refl _⟩ (fun i zs σ H' hi ⟨e1,_,s5⟩=>⟨s5,by rw [e1,List.length_map,List.length_map,List.length_take]; omega⟩)
   (by rw [List.length_map,lr,ln]; exact Nat.le_refl _) (by rw [List.length_map]; exact zAh (by omega)) ?_ ?_⟩
  ·rintro i x y T zs σ H' hx hy hT ⟨rfl,⟨o1,o2,rfl⟩,s5⟩
   obtain ⟨z,hz,rfl⟩:=zBW hx
   obtain ⟨r,hr',a,rfl,ea⟩:=zAc hrv5 hy
   obtain ⟨rl,rb⟩:=RN.row r (List.mem_of_getElem? hr')
   have s6:=s5.trans (zAI hT (HO.tup [V.int z,V.ref a]))
   have hp:=zNu (n:=w.toNat - 1) (r:=r) (by omega) (j:=j) (by omega)
   have ap:atI (r.map V.int) (0 + (j:Int))=some (.int (r.getD j 0)):=(by rw [Int.zero_add]; exact zDJ (by rw [List.getElem?_map,hp]; rfl))
   refine ⟨T,_,rfl,SqT.of zAF,rfl,_,_,rfl,_,_,rfl,rfl,?_⟩
   refine ⟨_,rfl,_,rfl,_,rfl,a,_,_,_,rfl,rfl,SqL.of (s6 _ _ ea),ap,_,_,rfl,rfl,⟨(RN.num _ (List.mem_of_getElem? hz)).mono,(rb _ (List.mem_of_getElem? hp)).mono⟩,?_⟩
   refine ⟨?_,⟨_,_,rfl⟩,s6⟩
   have zg:(nums.zip ls)[i]? = some (z,r):=by rw [List.getElem?_zip_eq_some]; exact ⟨hz,hr'⟩
   rw [zAa zg,List.map_append,List.map_append]
   rfl
  rintro zs σ H' ⟨rfl,⟨o1,o2,rfl⟩,s5⟩ l hl
  have eS:(((nums.zip ls).take (nums.map V.int).length).map (fun p=>p.1 * p.2.getD j 0)).sum=plcL nums ls j:=by
   rw [List.take_of_length_le (by rw [List.length_zip,List.length_map]; omega)]
   rfl
  refine ⟨l,_,rfl,SqL.of zAF,?_⟩
  rw [eS]
  refine ⟨?_,⟨_,rfl⟩,sm.trans (s5.trans (zAI hl _))⟩
  rw [List.range_succ,List.map_append,List.map_append]
  rfl
 rintro ys σ H' ⟨rfl,⟨o,rfl⟩,sm⟩ l hl
 exact q l _ (sm.trans (zAI hl _)) (sm.free hl) zAF
theorem zL4 {k:Nat} {f:Addr} {fd:FuncData} (F:Fun K "reach" "reach" zE8 f fd) (B:Bl mg) (bM:Fn P w K mg base "added_up" ["numbers","lists","wide"] k (zIq K)) (aF:FnM P w K mg base ae "pushes" ["self"] k (zEb ae ac)) (ay:Fn P w K mg base "paired" ["numbers","others"] k (zJU K)):FnOk P w K mg base CX0 (k + 1) f fd ["thing","mode","row"] (zG0 ae ac):=by
 refine F.ok zG7 ?_ ?_
 ·rintro vs H Q E ⟨o,kp,km,ra,n,bs,ms,pv,mv,v,m,ws,b,rfl,_⟩
  rfl
 rintro cdv A outer s H vs Q E hr ⟨o,kp,km,ra,n,bs,ms,pv,mv,v,m,ws,b,rfl,TA,⟨om,M,rfl,k0⟩,MO,MB,n1,n3,b6,hra,lw,bw,bb,q⟩
 have hrm:=hr
 refine ⟨_,(zAD (zAR (i:=3) zG7.nd rfl (Or.inl rfl) (zBP zCI (pvj 2) zCG (zBg (zBU zAu zAE))))
  (zAD (zAR (i:=4) zG7.nd rfl (Or.inl rfl) (zAK jcat (zAG bM hr rfl (zAA (pvj 3) (zAA (zBl (pvj 1) rfl) (zAA (zBl (pvj 0) rfl) zAB)))) (zAG bM hr rfl (zAA (pvj 3) (zAA (zBl (pvj 1) rfl) (zAA (zAS jlen rfl B.len_ zAv (zAA (zEo aF ag hrm (pvj 0)) zAB)) zAB))))))
  (zAH (zAU (zAK zDw (zAi jtup rfl B.tuple_ zAn (zAA (pvj 4) zAB)) (zCA (zAA (zAK (ji0 zCR) (zAK (ji zAd) (zBl (pvj 1) rfl) (zAX zAO (pvj 2) (zBU zAu zAE) (fun _ _=>rfl))) (zAG ay hr rfl (zAA (pvj 3) (zAA (zBl (pvj 1) rfl) zAB)))) zAB))))))),?_⟩
 try dsimp only [cxOf,Cx.nox,Cx.wish]
 obtain ⟨dx,ins⟩:=TA.ins
 have ec:cutV (rowV ws b) none (some (-1))=ws.map V.int:=zDo _ _
 have lp:pv.length=bs.length:=Paired.length TA.hpv
 refine ⟨_,rfl,_,rfl,_,rfl,ra,_,rfl,SqT.of hra,zBV _ _,fun p1 hp1=>?_⟩
 rw [ec]
 obtain ⟨G1,hG1,s1,e1⟩:=zAV (HO.tup (ws.map V.int)) hp1
 rw [hG1]
 have NL:NLOk ws m.nexts ((n:Int)).toNat:=⟨by rw [lw,MO.nexts.1],fun r hr'=>⟨by rw [MO.nexts.2 r hr']; omega,MB.nexts r hr'⟩,bw,by omega⟩
 have NP:NLOk ws m.push ((pv.length:Nat):Int).toNat:=⟨by rw [lw,MO.push.1],fun r hr'=>⟨by rw [MO.push.2 r hr',lp]; omega,MB.push r hr'⟩,bw,by omega⟩
 refine ⟨_,rfl,_,rfl,om,ac,M.dx,_,_,rfl,(s1 _ _ k0.ins),af.cl,ah.n_nexts,rfl,_,rfl,o,ae,dx,_,_,rfl,(s1 _ _ ins),ag.cl,ai.n_many,rfl,p1,M.n,ws,M.nv,m.nexts,(n:Int),rfl,(by omega),(by omega),.inl (SqT.of e1),SqL.of (s1 _ _ k0.hn),TabV.same s1 k0.hnv,NL,fun l1 G2 s2 n2 el1=>?_⟩
 have s12:=s1.trans s2
 refine ⟨_,rfl,_,rfl,om,ac,M.dx,_,_,rfl,(s12 _ _ k0.ins),af.cl,ah.n_push,rfl,_,rfl,o,dx,_,rfl,(s12 _ _ ins),rfl,o,kp,km,n,bs,ms,pv,mv,rfl,TA.same s12,fun l2 G3 s3 _ el2=>?_⟩
 have s13:=s12.trans s3
 refine ⟨l2,_,rfl,.inl (SqL.of el2),?_⟩
 refine ⟨p1,M.p,ws,M.pv,m.push,_,rfl,(by omega),(by omega),.inl (SqT.of ((s2.trans s3) _ _ e1)),SqL.of (s13 _ _ k0.hp),TabV.same s13 k0.hpv,NP,fun l3 G4 s4 _ el3=>?_⟩
 have s14:=s13.trans s4
 refine ⟨l1,l3,_,_,rfl,rfl,(s3.trans s4) _ _ el1,el3,?_,fun p4 hp4=>?_⟩
 ·simp only [List.length_map,List.length_range]
  exact zAh (by omega)
 rw [<- List.map_append]
 have s5:=zAI hp4 (HO.lst (((List.range (n:Int).toNat).map (plcL ws m.nexts)++(List.range ((pv.length:Nat):Int).toNat).map (plcL ws m.push)).map V.int))
 have e4:=zAF (H:=G4) (a:=p4) (o:=HO.lst (((List.range (n:Int).toNat).map (plcL ws m.nexts)++(List.range ((pv.length:Nat):Int).toNat).map (plcL ws m.push)).map V.int))
 have s15:=s14.trans s5
 refine ⟨_,rfl,p4,_,rfl,.inl ⟨SqL.of e4,fun t5 ht5=>?_⟩⟩
 have s6:=zAI ht5 (HO.tup (((List.range (n:Int).toNat).map (plcL ws m.nexts)++(List.range ((pv.length:Nat):Int).toNat).map (plcL ws m.push)).map V.int))
 have e5:=zAF (H:=upd G4 p4 (HO.lst (((List.range (n:Int).toNat).map (plcL ws m.nexts)++(List.range ((pv.length:Nat):Int).toNat).map (plcL ws m.push)).map V.int))) (a:=t5) (o:=HO.tup (((List.range (n:Int).toNat).map (plcL ws m.nexts)++(List.range ((pv.length:Nat):Int).toNat).map (plcL ws m.push)).map V.int))
 have s16:=s15.trans s6
 have sP:=(s2.trans s3).trans (s4.trans (s5.trans s6))
 refine ⟨_,rfl,om,ac,M.dx,_,_,rfl,(s16 _ _ k0.ins),af.cl,ah.n_divisor,rfl,_,rfl,_,rfl,ra,_,_,_,rfl,rfl,SqT.of (s16 _ _ hra),zCE _ _,_,_,rfl,rfl,⟨MB.div.mono,bb.mono⟩,?_⟩
 refine ⟨_,rfl,_,rfl,om,ac,M.dx,_,_,rfl,(s16 _ _ k0.ins),af.cl,ah.n_add,rfl,p1,M.a,ws,m.add,rfl,.inl (SqT.of (sP _ _ e1)),.inr (SqL.of (s16 _ _ k0.ha)),(by rw [lw,MO.add]),(by omega),bw,MB.add,fun G6 s7=>?_⟩
 have s17:=s16.trans s7
 refine ⟨_,_,rfl,rfl,sz1,fun t7 ht7=>?_⟩
 refine ⟨t5,t7,_,_,rfl,rfl,SqT.of (zAI ht7 _ _ _ (s7 _ _ e5)),SqT.of zAF,(fun z=>?_),?_,(fun z=>nomatch z),fun _ p8 hp8=>?_⟩
 ·have:=congrArg List.length z
  simp at this
  omega
 ·simp only [List.length_map,List.length_append,List.length_range]
  exact zAh ((by simp; omega))
 have s18:=s17.trans (zAI ht7 (HO.tup [V.int (m.div * b - sumP ws m.add)]))
 refine q p8 _ (s18.trans (zAI hp8 _)) (s18.free hp8) (zAF.trans ?_)
 show some (HO.tup (_++[V.int (m.div * b - sumP ws m.add)]))=_
 unfold zIt
 simp only [List.map_append,lp,Int.toNat_natCast]
 rfl
end
theorem zGN (xs:List V) (v:V) {n:Nat} (h:n<=xs.length):cutV (xs++[v]) (some (n:Int)) (some (-1))=xs.drop n/\¬ (HT.sIx (xs++[v]).length 0 (some (n:Int))=0/\HT.sIx (xs++[v]).length (xs++[v]).length (some (-1))=(xs++[v]).length):=by
 have e1:HT.sIx (xs++[v]).length 0 (some (n:Int))=n:=by
  have:HT.sIx (xs++[v]).length 0 (some (n:Int))=min n (xs++[v]).length:=HT.sIx_nat _ 0 n
  rw [List.length_append] at this |-
  exact this.trans (by omega)
 have e2:HT.sIx (xs++[v]).length (xs++[v]).length (some (-1))=xs.length:=by
  show (if (-1:Int) < 0 then ((-1:Int) + ((xs++[v]).length:Int)).toNat else min (-1:Int).toNat (xs++[v]).length)=xs.length
  rw [if_pos (by decide),List.length_append,List.length_singleton]
  omega
 constructor
 ·unfold cutV
  rw [e1,e2,List.drop_append_of_le_length h,List.take_append_of_le_length (by rw [List.length_drop]; omega),List.take_of_length_le (by rw [List.length_drop]; omega)]
 ·rintro ⟨_,a⟩
  rw [e2,List.length_append,List.length_singleton] at a
  omega
theorem zLS (xs:List V) {n:Nat} (h:n < xs.length):cutV xs none (some (n:Int))=xs.take n/\¬ (HT.sIx xs.length 0 none=0/\HT.sIx xs.length xs.length (some (n:Int))=xs.length):=by
 have e1:HT.sIx xs.length 0 none=0:=rfl
 have e2:HT.sIx xs.length xs.length (some (n:Int))=n:=by
  have:HT.sIx xs.length xs.length (some (n:Int))=min n xs.length:=HT.sIx_nat _ _ n
  exact this.trans (by omega)
 constructor
 ·unfold cutV
  rw [e1,e2,List.drop_zero,Nat.sub_zero]
 ·rintro ⟨_,a⟩
  rw [e2] at a
  omega
theorem zGM (xs:List V) (u v:V):cutV (xs++[u,v]) none (some (-2))=xs/\¬ (HT.sIx (xs++[u,v]).length 0 none=0/\HT.sIx (xs++[u,v]).length (xs++[u,v]).length (some (-2))=(xs++[u,v]).length):=by
 have e1:HT.sIx (xs++[u,v]).length 0 none=0:=rfl
 have l:(xs++[u,v]).length=xs.length + 2:=by rw [List.length_append]; rfl
 have e2:HT.sIx (xs++[u,v]).length (xs++[u,v]).length (some (-2))=xs.length:=by
  show (if (-2:Int) < 0 then ((-2:Int) + ((xs++[u,v]).length:Int)).toNat else min (-2:Int).toNat (xs++[u,v]).length)=xs.length
  rw [if_pos (by decide),l]
  omega
 constructor
 ·unfold cutV
  rw [e1,e2]
  simp
 ·rintro ⟨_,a⟩
  rw [e2,l] at a
  omega
def zCr (us:List Int) (bs:List (Int × Int)):List Int:=(us.zip bs).map fun q=>if q.1 > 0 then q.2.2 else q.2.1
theorem zFv {us:List Int} {bs:List (Int × Int)} (h:us.length=bs.length):(zCr us bs).length=us.length:=by
 unfold zCr
 rw [List.length_map,List.length_zip,<- h,Nat.min_self]
theorem zIh {us:List Int} {bs:List (Int × Int)} {n:Nat} (h:∀ b∈bs,Bd n b.1/\Bd n b.2):∀ x∈zCr us bs,Bd n x:=fun x hx=>by
 obtain ⟨q,hq,rfl⟩:=List.mem_map.mp hx
 obtain ⟨h1,h2⟩:=h q.2 (List.of_mem_zip hq).2
 show Bd n (if q.1 > 0 then q.2.2 else q.2.1)
 split
 ·exact h2
 ·exact h1
def mixM (f:Int) (ns:List Int) (g:Int) (os:List Int):List Int:=(ns.zip os).map fun q=>f * q.1 + g * q.2
inductive zG3 (K:PySem.W.Frag) (vs:List V) (H:Hp) (Q:VK) (E:XK):Prop
 | mk (f g:Int) (a b:Addr) (ns os:List Int) (_:vs=[.int f,.ref a,.int g,.ref b]) (_:SqE K H a (ns.map V.int)) (_:SqE K H b (os.map V.int)) (_:ns.length=os.length) (_:ns.length<=100) (_:Bd 5000 f) (_:Bd 5000 g) (_:(∀ x∈ns,Bd 5000 x)) (_:(∀ x∈os,Bd 5000 x)) (_:∀ l H',Same H H'->H l=none->H' l=some (.lst ((mixM f ns g os).map V.int))->Q (.ref l) H'):zG3 K vs H Q E
inductive zGy (C CM:Addr) (vs:List V) (H:Hp) (Q:VK) (E:XK):Prop
 | mk (o kp km ra:Addr) (n:Nat) (bs:List (Int × Int)) (ms:List MD) (pv mv:List V) (ws us:List Int) (b:Int) (_:vs=[.ref o,.ref ra]) (_:zA5 C CM H o n bs ms pv mv kp km) (_:H ra=some (.tup (rowV (ws++us) b))) (_:ws.length=n) (_:us.length=bs.length) (_:bs.length<=12) (_:∀ l H',Same H H'->H l=none->H' l=some (.lst ((zCr us bs).map V.int))->Q (.ref l) H'):zGy C CM vs H Q E
inductive zEY (C CM:Addr) (vs:List V) (H:Hp) (Q:VK) (E:XK):Prop
 | mk (o kp km ra:Addr) (n:Nat) (bs:List (Int × Int)) (ms:List MD) (pv mv:List V) (ws us:List Int) (b:Int) (_:vs=[.ref o,.ref ra]) (_:zA5 C CM H o n bs ms pv mv kp km) (_:H ra=some (.tup (rowV (ws++us) b))) (_:ws.length=n) (_:1<=n) (_:n<=3) (_:us.length=bs.length) (_:bs.length<=12) (_:(∀ x∈us,Bd 2500 x)) (_:(∀ b∈bs,Bd 2500 b.1/\Bd 2500 b.2)) (_:∀ t H',Same H H'->H t=none->H' t=some (.tup (rowV ws (b - sumP us (zCr us bs))))->Q (.ref t) H'):zEY C CM vs H Q E
section
variable {P:Program} {w:World} {K:PySem.W.Frag} {mg:Str->Option Value} {base:Heap}
abbrev zEO:Stmt:=top 17
theorem zLs:zAP ["factor","numbers","other_factor","others"] ["factor","numbers","other_factor","others"] (zAC zEO):=.a
abbrev zBo:Stmt:=top 33
theorem zF1:zAP ["thing","row"] ["thing","row"] (zAC zBo):=.a
abbrev zBK:Stmt:=top 34
theorem zE4:zAP ["thing","row"] ["thing","row"] (zAC zBK):=.a
variable {ac ae:Addr} (af:ClsF K mg "Mode" ac) (ah:zCW K ac) (ag:ClsF K mg "Thing" ae) (ai:zBs K ae)
include af ah ag ai
theorem zL5 {k:Nat} {f:Addr} {fd:FuncData} (F:Fun K "mixed" "mixed" zEO f fd) (B:Bl mg):FnOk P w K mg base CX0 (k + 1) f fd ["factor","numbers","other_factor","others"] (zG3 K):=by
 refine F.ok zLs ?_ ?_
 ·rintro vs H Q E ⟨f,g,a,b,ns,os,rfl,_⟩
  rfl
 rintro cdv A outer s H vs Q E hr ⟨f,g,a,b,ns,os,rfl,ha,hb,ln,few,bf,bg,bn,bo,q⟩
 refine ⟨_,(zAH (zAU (zAr (own:=["number","other"]) (caps:=[(0,"factor"),(2,"other_factor")]) (zBm (S:=zAC zEO) (N:=["factor","numbers","other_factor","others"]) ⟨_,rfl⟩) rfl (zFB rfl B.zip_ (zAA (pvj 1) (zAA (pvj 3) zAB))) (fun _ _ _ _=>show PG _ _ (gTup K 2 (zGJ (zEu 0) (zGJ (zEu 1) gNil))) from zDD (n:=2) rfl (zAY (zAJ (i:=0) (show (["number","other","factor","other_factor"]:List Str).Nodup by decide +kernel) rfl (Or.inl rfl)) (zAY (zAJ (i:=1) (show (["number","other","factor","other_factor"]:List Str).Nodup by decide +kernel) rfl (Or.inl rfl)) zCQ))) (fun _ _ _ _=>(zAK (ji0 zAt) (zAK (ji zAd) (pvj 2) (pvj 0)) (zAK (ji zAd) (pvj 3) (pvj 1))))))),?_⟩
 try dsimp only [cxOf,Cx.nox,Cx.wish]
 refine ⟨_,rfl,_,rfl,a,b,rfl,zEx (K:=K) (a:=a) (b:=b) (xs:=ns.map V.int) (ys:=os.map V.int) ha hb
  (fun i zs σ H'=>zs=(((ns.zip os).take i).map fun q=>f * q.1 + g * q.2).map V.int/\(∃ o1 o2,σ=[o1,o2,some (.int f),some (.int g)])/\Same H H')
  ⟨rfl,⟨none,none,rfl⟩,Same.refl _⟩ (fun i zs σ H' hi ⟨e1,_,sm⟩=>⟨sm,by rw [e1,List.length_map,List.length_map,List.length_take]; exact Nat.min_le_left _ _⟩) (by rw [List.length_map,List.length_map,ln]; exact Nat.le_refl _) (by rw [List.length_map]; exact zAh (by omega)) ?_ ?_⟩
 ·rintro i x y T zs σ H' hx hy hT ⟨rfl,⟨o1,o2,rfl⟩,sm⟩
  obtain ⟨x0,hx0,rfl⟩:=zBW hx
  obtain ⟨y0,hy0,rfl⟩:=zBW hy
  have s2:=sm.trans (zAI hT (HO.tup [V.int x0,V.int y0]))
  refine ⟨T,_,rfl,SqT.of zAF,rfl,_,_,rfl,_,_,rfl,rfl,?_⟩
  refine ⟨_,rfl,_,rfl,_,_,rfl,rfl,⟨bf.mono,(bn _ (List.mem_of_getElem? hx0)).mono⟩,_,rfl,_,rfl,_,_,rfl,rfl,⟨bg.mono,(bo _ (List.mem_of_getElem? hy0)).mono⟩,_,_,rfl,rfl,?_,⟨_,_,rfl⟩,s2⟩
  have hz:(ns.zip os)[i]? = some (x0,y0):=by rw [List.getElem?_zip_eq_some]; exact ⟨hx0,hy0⟩
  rw [zAa hz,List.map_append,List.map_append]
  rfl
 rintro zs σ H' ⟨rfl,⟨o1,o2,rfl⟩,sm⟩ l hl
 refine q l _ (sm.trans (zAI hl _)) (sm.free hl) (zAF.trans ?_)
 rw [List.take_of_length_le (by rw [List.length_zip,List.length_map]; omega)]
 rfl
theorem zF6 {k:Nat} {f:Addr} {fd:FuncData} (F:Fun K "worst_pushes" "worst_pushes" zBo f fd) (B:Bl mg) (aF:FnM P w K mg base ae "pushes" ["self"] k (zEb ae ac)):FnOk P w K mg base CX0 (k + 1) f fd ["thing","row"] (zGy ae ac):=by
 refine F.ok zF1 ?_ ?_
 ·rintro vs H Q E ⟨o,kp,km,ra,n,bs,ms,pv,mv,ws,us,b,rfl,_⟩
  rfl
 rintro cdv A outer s H vs Q E hr ⟨o,kp,km,ra,n,bs,ms,pv,mv,ws,us,b,rfl,TA,hra,lw,lu,b12,q⟩
 have hrm:=hr
 refine ⟨_,(zAH (zAU (zAr (own:=["number","push"]) (caps:=[]) (zCq rfl) rfl (zFB rfl B.zip_ (zAA (zBP zCI (pvj 1) (zBg (zBl (pvj 0) rfl)) (zBg (zBU zAu zAE))) (zAA (zEo aF ag hrm (pvj 0)) zAB))) (fun _ _ _ _=>show PG _ _ (gTup K 2 (zGJ (zEu 0) (zGJ (zEu 1) gNil))) from zDD (n:=2) rfl (zAY (zAJ (i:=0) (show (["number","push"]:List Str).Nodup by decide +kernel) rfl (Or.inl rfl)) (zAY (zAJ (i:=1) (show (["number","push"]:List Str).Nodup by decide +kernel) rfl (Or.inl rfl)) zCQ))) (fun _ _ _ _=>(zIy (zAx (ji0 zHa) (pvj 0) zAE (zAq _)) (zAX (show IxR _ (JIx (SqT K)) from zAO) (pvj 1) zAE (fun _ _=>rfl)) (zAX (show IxR _ (JIx (SqT K)) from zAO) (pvj 1) zAE (fun _ _=>rfl))))))),?_⟩
 try dsimp only [cxOf,Cx.nox,Cx.wish]
 obtain ⟨dx,ins⟩:=TA.ins
 have lpv:pv.length=bs.length:=Paired.length TA.hpv
 obtain ⟨ec,nw⟩:=zGN ((ws++us).map V.int) (.int b) (n:=n) (by rw [List.length_map,List.length_append]; omega)
 have ed:((ws++us).map V.int).drop n=us.map V.int:=by rw [<- List.map_drop,<- lw,List.drop_left]
 rw [ed] at ec
 refine ⟨_,rfl,_,rfl,o,ae,dx,_,_,rfl,ins,ag.cl,ai.n_many,rfl,_,rfl,_,rfl,_,rfl,ra,_,rfl,SqT.of hra,nw,fun p1 hp1=>?_⟩
 have ec':cutV (rowV (ws++us) b) (some (n:Int)) (some (-1))=us.map V.int:=ec
 rw [ec']
 obtain ⟨G1,hhG1,yG1,ep1⟩:=zAV (HO.tup (us.map V.int)) hp1
 rw [hhG1]
 have SG1:=yG1
 refine ⟨_,rfl,o,dx,_,rfl,(SG1 _ _ ins),rfl,o,kp,km,n,bs,ms,pv,mv,rfl,(zA5.same SG1 TA),fun l2 G9 s9 _ el2=>?_⟩
 have SG2:=SG1.trans s9
 replace ep1:=(s9 _ _ ep1)
 have hpv9:Paired (PuV G9) pv bs:=Paired.mapP TA.hpv fun _ _ z=>z.same SG2
 refine ⟨p1,l2,rfl,zEx (K:=K) (a:=p1) (b:=l2) (xs:=us.map V.int) (ys:=pv) (.inl (SqT.of ep1)) (.inr (SqL.of el2))
  (fun i zs σ H'=>zs=((zCr us bs).take i).map V.int/\(∃ o1 o2,σ=[o1,o2])/\Same G9 H')
  ⟨rfl,⟨none,none,rfl⟩,Same.refl _⟩ (fun i zs σ H' hi ⟨e1,_,sm⟩=>⟨sm,by rw [e1,List.length_map,List.length_take]; exact Nat.min_le_left _ _⟩) (by rw [List.length_map]; omega) (by rw [List.length_map]; exact zAh (by omega)) ?_ ?_⟩
 ·rintro i x y T zs σ H' hx hy hT ⟨rfl,⟨o1,o2,rfl⟩,sm⟩
  obtain ⟨u,hu,rfl⟩:=zBW hx
  obtain ⟨c,hc,a,rfl,ea⟩:=zAc hpv9 hy
  have s2:=sm.trans (zAI hT (HO.tup [V.int u,V.ref a]))
  have eA:=s2 _ _ ea
  have hz:(zCr us bs)[i]? = some (if u > 0 then c.2 else c.1):=by
   unfold zCr
   have hzp:(us.zip bs)[i]? = some (u,c):=by rw [List.getElem?_zip_eq_some]; exact ⟨hu,hc⟩
   rw [List.getElem?_map,hzp]
   rfl
  refine ⟨T,_,rfl,SqT.of zAF,rfl,_,_,rfl,_,_,rfl,rfl,?_⟩
  refine ⟨_,rfl,_,_,rfl,rfl,_,rfl,?_⟩
  by_cases k:u > 0
  ·refine zCU (decide_eq_true k) ?_
   refine ⟨_,rfl,a,_,1,_,rfl,rfl,SqT.of eA,at1,?_,⟨_,_,rfl⟩,s2⟩
   rw [zAa hz,if_pos k,List.map_append]
   rfl
  ·refine zB0 (decide_eq_false k) ?_
   refine ⟨_,rfl,a,_,0,_,rfl,rfl,SqT.of eA,at0,?_,⟨_,_,rfl⟩,s2⟩
   rw [zAa hz,if_neg k,List.map_append]
   rfl
 rintro zs σ H' ⟨rfl,⟨o1,o2,rfl⟩,sm⟩ l hl
 refine q l _ (SG2.trans (sm.trans (zAI hl _))) ((SG2.trans sm).free hl) (zAF.trans ?_)
 rw [List.take_of_length_le (by rw [zFv lu,List.length_map]; exact Nat.le_refl _)]
theorem zFC {k:Nat} {f:Addr} {fd:FuncData} (F:Fun K "without_pushes" "without_pushes" zBK f fd) (B:Bl mg) (ay:Fn P w K mg base "paired" ["numbers","others"] k (zJU K)) (ca:Fn P w K mg base "worst_pushes" ["thing","row"] k (zGy ae ac)):FnOk P w K mg base CX0 (k + 1) f fd ["thing","row"] (zEY ae ac):=by
 refine F.ok zE4 ?_ ?_
 ·rintro vs H Q E ⟨o,kp,km,ra,n,bs,ms,pv,mv,ws,us,b,rfl,_⟩
  rfl
 rintro cdv A outer s H vs Q E hr ⟨o,kp,km,ra,n,bs,ms,pv,mv,ws,us,b,rfl,TA,hra,lw,n1,n3,lu,b12,bu,bb,q⟩
 refine ⟨_,(zAH (zAU (zAK zDw (zBP zCI (pvj 1) zCG (zBg (zBl (pvj 0) rfl))) (zCA (zAA (zAK (ji0 zCR) (zAX zAO (pvj 1) (zBU zAu zAE) (fun _ _=>rfl)) (zAG ay hr rfl (zAA (zBP zCI (pvj 1) (zBg (zBl (pvj 0) rfl)) (zBg (zBU zAu zAE))) (zAA (zAG ca hr rfl (zAA (pvj 0) (zAA (pvj 1) zAB))) zAB)))) zAB))))),?_⟩
 try dsimp only [cxOf,Cx.nox,Cx.wish]
 obtain ⟨dx,ins⟩:=TA.ins
 obtain ⟨ec,nw⟩:=zGN ((ws++us).map V.int) (.int b) (n:=n) (by rw [List.length_map,List.length_append]; omega)
 have ed:((ws++us).map V.int).drop n=us.map V.int:=by rw [<- List.map_drop,<- lw,List.drop_left]
 rw [ed] at ec
 have lr:n < (rowV (ws++us) b).length:=by
  unfold rowV
  rw [List.length_append,List.length_map,List.length_append,List.length_singleton]
  omega
 obtain ⟨ec2,nw2⟩:=zLS (rowV (ws++us) b) lr
 have et:(rowV (ws++us) b).take n=ws.map V.int:=by
  unfold rowV
  rw [List.map_append,List.append_assoc,<- lw,<- List.length_map (f:=V.int),List.take_left]
 rw [et] at ec2
 have ec':cutV (rowV (ws++us) b) (some (n:Int)) (some (-1))=us.map V.int:=ec
 refine ⟨_,rfl,_,rfl,o,ae,dx,_,_,rfl,ins,ag.cl,ai.n_many,rfl,_,rfl,ra,_,rfl,SqT.of hra,nw2,fun p1 hp1=>?_⟩
 rw [ec2]
 obtain ⟨G1,hhG1,yG1,ep1⟩:=zAV (HO.tup (ws.map V.int)) hp1
 rw [hhG1]
 have SG1:=yG1
 refine ⟨_,rfl,_,rfl,ra,_,_,_,rfl,rfl,SqT.of (SG1 _ _ hra),zCE _ _,?_⟩
 refine ⟨_,rfl,_,rfl,o,ae,dx,_,_,rfl,(SG1 _ _ ins),ag.cl,ai.n_many,rfl,_,rfl,_,rfl,_,rfl,ra,_,rfl,SqT.of (SG1 _ _ hra),nw,fun p2 hp2=>?_⟩
 rw [ec']
 obtain ⟨G2,hhG2,yG2,ep2⟩:=zAV (HO.tup (us.map V.int)) hp2
 rw [hhG2]
 have SG2:=SG1.trans yG2
 replace ep1:=(yG2 _ _ ep1)
 refine ⟨_,rfl,_,rfl,o,kp,km,ra,n,bs,ms,pv,mv,ws,us,b,rfl,(zA5.same SG2 TA),(SG2 _ _ hra),lw,lu,b12,fun l3 G7 s7 _ el3=>?_⟩
 have SG3:=SG2.trans s7
 replace ep1:=(s7 _ _ ep1)
 replace ep2:=(s7 _ _ ep2)
 refine ⟨p2,l3,us,zCr us bs,rfl,.inl (SqT.of ep2),.inr (SqL.of el3),(zFv lu).symm,(by omega),bu,zIh bb,fun G8 s8=>?_⟩
 have SG4:=SG3.trans s8
 replace ep1:=(s8 _ _ ep1)
 refine ⟨_,_,rfl,rfl,sz1,fun t2 ht2=>?_⟩
 obtain ⟨G5,hhG5,yG5,et2⟩:=zAV (HO.tup [V.int (b - sumP us (zCr us bs))]) ht2
 rw [hhG5]
 have SG5:=SG4.trans yG5
 replace ep1:=(yG5 _ _ ep1)
 have ne:ws.map V.int≠[]:=fun z=>by
  have h:=congrArg List.length z
  rw [List.length_map,lw] at h
  have h0:n=0:=h
  omega
 refine ⟨p1,t2,_,_,rfl,rfl,SqT.of ep1,SqT.of et2,ne,(by rw [List.length_map]; exact zAh ((by show ws.length + 1<=1000; omega))),(fun z=>nomatch z),fun _ p hp=>?_⟩
 exact q p _ (SG5.trans (zAI hp _)) (SG5.free hp) zAF
end
def srM (n:Nat) (bs:List (Int × Int)) (m:MD) (r:List Int × Int):List Int:=(List.range n).map (plcL r.1 m.nexts)++[sumP r.1 m.steer,(m.div * r.2 - sumP r.1 m.add) - sumP ((List.range bs.length).map (plcL r.1 m.push)) (zCr ((List.range bs.length).map (plcL r.1 m.push)) bs)]
def zMw (n:Nat) (bs:List (Int × Int)) (m:MD) (lo hi:Int) (rows:List (List Int × Int)):List (List Int):=rows.map (srM n bs m)++[zFR (n:Int) (n + 1) 1++[hi],zFR (n:Int) (n + 1) (-1)++[-lo]]
inductive zC3 (C CM:Addr) (vs:List V) (H:Hp) (Q:VK) (E:XK):Prop
 | mk (o kp km rm:Addr) (n:Nat) (bs:List (Int × Int)) (m:MD) (pv mv rv:List V) (lo hi:Int) (rows:List (List Int × Int)) (_:vs=[.ref o,.ref rm,.int lo,.int hi]) (_:zA5 C CM H o n bs [m] pv mv kp km) (_:ThOk n bs [m]) (_:MBd m) (_:(∀ x∈m.steer,Bd 2500 x)) (_:(∀ b∈bs,Bd 2500 b.1/\Bd 2500 b.2)) (_:H rm=some (.lst rv)) (_:zAk H rv rows) (_:zGq rows n) (_:rows.length<=60) (_:(∀ r∈rows,∀ x∈(List.range bs.length).map (plcL r.1 m.push),Bd 2500 x)) (_:∀ l lv H',Same H H'->H l=none->H' l=some (.lst lv)->zBT H' lv (zMw n bs m lo hi rows)->Q (.ref l) H'):zC3 C CM vs H Q E
theorem zIj {H:Hp} {l:Addr} {xs:List V} (hl:H l=some (.lst xs)) {v:V} {k:List Int} (h:Tp H v (k.map V.int)):Tp (hide [l] H) v (k.map V.int):=by
 obtain ⟨r,e,q⟩:=h
 exact ⟨r,e,(zBE fun z=>by rw [List.mem_singleton.mp z,hl] at q; cases q).trans q⟩
section
variable {P:Program} {w:World} {K:PySem.W.Frag} {mg:Str->Option Value} {base:Heap}
abbrev zBa:Stmt:=top 49
theorem zBk:zAP ["thing","room","low","high","mode","told","row","ahead"] ["thing","room","low","high"] (zAC zBa):=.a
variable {ac ae:Addr} (af:ClsF K mg "Mode" ac) (ah:zCW K ac) (ag:ClsF K mg "Thing" ae) (ai:zBs K ae)
include af ah ag ai
theorem zFV {k:Nat} {f:Addr} {fd:FuncData} (F:Fun K "steering_rows" "steering_rows" zBa f fd) (B:Bl mg) (cf:FnM P w K mg base ae "modes" ["self"] k (zG2 ae ac)) (cg:Fn P w K mg base "without_pushes" ["thing","row"] k (zEY ae ac)) (ci:Fn P w K mg base "reach" ["thing","mode","row"] k (zG0 ae ac)) (ay:Fn P w K mg base "paired" ["numbers","others"] k (zJU K)) (bN:Fn P w K mg base "single" ["place","many","number","bound"] k zFd):FnOk P w K mg base CX0 (k + 1) f fd ["thing","room","low","high"] (zC3 ae ac):=by
 refine F.ok zBk ?_ ?_
 ·rintro vs H Q E ⟨o,kp,km,rm,n,bs,m,pv,mv,rv,lo,hi,rows,rfl,_⟩
  rfl
 rintro cdv A outer s H vs Q E hr ⟨o,kp,km,rm,n,bs,m,pv,mv,rv,lo,hi,rows,rfl,TA,TO,MB,BS,BB,hroom,hrv,RO,r60,BP,q⟩
 have hrm:=hr
 refine ⟨_,(zAD (zAR (i:=4) zBk.nd rfl (Or.inl rfl) (zAX zAQ (zEo cf ag hrm (pvj 0)) zAE (fun _ _=>rfl)))
  (zAD (zAR (i:=5) zBk.nd rfl (Or.inl rfl) (zA7 zAB))
  (zAD (zBy PassesOwn.never rfl (zBC (pvj 1)) (zAJ (i:=6) zBk.nd rfl (Or.inl rfl)) (zAD (zAR (i:=7) zBk.nd rfl (Or.inl rfl) (zAG cg hr rfl (zAA (pvj 0) (zAA (zAG ci hr rfl (zAA (pvj 0) (zAA (pvj 4) (zAA (pvj 6) zAB)))) zAB))))
   (zAH (zBe (zDs PySem.F.plainAttrs_list PySem.F.slot_list_append PySem.F.type_list_append japp (pvj 5) (zAA (zAK zDw (zBP zCI (pvj 7) zCG (zBg (zBU zAu zAE))) (zCA (zAA (zAG ay hr rfl (zAA (zBP zCI (pvj 6) zCG (zBg (zBU zAu zAE))) (zAA (zBl (pvj 4) rfl) zAB))) (zAA (zAX zAO (pvj 7) (zBU zAu zAE) (fun _ _=>rfl)) zAB)))) zAB))))))
  (zAH (zAU (zAK jcat (pvj 5) (zA7 (zAA (zAG bN hr rfl (zAA (zBl (pvj 0) rfl) (zAA (zAK (ji0 zAt) (zBl (pvj 0) rfl) zAE) (zAA zAE (zAA (pvj 3) zAB))))) (zAA (zAG bN hr rfl (zAA (zBl (pvj 0) rfl) (zAA (zAK (ji0 zAt) (zBl (pvj 0) rfl) zAE) (zAA (zBU zAu zAE) (zAA (zBU zAu (pvj 2)) zAB))))) zAB))))))))),?_⟩
 try dsimp only [cxOf,Cx.nox,Cx.wish]
 obtain ⟨dx,ins⟩:=TA.ins
 have n1:=TO.n1
 have n3:=TO.n3
 have b6:=TO.b6
 have MO:=TO.mok m (List.mem_singleton.mpr rfl)
 have lrv:rv.length=rows.length:=Paired.length hrv
 have hmv:=TA.hmv
 obtain ⟨v0,emv⟩:∃ v0,mv=[v0]:=by
  have:=Paired.length hmv
  match mv,this with
  | [x],_=>exact ⟨x,rfl⟩
 subst emv
 have hM0:zEU ac H v0 m:=by
  cases hmv with
  | cons h _=>exact h
 refine ⟨_,rfl,o,dx,_,rfl,ins,rfl,o,kp,km,n,bs,_,pv,_,rfl,TA,fun l1 J1 y1 _ el1=>?_⟩
 have SG1:=y1
 refine ⟨l1,_,0,v0,rfl,rfl,SqL.of el1,rfl,?_⟩
 refine ⟨sz0,fun fl hfl=>?_⟩
 have nfl:H fl=none:=y1.free hfl
 obtain ⟨J2,hhJ2,y2,ef2⟩:=zAV (HO.lst []) hfl
 rw [hhJ2]
 have s2:=y1.trans (zCD hfl y2)
 refine ⟨_,rfl,rm,rfl,⟨_,SqL.of ((y1.trans y2) _ _ hroom)⟩,zED (K:=K) (a:=rm) (xs:=rv)
  (fun i σ H'=>∃ (tv:List V) (o6 o7:Option V),σ=[some (.ref o),some (.ref rm),some (.int lo),some (.int hi),some v0,some (.ref fl),o6,o7]/\Same H (hide [fl] H')/\H' fl=some (.lst tv)/\zBT (hide [fl] H') tv ((rows.take i).map (srM n bs m)))
  ⟨[],none,none,rfl,s2,ef2,.nil⟩ (fun i σ H' _ ⟨_,_,_,_,sm,_⟩=>SqL.of (zAZ _ _ (sm _ _ hroom))) ?_ ?_⟩
 ·rintro i x σ H' hix ⟨tv,o6,o7,rfl,sm,ef,htv⟩
  obtain ⟨⟨ws,b⟩,hrow,a,rfl,ea0⟩:=zAc hrv hix
  obtain ⟨W,bb⟩:=RO _ (List.mem_of_getElem? hrow)
  have lw:ws.length=n:=W.len
  have bP:∀ x∈(List.range bs.length).map (plcL ws m.push),Bd 2500 x:=BP _ (List.mem_of_getElem? hrow)
  have il:i < rows.length:=(List.getElem?_eq_some_iff.mp hrow).1
  have sj:=sm.trans zAZ
  have lA:((List.range n).map (plcL ws m.nexts)).length=n:=by rw [List.length_map,List.length_range]
  have lP:((List.range bs.length).map (plcL ws m.push)).length=bs.length:=by rw [List.length_map,List.length_range]
  have eR:(zIt n bs.length ws b m).map V.int=rowV ((List.range n).map (plcL ws m.nexts)++(List.range bs.length).map (plcL ws m.push)) (m.div * b - sumP ws m.add):=by
   unfold zIt rowV
   rw [List.map_append]
   rfl
  refine ⟨_,rfl,_,rfl,_,rfl,_,rfl,o,kp,km,a,n,bs,[m],pv,_,v0,m,ws,b,rfl,TA.same sj,zEU.same sj hM0,MO,MB,n1,n3,(by omega),sj _ _ ea0,lw,(fun x hx=>(W.bd x hx).mono),bb.mono,fun t1 M1 z1 _ et1=>?_⟩
  rw [eR] at et1
  have SL1:=sj.trans z1
  replace ef:=(z1 _ _ ef)
  refine ⟨o,kp,km,t1,n,bs,[m],pv,_,_,_,_,rfl,TA.same SL1,et1,lA,n1,n3,lP,(by omega),bP,BB,fun t2 M2 z2 _ et2=>?_⟩
  have SL2:=SL1.trans z2
  replace ef:=(z2 _ _ ef)
  generalize hB:(m.div * b - sumP ws m.add) - sumP ((List.range bs.length).map (plcL ws m.push)) (zCr ((List.range bs.length).map (plcL ws m.push)) bs)=B9 at et2
  have ec:cutV (rowV ((List.range n).map (plcL ws m.nexts)) B9) none (some (-1))=((List.range n).map (plcL ws m.nexts)).map V.int:=zDo _ _
  refine ⟨_,rfl,.inl ⟨rfl,_,SqL.of ef⟩,_,rfl,_,rfl,_,rfl,t2,_,rfl,SqT.of et2,zBV _ _,fun p1 hp1=>?_⟩
  rw [ec]
  obtain ⟨L3,hhL3,yL3,ep1⟩:=zAV (HO.tup (((List.range n).map (plcL ws m.nexts)).map V.int)) hp1
  rw [hhL3]
  have SL3:=SL2.trans yL3
  replace ef:=(yL3 _ _ ef)
  replace et2:=(yL3 _ _ et2)
  have ec2:cutV (rowV ws b) none (some (-1))=ws.map V.int:=zDo _ _
  refine ⟨_,rfl,_,rfl,_,rfl,a,_,rfl,SqT.of (SL3 _ _ ea0),zBV _ _,fun p2 hp2=>?_⟩
  rw [ec2]
  obtain ⟨L4,hhL4,yL4,ep2⟩:=zAV (HO.tup (ws.map V.int)) hp2
  rw [hhL4]
  have SL4:=SL3.trans yL4
  replace ef:=(yL4 _ _ ef)
  replace et2:=(yL4 _ _ et2)
  replace ep1:=(yL4 _ _ ep1)
  obtain ⟨om,M,rfl,k0⟩:=hM0
  refine ⟨_,rfl,om,ac,M.dx,_,_,rfl,(SL4 _ _ k0.ins),af.cl,ah.n_steer,rfl,p2,M.s,ws,m.steer,rfl,.inl (SqT.of ep2),.inr (SqL.of (SL4 _ _ k0.hs)),(by rw [lw,MO.steer]),(by omega),(fun x hx=>(W.bd x hx).mono),BS,fun M3 z3=>?_⟩
  have SL5:=SL4.trans z3
  replace ef:=(z3 _ _ ef)
  replace et2:=(z3 _ _ et2)
  replace ep1:=(z3 _ _ ep1)
  refine ⟨_,rfl,_,rfl,t2,_,_,_,rfl,rfl,SqT.of et2,zCE _ _,sz2,fun t3 ht3=>?_⟩
  obtain ⟨L6,hhL6,yL6,et3⟩:=zAV (HO.tup [V.int (sumP ws m.steer),V.int B9]) ht3
  rw [hhL6]
  have SL6:=SL5.trans yL6
  replace ef:=(yL6 _ _ ef)
  replace et2:=(yL6 _ _ et2)
  replace ep1:=(yL6 _ _ ep1)
  have ne:((List.range n).map (plcL ws m.nexts)).map V.int≠[]:=fun z=>by
   have h:=congrArg List.length z
   rw [List.length_map,lA] at h
   have h0:n=0:=h
   omega
  refine ⟨p1,t3,_,_,rfl,rfl,SqT.of ep1,SqT.of et3,ne,(by rw [List.length_map,lA]; exact zAh ((by show n + 2<=1000; omega))),(fun z=>nomatch z),fun _ p hp=>?_⟩
  obtain ⟨L7,hhL7,yL7,ep⟩:=zAV (HO.tup (((List.range n).map (plcL ws m.nexts)).map V.int++[V.int (sumP ws m.steer),V.int B9])) hp
  rw [hhL7]
  have SL7:=SL6.trans yL7
  replace ef:=(yL7 _ _ ef)
  replace et2:=(yL7 _ _ et2)
  have ltv:=Paired.length htv
  rw [List.length_map,List.length_take] at ltv
  refine ⟨fl,tv,.ref p,rfl,rfl,ef,zAp (by omega),?_⟩
  have np:p∉[fl]:=fun z=>by rw [List.mem_singleton.mp z,ef] at ep; cases ep
  have h4:=(zAf (B:=[fl]) (z1.trans (z2.trans (yL3.trans (yL4.trans (z3.trans (yL6.trans (yL7)))))))).trans (zBA (x:=fl) (HO.lst (tv++[V.ref p])))
  refine ⟨tv++[V.ref p],_,_,rfl,sm.trans h4,zAF,?_⟩
  rw [zAa hrow,List.map_append]
  refine zAb (R:=fun v (k:List Int)=>Tp _ v (k.map V.int)) ⟨p,rfl,zBA (x:=fl) _ _ _ ((zBE np).trans (ep.trans ?_))⟩ (zBT.same h4 htv)
  unfold srM
  rw [hB,List.map_append]
  rfl
 rintro σ N0 ⟨tv,o6,o7,rfl,sm,ef,htv⟩
 rw [lrv,List.take_length] at htv
 have sj:=sm.trans zAZ
 replace htv:=zBT.same zAZ htv
 refine ⟨_,rfl,_,rfl,o,ae,dx,_,_,rfl,(sj _ _ ins),ag.cl,ai.n_many,rfl,_,rfl,o,ae,dx,_,_,rfl,(sj _ _ ins),ag.cl,ai.n_many,rfl,_,_,rfl,rfl,_,rfl,(n:Int),(n:Int) + 1,1,hi,rfl,(by omega),(by omega),fun t1 M1 z1 _ et1=>?_⟩
 have SN1:=sj.trans z1
 replace ef:=(z1 _ _ ef)
 replace htv:=(zBT.same z1 htv)
 refine ⟨_,rfl,o,ae,dx,_,_,rfl,(SN1 _ _ ins),ag.cl,ai.n_many,rfl,_,rfl,o,ae,dx,_,_,rfl,(SN1 _ _ ins),ag.cl,ai.n_many,rfl,_,_,rfl,rfl,_,rfl,_,rfl,_,rfl,(n:Int),(n:Int) + 1,-1,-lo,rfl,(by omega),(by omega),fun t2 M2 z2 _ et2=>?_⟩
 have SN2:=SN1.trans z2
 replace ef:=(z2 _ _ ef)
 replace htv:=(zBT.same z2 htv)
 replace et1:=(z2 _ _ et1)
 refine ⟨sz2,fun l9 hl9=>?_⟩
 obtain ⟨N3,hhN3,yN3,el9⟩:=zAV (HO.lst [V.ref t1,V.ref t2]) hl9
 rw [hhN3]
 have SN3:=SN2.trans yN3
 replace ef:=(yN3 _ _ ef)
 replace htv:=(zBT.same yN3 htv)
 replace et1:=(yN3 _ _ et1)
 replace et2:=(yN3 _ _ et2)
 have ltv:=Paired.length htv
 rw [List.length_map] at ltv
 refine ⟨fl,l9,_,_,rfl,rfl,ef,el9,zAh ((by show tv.length + 2<=1000; omega)),fun c hc=>?_⟩
 have zc:=zAI hc (HO.lst (tv++[V.ref t1,V.ref t2]))
 have en:((n:Int) + 1).toNat=n + 1:=by omega
 rw [en] at et1 et2
 refine q c _ _ (SN3.trans zc) (SN3.free hc) zAF ?_
 exact zDa (zBT.same zc htv) (.cons ⟨t1,rfl,zc _ _ et1⟩ (.cons ⟨t2,rfl,zc _ _ et2⟩ .nil))
end
abbrev Row3:=List Int × (Int × Int)
def fl3 (r:Row3):List Int:=r.1++[r.2.1,r.2.2]
def zGU (rows:List Row3):List (List Int × Int):=(rows.filter fun r:Row3=>decide (r.2.1=0)).map fun r=>(r.1,r.2.2)
def upM (rows:List Row3):List Row3:=rows.filter fun r:Row3=>decide (r.2.1 > 0)
def lowM (rows:List Row3):List Row3:=rows.filter fun r:Row3=>decide (r.2.1 < 0)
def zHL (u l:Row3):List Int × Int:=(mixM (-l.2.1) u.1 u.2.1 l.1,-l.2.1 * u.2.2 + u.2.1 * l.2.2)
def noSt (rows:List Row3):List (List Int × Int):=zGU rows++(upM rows).flatMap fun u=>(lowM rows).map (zHL u)
theorem zEw {α:Type} {p:α->Bool} {l:List α} {i:Nat} {x:α} (h:l[i]? = some x) (k:p x=true):(l.take (i + 1)).filter p=(l.take i).filter p++[x]:=by
 rw [zAa h,List.filter_append,List.filter_cons_of_pos k]
 rfl
theorem zGL {α:Type} {p:α->Bool} {l:List α} {i:Nat} {x:α} (h:l[i]? = some x) (k:p x=false):(l.take (i + 1)).filter p=(l.take i).filter p:=by
 rw [zAa h,List.filter_append,List.filter_cons_of_neg (by rw [k]; decide),List.filter_nil,List.append_nil]
theorem zGK (r:Row3):(fl3 r).map V.int=r.1.map V.int++[.int r.2.1,.int r.2.2]:=by
 unfold fl3
 rw [List.map_append]
 rfl
theorem zIg (xs:List V) (u v:V):atI (xs++[u,v]) (-2)=some u:=by
 have e:xs++[u,v]=(xs++[u])++[v]:=by rw [List.append_assoc]; rfl
 have l:(xs++[u,v]).length=xs.length + 2:=by rw [List.length_append]; rfl
 have h:(xs++[u,v])[xs.length]? = some u:=by
  rw [List.getElem?_append_right (Nat.le_refl _),Nat.sub_self]
  rfl
 unfold atI ixN
 rw [l]
 simp
 rw [if_pos (by omega)]
 show (xs++[u,v])[(-2 + ((xs.length:Int) + 2)).toNat]? = some u
 rw [show (-2 + ((xs.length:Int) + 2)).toNat=xs.length by omega]
 exact h
theorem zNY (xs:List V) (u v:V):atI (xs++[u,v]) (-1)=some v:=by
 have e:xs++[u,v]=(xs++[u])++[v]:=by rw [List.append_assoc]; rfl
 rw [e]
 exact zCE _ _
theorem zOD {u l:Row3} {f g:Int} (h:u.1.length=l.1.length):mixM f (fl3 u) g (fl3 l)=mixM f u.1 g l.1++[f * u.2.1 + g * l.2.1,f * u.2.2 + g * l.2.2]:=by
 unfold mixM fl3
 rw [List.zip_append h,List.map_append]
 rfl
inductive zEd (vs:List V) (H:Hp) (Q:VK) (E:XK):Prop
 | mk (rm:Addr) (rv:List V) (n:Nat) (rows:List Row3) (_:vs=[.ref rm]) (_:H rm=some (.lst rv)) (_:zBT H rv (rows.map fl3)) (_:(∀ r∈rows,r.1.length=n/\(∀ x∈r.1,Bd 5000 x)/\Bd 5000 r.2.1/\Bd 5000 r.2.2)) (_:1<=n) (_:n<=3) (_:rows.length<=62) (_:(noSt rows).length<=990) (_:∀ l lv H',Same H H'->H l=none->H' l=some (.lst lv)->zAk H' lv (noSt rows)->Q (.ref l) H'):zEd vs H Q E
theorem zKw (rows:List Row3) (i j:Nat) {u:Row3} (hu:(upM rows)[i]? = some u):(zGU rows++(((upM rows).take i).flatMap fun u=>(lowM rows).map (zHL u))++((lowM rows).take j).map (zHL u)).length<=(noSt rows).length:=by
 have e:(upM rows)=(upM rows).take i++u :: (upM rows).drop (i + 1):=by
  have hi:=(List.getElem?_eq_some_iff.mp hu).1
  have eu:u=(upM rows)[i]:=((List.getElem?_eq_some_iff.mp hu).2).symm
  rw [eu,<- List.drop_eq_getElem_cons hi,List.take_append_drop]
 have l1:((lowM rows).take j).length<=(lowM rows).length:=by rw [List.length_take]; exact Nat.min_le_right _ _
 unfold noSt
 conv=>rhs; rw [e]
 rw [List.flatMap_append,List.flatMap_cons]
 simp only [List.length_append,List.length_map]
 omega
theorem low3 {rows:List Row3} {n:Nat} {p:Row3->Bool} (h:∀ r∈rows,r.1.length=n/\(∀ x∈r.1,Bd 5000 x)/\Bd 5000 r.2.1/\Bd 5000 r.2.2):∀ r∈rows.filter p,r.1.length=n/\(∀ x∈fl3 r,Bd 5000 x)/\Bd 5000 r.2.1:=fun r hr=>by
 obtain ⟨h1,h2,h3,h4⟩:=h r (List.mem_filter.mp hr).1
 refine ⟨h1,fun x hx=>?_,h3⟩
 rcases List.mem_append.mp hx with hx | hx
 ·exact h2 x hx
 ·rcases List.mem_cons.mp hx with rfl | hx
  ·exact h3
  ·rw [List.mem_singleton.mp hx]
   exact h4
theorem zGl {v:V} {rv:List V} {H:Hp} {rows:List Row3} {i:Nat} (h:zBT H rv (rows.map fl3)) (e:rv[i]? = some v):∃ (r:Row3) (a:Addr),rows[i]? = some r/\v=.ref a/\H a=some (.tup (r.1.map V.int++[.int r.2.1,.int r.2.2])):=by
 obtain ⟨r0,hr0,a,rfl,ea0⟩:=zAc h e
 rw [List.getElem?_map] at hr0
 cases e:rows[i]? with
 | none=>rw [e] at hr0; cases hr0
 | some r=>
  rw [e] at hr0
  rw [<- Option.some.inj hr0,zGK] at ea0
  exact ⟨r,a,rfl,rfl,ea0⟩
theorem zMa {H:Hp} {l:Addr} {xs:List V} (hl:H l=some (.lst xs)) {v:V} {k:List Int × Int} (h:RwV H v k):RwV (hide [l] H) v k:=by
 obtain ⟨r,e,q⟩:=h
 exact ⟨r,e,(zBE fun z=>by rw [List.mem_singleton.mp z,hl] at q; cases q).trans q⟩
section
variable {P:Program} {w:World} {K:PySem.W.Frag} {mg:Str->Option Value} {base:Heap}
abbrev zA8:Stmt:=top 50
theorem zAw:zAP ["rows","told","uppers","lowers","upper","lower","both"] ["rows"] (zAC zA8):=.a
variable {ac ae:Addr} (af:ClsF K mg "Mode" ac) (ah:zCW K ac) (ag:ClsF K mg "Thing" ae) (ai:zBs K ae)
include af ah ag ai
theorem zEP {k:Nat} {f:Addr} {fd:FuncData} (F:Fun K "without_steering" "without_steering" zA8 f fd) (B:Bl mg) (ck:Fn P w K mg base "mixed" ["factor","numbers","other_factor","others"] k (zG3 K)):FnOk P w K mg base CX0 (k + 1) f fd ["rows"] zEd:=by
 refine F.ok zAw ?_ ?_
 ·rintro vs H Q E ⟨rm,rv,n,rows,rfl,_⟩
  rfl
 rintro cdv A outer s H vs Q E hr ⟨rm,rv,n,rows,rfl,hrm0,hrv,RO,n1,n3,r62,z990,q⟩
 refine ⟨_,(zAD (zEm (i:=1) zAw.nd rfl rfl (own:=["row"]) (caps:=[]) (zCq rfl) rfl (zBC (pvj 0)) (fun _ _ _ _=>zAJ (i:=0) (show (["row"]:List Str).Nodup by decide +kernel) rfl (Or.inl rfl)) (fun _ _ _ _=>(zAx zEG (zAX (show IxR _ (JIx (SqT K)) from zAO) (pvj 0) (zBU zAu zAE) (fun _ _=>rfl)) zAE (zAq _))) (fun _ _ _ _=>(zAK (show OpR _ _ (zNw K) from zDw) (zBP (show SlR _ (JSlT K) from zCI) (pvj 0) zCG (zBg (zBU zAu zAE))) (zCA (zAA (zAX (show IxR _ (JIx (SqT K)) from zAO) (pvj 0) (zBU zAu zAE) (fun _ _=>rfl)) zAB)))) rfl)
  (zAD (zEm (i:=2) zAw.nd rfl rfl (own:=["row"]) (caps:=[]) (zCq rfl) rfl (zBC (pvj 0)) (fun _ _ _ _=>zAJ (i:=0) (show (["row"]:List Str).Nodup by decide +kernel) rfl (Or.inl rfl)) (fun _ _ _ _=>(zAx (ji0 zHa) (zAX (show IxR _ (JIx (SqT K)) from zAO) (pvj 0) (zBU zAu zAE) (fun _ _=>rfl)) zAE (zAq _))) (fun _ _ _ _=>(pvj 0)) rfl)
  (zAD (zEm (i:=3) zAw.nd rfl rfl (own:=["row"]) (caps:=[]) (zCq rfl) rfl (zBC (pvj 0)) (fun _ _ _ _=>zAJ (i:=0) (show (["row"]:List Str).Nodup by decide +kernel) rfl (Or.inl rfl)) (fun _ _ _ _=>(zAx (ji0 zIA) (zAX (show IxR _ (JIx (SqT K)) from zAO) (pvj 0) (zBU zAu zAE) (fun _ _=>rfl)) zAE (zAq _))) (fun _ _ _ _=>(pvj 0)) rfl)
  (zAD (zBy PassesOwn.never rfl (zBC (pvj 2)) (zAJ (i:=4) zAw.nd rfl (Or.inl rfl)) (zAH (zBy PassesOwn.never rfl (zBC (pvj 3)) (zAJ (i:=5) zAw.nd rfl (Or.inl rfl)) (zAD (zAR (i:=6) zAw.nd rfl (Or.inl rfl) (zAG ck hr rfl (zAA (zBU zAu (zAX zAO (pvj 5) (zBU zAu zAE) (fun _ _=>rfl))) (zAA (pvj 4) (zAA (zAX zAO (pvj 4) (zBU zAu zAE) (fun _ _=>rfl)) (zAA (pvj 5) zAB))))))
    (zAH (zBe (zDs PySem.F.plainAttrs_list PySem.F.slot_list_append PySem.F.type_list_append japp (pvj 1) (zAA (zAK zDw (zAi jtup rfl B.tuple_ zAn (zAA (zBP zI3 (pvj 6) zCG (zBg (zBU zAu zAE))) zAB)) (zCA (zAA (zAX zAQ (pvj 6) (zBU zAu zAE) (fun _ _=>rfl)) zAB))) zAB))))))))
  (zAH (zAU (pvj 1))))))),?_⟩
 try dsimp only [cxOf,Cx.nox,Cx.wish]
 have hrm:=hrm0
 have lrv:rv.length=rows.length:=(Paired.length hrv).trans (List.length_map _)
 refine ⟨_,rfl,rm,rfl,⟨_,SqL.of ((Same.refl H) _ _ hrm)⟩,zDc (K:=K) (a:=rm) (xs:=rv) (fun i ys σ H'=>Paired (RwV H') ys (((rows.take i).filter fun r:Row3=>decide (r.2.1=0)).map fun r=>(r.1,r.2.2))/\(∃ o,σ=[o])/\Same H H')
  ⟨.nil,⟨none,rfl⟩,Same.refl _⟩ (fun i ys σ H' hi ⟨e1,_,sm⟩=>⟨SqL.of (sm _ _ ((Same.refl H) _ _ hrm)),by have h1:=Paired.length e1; have h2:=List.length_filter_le (fun r:Row3=>decide (r.2.1=0)) (rows.take i); rw [List.length_map] at h1; rw [List.length_take] at h2; omega⟩) (zAh (by omega)) ?_ ?_⟩
 ·rintro i x ys σ H' hix ⟨hys,⟨o,rfl⟩,sm⟩
  obtain ⟨r,a,hr3,rfl,ea0⟩:=zGl hrv hix
  have eA:=sm _ _ ((Same.refl H) _ _ ea0)
  refine ⟨_,rfl,_,rfl,a,_,_,_,rfl,rfl,SqT.of eA,zIg _ _ _,rfl,_,rfl,?_⟩
  by_cases c:r.2.1=0
  ·refine zCU (zDH c) ?_
   have ft:=zEw (p:=fun r:Row3=>decide (r.2.1=0)) hr3 (decide_eq_true c)
   refine ⟨_,rfl,_,rfl,_,rfl,a,_,rfl,SqT.of eA,(zGM _ _ _).2,fun p1 hp1=>?_⟩
   rw [(zGM _ _ _).1]
   obtain ⟨L1,hhL1,yL1,ep1⟩:=zAV (HO.tup (r.1.map V.int)) hp1
   rw [hhL1]
   have SL1:=sm.trans yL1
   replace eA:=(yL1 _ _ eA)
   refine ⟨_,rfl,_,rfl,a,_,_,_,rfl,rfl,SqT.of eA,zNY _ _ _,sz1,fun t2 ht2=>?_⟩
   obtain ⟨L2,hhL2,yL2,et2⟩:=zAV (HO.tup [V.int r.2.2]) ht2
   rw [hhL2]
   have SL2:=SL1.trans yL2
   replace eA:=(yL2 _ _ eA)
   replace ep1:=(yL2 _ _ ep1)
   have lr:=(RO r (List.mem_of_getElem? hr3)).1
   have ne:r.1.map V.int≠[]:=fun z=>by
    have h:=congrArg List.length z
    rw [List.length_map] at h
    have h0:r.1.length=0:=h
    omega
   refine ⟨p1,t2,_,_,rfl,rfl,SqT.of ep1,SqT.of et2,ne,(by rw [List.length_map]; exact zAh ((by show r.1.length + 1<=1000; omega))),(fun z=>nomatch z),fun _ p hp=>?_⟩
   obtain ⟨L3,hhL3,yL3,ep⟩:=zAV (HO.tup (r.1.map V.int++[V.int r.2.2])) hp
   rw [hhL3]
   have SL3:=SL2.trans yL3
   replace eA:=(yL3 _ _ eA)
   replace ep1:=(yL3 _ _ ep1)
   refine ⟨?_,⟨_,rfl⟩,SL3⟩
   rw [ft,List.map_append]
   exact zAb (R:=RwV _) ⟨p,rfl,ep⟩ (zAk.same (yL1.trans (yL2.trans yL3)) hys)
  ·refine zB0 (zC9 c) ?_
   refine ⟨?_,⟨_,rfl⟩,sm⟩
   rw [zGL (p:=fun r:Row3=>decide (r.2.1=0)) hr3 (decide_eq_false c)]
   exact hys
 rintro ys1 σ H1 ⟨hys1,⟨o1,rfl⟩,s1⟩ l1 hl1
 rw [lrv,List.take_length] at hys1
 have nl1:H l1=none:=s1.free hl1
 have SG1:=s1
 obtain ⟨G2,hhG2,yG2,el1⟩:=zAV (HO.lst ys1) hl1
 rw [hhG2]
 have SG2:=SG1.trans yG2
 replace hys1:=(zAk.same yG2 hys1)
 refine ⟨_,rfl,rm,rfl,⟨_,SqL.of (SG2 _ _ hrm)⟩,zDc (K:=K) (a:=rm) (xs:=rv) (fun i ys σ H'=>Paired (fun v (k:List Int)=>Tp H' v (k.map V.int)) ys (((rows.take i).filter fun r:Row3=>decide (r.2.1 > 0)).map fl3)/\(∃ o,σ=[o])/\Same G2 H')
  ⟨.nil,⟨none,rfl⟩,Same.refl _⟩ (fun i ys σ H' hi ⟨e1,_,sm⟩=>⟨SqL.of (sm _ _ (SG2 _ _ hrm)),by have h1:=Paired.length e1; have h2:=List.length_filter_le (fun r:Row3=>decide (r.2.1 > 0)) (rows.take i); rw [List.length_map] at h1; rw [List.length_take] at h2; omega⟩) (zAh (by omega)) ?_ ?_⟩
 ·rintro i x ys σ H' hix ⟨hys,⟨o,rfl⟩,sm⟩
  obtain ⟨r,a,hr3,rfl,ea0⟩:=zGl hrv hix
  have eA:=sm _ _ (SG2 _ _ ea0)
  refine ⟨_,rfl,_,rfl,a,_,_,_,rfl,rfl,SqT.of eA,zIg _ _ _,_,_,rfl,rfl,_,rfl,?_⟩
  by_cases c:r.2.1 > 0
  ·refine zCU (decide_eq_true c) ?_
   have ft:=zEw (p:=fun r:Row3=>decide (r.2.1 > 0)) hr3 (decide_eq_true c)
   refine ⟨_,rfl,?_,⟨_,rfl⟩,sm⟩
   rw [ft,List.map_append]
   exact zAb (R:=fun v (k:List Int)=>Tp H' v (k.map V.int)) ⟨a,rfl,eA.trans (by rw [zGK])⟩ hys
  ·refine zB0 (decide_eq_false c) ?_
   refine ⟨?_,⟨_,rfl⟩,sm⟩
   rw [zGL (p:=fun r:Row3=>decide (r.2.1 > 0)) hr3 (decide_eq_false c)]
   exact hys
 rintro ys2 σ H2 ⟨hys2,⟨o2,rfl⟩,s2⟩ l2 hl2
 rw [lrv,List.take_length] at hys2
 have SG3:=SG2.trans s2
 replace hys1:=(zAk.same s2 hys1)
 replace el1:=(s2 _ _ el1)
 have n21:l2≠l1:=fun z=>by rw [z,el1] at hl2; cases hl2
 obtain ⟨G4,hhG4,yG4,el2⟩:=zAV (HO.lst ys2) hl2
 rw [hhG4]
 have SG4:=SG3.trans yG4
 replace hys1:=(zAk.same yG4 hys1)
 replace el1:=(yG4 _ _ el1)
 replace hys2:=(zBT.same yG4 hys2)
 refine ⟨_,rfl,rm,rfl,⟨_,SqL.of (SG4 _ _ hrm)⟩,zDc (K:=K) (a:=rm) (xs:=rv) (fun i ys σ H'=>Paired (fun v (k:List Int)=>Tp H' v (k.map V.int)) ys (((rows.take i).filter fun r:Row3=>decide (r.2.1 < 0)).map fl3)/\(∃ o,σ=[o])/\Same G4 H')
  ⟨.nil,⟨none,rfl⟩,Same.refl _⟩ (fun i ys σ H' hi ⟨e1,_,sm⟩=>⟨SqL.of (sm _ _ (SG4 _ _ hrm)),by have h1:=Paired.length e1; have h2:=List.length_filter_le (fun r:Row3=>decide (r.2.1 < 0)) (rows.take i); rw [List.length_map] at h1; rw [List.length_take] at h2; omega⟩) (zAh (by omega)) ?_ ?_⟩
 ·rintro i x ys σ H' hix ⟨hys,⟨o,rfl⟩,sm⟩
  obtain ⟨r,a,hr3,rfl,ea0⟩:=zGl hrv hix
  have eA:=sm _ _ (SG4 _ _ ea0)
  refine ⟨_,rfl,_,rfl,a,_,_,_,rfl,rfl,SqT.of eA,zIg _ _ _,_,_,rfl,rfl,_,rfl,?_⟩
  by_cases c:r.2.1 < 0
  ·refine zCU (decide_eq_true c) ?_
   have ft:=zEw (p:=fun r:Row3=>decide (r.2.1 < 0)) hr3 (decide_eq_true c)
   refine ⟨_,rfl,?_,⟨_,rfl⟩,sm⟩
   rw [ft,List.map_append]
   exact zAb (R:=fun v (k:List Int)=>Tp H' v (k.map V.int)) ⟨a,rfl,eA.trans (by rw [zGK])⟩ hys
  ·refine zB0 (decide_eq_false c) ?_
   refine ⟨?_,⟨_,rfl⟩,sm⟩
   rw [zGL (p:=fun r:Row3=>decide (r.2.1 < 0)) hr3 (decide_eq_false c)]
   exact hys
 rintro ys3 σ H3 ⟨hys3,⟨o3,rfl⟩,s3⟩ l3 hl3
 rw [lrv,List.take_length] at hys3
 have SG5:=SG4.trans s3
 replace hys1:=(zAk.same s3 hys1)
 replace el1:=(s3 _ _ el1)
 replace hys2:=(zBT.same s3 hys2)
 replace el2:=(s3 _ _ el2)
 have n31:l3≠l1:=fun z=>by rw [z,el1] at hl3; cases hl3
 obtain ⟨G6,hhG6,yG6,el3⟩:=zAV (HO.lst ys3) hl3
 rw [hhG6]
 have SG6:=SG5.trans yG6
 replace hys1:=(zAk.same yG6 hys1)
 replace el1:=(yG6 _ _ el1)
 replace hys2:=(zBT.same yG6 hys2)
 replace el2:=(yG6 _ _ el2)
 replace hys3:=(zBT.same yG6 hys3)
 have rh:zAk (hide [l1] G6) ys1 (zGU rows):=Paired.mapP hys1 fun _ _ z=>zMa el1 z
 have uh:zBT (hide [l1] G6) ys2 ((upM rows).map fl3):=Paired.mapP hys2 fun _ _ z=>zIj el1 z
 have lh:zBT (hide [l1] G6) ys3 ((lowM rows).map fl3):=Paired.mapP hys3 fun _ _ z=>zIj el1 z
 have gl2:hide [l1] G6 l2=some (.lst ys2):=(zBE fun z=>n21 (List.mem_singleton.mp z)).trans el2
 have gl3:hide [l1] G6 l3=some (.lst ys3):=(zBE fun z=>n31 (List.mem_singleton.mp z)).trans el3
 have sHG:Same H (hide [l1] G6):=zCD nl1 SG6
 have UP:=low3 (p:=fun r:Row3=>decide (r.2.1 > 0)) RO
 have LO:=low3 (p:=fun r:Row3=>decide (r.2.1 < 0)) RO
 have lu:ys2.length=(upM rows).length:=(Paired.length uh).trans (List.length_map _)
 have ll:ys3.length=(lowM rows).length:=(Paired.length lh).trans (List.length_map _)
 have lz:(zGU rows).length + 0<=(noSt rows).length:=by
  unfold noSt
  rw [List.length_append]
  omega
 generalize hid:hide [l1] G6=G at rh uh lh gl2 gl3 sHG
 refine ⟨_,rfl,l2,rfl,⟨_,SqL.of el2⟩,zED (K:=K) (a:=l2) (xs:=ys2)
  (fun i σ H'=>∃ (tv:List V) (o4 o5 o6:Option V),σ=[some (.ref rm),some (.ref l1),some (.ref l2),some (.ref l3),o4,o5,o6]/\Same G (hide [l1] H')/\H' l1=some (.lst tv)/\zAk (hide [l1] H') tv (zGU rows++((upM rows).take i).flatMap fun u=>(lowM rows).map (zHL u)))
  ⟨ys1,none,none,none,rfl,by rw [hid]; exact Same.refl _,el1,by rw [hid,List.take_zero,List.flatMap_nil,List.append_nil]; exact rh⟩ (fun i σ H' _ ⟨_,_,_,_,_,sm,_⟩=>SqL.of (zAZ _ _ (sm _ _ gl2))) ?_ ?_⟩
 ·rintro i x σ M0 hix ⟨tv,o4,o5,o6,rfl,sm,ef,htv⟩
  obtain ⟨u,ua,hu,rfl,eu0⟩:=zGl uh hix
  obtain ⟨u1,u2,u3⟩:=UP u (List.mem_of_getElem? hu)
  refine ⟨_,rfl,l3,rfl,⟨_,SqL.of (zAZ _ _ (sm _ _ gl3))⟩,zED (K:=K) (a:=l3) (xs:=ys3)
   (fun j σ H'=>∃ (tv:List V) (o5 o6:Option V),σ=[some (.ref rm),some (.ref l1),some (.ref l2),some (.ref l3),some (.ref ua),o5,o6]/\Same G (hide [l1] H')/\H' l1=some (.lst tv)/\zAk (hide [l1] H') tv (zGU rows++(((upM rows).take i).flatMap fun u=>(lowM rows).map (zHL u))++((lowM rows).take j).map (zHL u)))
   ⟨tv,o5,o6,rfl,sm,ef,by rw [List.take_zero,List.map_nil,List.append_nil]; exact htv⟩ (fun i σ H' _ ⟨_,_,_,_,sm,_⟩=>SqL.of (zAZ _ _ (sm _ _ gl3))) ?_ ?_⟩
  ·rintro j x σ H' hjx ⟨tv2,o5,o6,rfl,sm2,ef,htv2⟩
   obtain ⟨lo,la,hlo,rfl,eo0⟩:=zGl lh hjx
   obtain ⟨v1,v2,v3⟩:=LO lo (List.mem_of_getElem? hlo)
   have sj:=sm2.trans zAZ
   have eU:=sj _ _ eu0
   have eO:=sj _ _ eo0
   refine ⟨_,rfl,_,rfl,la,_,_,_,rfl,rfl,SqT.of eO,zIg _ _ _,_,rfl,_,rfl,_,rfl,_,rfl,ua,_,_,_,rfl,rfl,SqT.of eU,zIg _ _ _,_,rfl,-lo.2.1,u.2.1,ua,la,fl3 u,fl3 lo,rfl,.inl (SqT.of (eU.trans (by rw [zGK]))),.inl (SqT.of (eO.trans (by rw [zGK]))),(by unfold fl3; rw [List.length_append,List.length_append,u1,v1]; rfl),(by unfold fl3; rw [List.length_append,u1]; show n + 2<=100; omega),Bd.neg v3,u3,u2,v2,fun l9 M1 z1 _ el9=>?_⟩
   rw [zOD (u1.trans v1.symm),List.map_append] at el9
   have SL1:=sj.trans z1
   replace ef:=(z1 _ _ ef)
   have lm:(mixM (-lo.2.1) u.1 u.2.1 lo.1).length=n:=by
    unfold mixM
    rw [List.length_map,List.length_zip,u1,v1,Nat.min_self]
   have ne:(mixM (-lo.2.1) u.1 u.2.1 lo.1).map V.int≠[]:=fun z=>by
    have h:=congrArg List.length z
    rw [List.length_map,lm] at h
    have h0:n=0:=h
    omega
   refine ⟨_,rfl,.inl ⟨rfl,_,SqL.of ef⟩,_,rfl,_,rfl,_,rfl,l9,_,rfl,SqL.of el9,fun p1 hp1=>?_⟩
   have ec2:=(zGM ((mixM (-lo.2.1) u.1 u.2.1 lo.1).map V.int) (.int (-lo.2.1 * u.2.1 + u.2.1 * lo.2.1)) (.int (-lo.2.1 * u.2.2 + u.2.1 * lo.2.2))).1
   rw [show cutV (_++[_,_].map V.int) none (some (-2))=_ from ec2]
   obtain ⟨L2,hhL2,yL2,ep1⟩:=zAV (HO.lst ((mixM (-lo.2.1) u.1 u.2.1 lo.1).map V.int)) hp1
   rw [hhL2]
   have SL2:=SL1.trans yL2
   replace ef:=(yL2 _ _ ef)
   replace el9:=(yL2 _ _ el9)
   refine ⟨p1,_,rfl,.inl ⟨SqL.of ep1,fun p2 hp2=>?_⟩⟩
   obtain ⟨L3,hhL3,yL3,ep2⟩:=zAV (HO.tup ((mixM (-lo.2.1) u.1 u.2.1 lo.1).map V.int)) hp2
   rw [hhL3]
   have SL3:=SL2.trans yL3
   replace ef:=(yL3 _ _ ef)
   replace el9:=(yL3 _ _ el9)
   refine ⟨_,rfl,_,rfl,l9,_,_,_,rfl,rfl,SqL.of el9,zNY _ _ _,sz1,fun t3 ht3=>?_⟩
   obtain ⟨L4,hhL4,yL4,et3⟩:=zAV (HO.tup [V.int (-lo.2.1 * u.2.2 + u.2.1 * lo.2.2)]) ht3
   rw [hhL4]
   have SL4:=SL3.trans yL4
   replace ef:=(yL4 _ _ ef)
   replace ep2:=(yL4 _ _ ep2)
   refine ⟨p2,t3,_,_,rfl,rfl,SqT.of ep2,SqT.of et3,ne,(by rw [List.length_map,lm]; exact zAh ((by show n + 1<=1000; omega))),(fun z=>nomatch z),fun _ p hp=>?_⟩
   obtain ⟨L5,hhL5,yL5,ep⟩:=zAV (HO.tup ((mixM (-lo.2.1) u.1 u.2.1 lo.1).map V.int++[V.int (-lo.2.1 * u.2.2 + u.2.1 * lo.2.2)])) hp
   rw [hhL5]
   have SL5:=SL4.trans yL5
   replace ef:=(yL5 _ _ ef)
   have ltv:=Paired.length htv2
   have ltk:=zKw rows i j hu
   refine ⟨l1,tv2,.ref p,rfl,rfl,ef,zAp (by omega),?_⟩
   have np:p∉[l1]:=fun z=>by rw [List.mem_singleton.mp z,ef] at ep; cases ep
   have h4:=(zAf (B:=[l1]) (z1.trans (yL2.trans (yL3.trans (yL4.trans yL5))))).trans (zBA (x:=l1) (HO.lst (tv2++[V.ref p])))
   refine ⟨tv2++[V.ref p],_,_,rfl,sm2.trans h4,zAF,?_⟩
   rw [zAa hlo,List.map_append,<- List.append_assoc]
   exact zAb (R:=RwV _) ⟨p,rfl,zBA (x:=l1) _ _ _ ((zBE np).trans ep)⟩ (zAk.same h4 htv2)
  rintro σ M9 ⟨tv2,o5,o6,rfl,sm2,ef,htv2⟩
  refine ⟨tv2,_,_,_,rfl,sm2,ef,?_⟩
  rw [ll,List.take_length] at htv2
  rw [zAa hu,List.flatMap_append,<- List.append_assoc,List.flatMap_cons,List.flatMap_nil,List.append_nil]
  exact htv2
 rintro σ M9 ⟨tv,o4,o5,o6,rfl,sm,ef,htv⟩
 rw [lu,List.take_length] at htv
 exact ⟨_,rfl,q l1 tv M9 (sHG.trans (sm.trans zAZ)) nl1 ef (zAk.same zAZ htv)⟩
end
def sr3 (n:Nat) (bs:List (Int × Int)) (m:MD) (r:List Int × Int):Row3:=((List.range n).map (plcL r.1 m.nexts),sumP r.1 m.steer,(m.div * r.2 - sumP r.1 m.add) - sumP ((List.range bs.length).map (plcL r.1 m.push)) (zCr ((List.range bs.length).map (plcL r.1 m.push)) bs))
def zC2 (n:Nat) (bs:List (Int × Int)) (m:MD) (lo hi:Int) (rows:List (List Int × Int)):List Row3:=rows.map (sr3 n bs m)++[(List.replicate n 0,1,hi),(List.replicate n 0,-1,-lo)]
theorem zHP {n:Nat} (h:n<=3) (x y:Int):zFR (n:Int) (n + 1) x++[y]=List.replicate n 0++[x,y]:=by
 match n,h with
 | 0,_=>rfl
 | 1,_=>rfl
 | 2,_=>rfl
 | 3,_=>rfl
theorem zNr {n:Nat} (h:n<=3) (bs:List (Int × Int)) (m:MD) (lo hi:Int) (rows:List (List Int × Int)):zMw n bs m lo hi rows=(zC2 n bs m lo hi rows).map fl3:=by
 unfold zMw zC2
 rw [List.map_append,List.map_map,zHP h,zHP h]
 rfl
def aftM (n:Nat) (bs:List (Int × Int)) (m:MD) (lo hi:Int) (safe rows:List (List Int × Int)):List (List Int × Int):=safe++noSt (zC2 n bs m lo hi rows)
def zCh (n:Nat) (bs:List (Int × Int)) (m:MD) (lo hi:Int) (safe:List (List Int × Int)):Nat->List (List Int × Int)
 | 0=>tidM safe
 | k + 1=>tidM (aftM n bs m lo hi safe (zCh n bs m lo hi safe k))
def wK:Nat->Nat
 | 0=>2
 | k + 1=>2 * wK k + 10
def bK:Nat->Nat
 | 0=>106
 | k + 1=>bK k + wK k + 10
theorem zHM:∀ k,wK k + 104<=bK k/\2<=wK k
 | 0=>⟨by decide,by decide⟩
 | k + 1=>by
  obtain ⟨h,h2⟩:=zHM k
  show 2 * wK k + 10 + 104<=bK k + wK k + 10/\2<=2 * wK k + 10
  omega
theorem zGb:∀ {k:Nat},k<=6->wK k<=800/\bK k<=900
 | 0,_=>by decide
 | 1,_=>by decide
 | 2,_=>by decide
 | 3,_=>by decide
 | 4,_=>by decide
 | 5,_=>by decide
 | 6,_=>by decide
def WB (rows:List (List Int × Int)) (n w b:Nat):Prop:=∀ r∈rows,r.1.length=n/\(∀ x∈r.1,Bd w x)/\Bd b r.2
theorem WB.tid {rows:List (List Int × Int)} {n w b:Nat} (h:WB rows n w b) (h1:1<=b):WB (tidM rows) n w b:=by
 intro r hr
 rw [zKF] at hr
 unfold dueM at hr
 rcases List.mem_append.mp hr with z | z
 ·obtain ⟨p,hp,e⟩:=List.mem_map.mp z
  rcases zId rows p hp with y | y
  ·cases y
  obtain ⟨l,W,B⟩:=h _ y
  rw [<- e]
  refine ⟨by unfold zEJ; rw [List.length_map]; exact l,fun w hw=>?_,B.fdiv _⟩
  obtain ⟨x,hx,e2⟩:=List.mem_map.mp hw
  rw [<- e2]
  exact (W x hx).fdiv _
 ·cases q:(rows.foldl zCv ([],none)).2 with
  | none=>rw [q] at z; cases z
  | some ws=>
   rw [q] at z
   rw [List.mem_singleton.mp z]
   rcases zKN rows ws q with y | ⟨r',hr',e⟩
   ·cases y
   rw [<- e]
   exact ⟨(h _ hr').1,(h _ hr').2.1,Bd.mono (i:=-1) (n:=1) Bd.lit h1⟩
theorem WB.ok {rows:List (List Int × Int)} {n w b:Nat} (h:WB rows n w b) (hw:w<=2000) (hb:b<=2000):zGq rows n:=fun r hr=>⟨⟨(h r hr).1,fun x hx=>((h r hr).2.1 x hx).mono hw⟩,(h r hr).2.2.mono hb⟩
theorem zDx (n:Nat):Bd n 0:=Nat.pow_pos (by decide)
theorem zLX {k:Nat}:∀ {l:List Int},(∀ x∈l,Bd k x)->l.length<=3->Bd (k + 2) l.sum
 | [],_,_=>zDx _
 | [a],h,_=>by
  show Bd (k + 2) (a + 0)
  rw [Int.add_zero]
  exact (h a List.mem_cons_self).mono (by omega)
 | [a,b],h,_=>by
  show Bd (k + 2) (a + (b + 0))
  rw [Int.add_zero]
  exact ((h a (by simp)).add (h b (by simp))).mono (by omega)
 | [a,b,c],h,_=>by
  show Bd (k + 2) (a + (b + (c + 0)))
  rw [Int.add_zero]
  exact ((h a (by simp)).mono (by omega)).add ((h b (by simp)).add (h c (by simp)))
theorem zDI {k:Nat} {l:List Int} (h:∀ x∈l,Bd k x) (j:Nat):Bd k (l.getD j 0):=by
 rw [List.getD_eq_getElem?_getD]
 cases e:l[j]? with
 | none=>exact zDx _
 | some x=>exact h x (List.mem_of_getElem? e)
theorem zJJ {w c:Nat} {ws:List Int} {ls:List (List Int)} (hw:∀ x∈ws,Bd w x) (hl:∀ r∈ls,∀ x∈r,Bd c x) (h3:ws.length<=3) (j:Nat):Bd (w + c + 2) (plcL ws ls j):=by
 unfold plcL
 refine zLX (fun x hx=>?_) (by rw [List.length_map,List.length_zip]; omega)
 obtain ⟨q,hq,rfl⟩:=List.mem_map.mp hx
 exact (hw _ (List.of_mem_zip hq).1).mul (zDI (hl _ (List.of_mem_zip hq).2) j)
theorem zIe {w c:Nat} {xs ys:List Int} (hx:∀ x∈xs,Bd w x) (hy:∀ x∈ys,Bd c x) (h3:xs.length<=3):Bd (w + c + 2) (sumP xs ys):=by
 rw [<- zGx]
 refine zLX (fun x h=>?_) (by rw [List.length_map,List.length_zip]; omega)
 obtain ⟨q,hq,rfl⟩:=List.mem_map.mp h
 exact (hx _ (List.of_mem_zip hq).1).mul (hy _ (List.of_mem_zip hq).2)
structure zCo (n:Nat) (bs:List (Int × Int)) (m:MD) (lo hi:Int) (safe:List (List Int × Int)):Prop where
 n1:1<=n
 n3:n<=3
 b2:bs.length<=2
 bb:∀ b∈bs,Bd 102 b.1/\Bd 102 b.2
 nx:∀ r∈m.nexts,∀ x∈r,Bd 3 x
 st:∀ x∈m.steer,Bd 2 x
 pu:∀ r∈m.push,∀ x∈r,Bd 2 x
 ad:∀ x∈m.add,Bd 102 x
 dv:Bd 3 m.div
 sf:WB safe n 2 106
 s8:safe.length<=8
 lo:Bd 106 lo
 hi:Bd 106 hi
theorem zCo.mbd {n:Nat} {bs:List (Int × Int)} {m:MD} {lo hi:Int} {safe:List (List Int × Int)} (G:zCo n bs m lo hi safe):MBd m:=⟨fun r hr x hx=>(G.nx r hr x hx).mono,fun r hr x hx=>(G.pu r hr x hx).mono,fun x hx=>(G.ad x hx).mono,G.dv.mono⟩
def W3 (rows:List Row3) (n w b:Nat):Prop:=∀ r∈rows,r.1.length=n/\(∀ x∈r.1,Bd (w + 5) x)/\Bd (w + 4) r.2.1/\Bd (b + 5) r.2.2
theorem zCo.three {n:Nat} {bs:List (Int × Int)} {m:MD} {lo hi:Int} {safe rows:List (List Int × Int)} (G:zCo n bs m lo hi safe) {w b:Nat} (h:WB rows n w b) (hw:w + 104<=b) (h6:2<=w):W3 (zC2 n bs m lo hi rows) n w b:=by
 intro r hr
 unfold zC2 at hr
 have n3:=G.n3
 have b2:=G.b2
 have zz:∀ x∈List.replicate n (0:Int),Bd (w + 5) x:=fun x hx=>by
  rw [List.eq_of_mem_replicate hx]
  exact zDx _
 rcases List.mem_append.mp hr with hr | hr
 ·obtain ⟨q,hq,rfl⟩:=List.mem_map.mp hr
  obtain ⟨l,W,B⟩:=h q hq
  have hp:∀ x∈(List.range bs.length).map (plcL q.1 m.push),Bd (w + 2 + 2) x:=fun x hx=>by
   obtain ⟨j,_,rfl⟩:=List.mem_map.mp hx
   exact zJJ W G.pu (by omega) j
  have h1:=(G.dv.mul B).mono (m:=b + 3) (by omega)
  have h2:=(zIe W G.ad (by omega)).mono (m:=b + 3) (by omega)
  have h3:=(zIe hp (zIh (us:=(List.range bs.length).map (plcL q.1 m.push)) G.bb) (by rw [List.length_map,List.length_range]; omega)).mono (m:=b + 3 + 1) (by omega)
  refine ⟨by unfold sr3; rw [List.length_map,List.length_range],fun x hx=>?_,(zIe W G.st (by omega)).mono (by omega),(h1.sub h2).sub h3⟩
  obtain ⟨j,_,rfl⟩:=List.mem_map.mp hx
  exact (zJJ W G.nx (by omega) j).mono (by omega)
 ·rcases List.mem_cons.mp hr with rfl | hr
  ·exact ⟨List.length_replicate,zz,Bd.mono (i:=1) (n:=1) Bd.lit (by omega),G.hi.mono (by omega)⟩
  ·rw [List.mem_singleton.mp hr]
   exact ⟨List.length_replicate,zz,Bd.mono (i:=-1) (n:=1) Bd.lit (by omega),G.lo.neg.mono (by omega)⟩
theorem W3.no {rows:List Row3} {n w b:Nat} (h:W3 rows n w b):WB (noSt rows) n (2 * w + 10) (b + w + 10):=by
 intro r hr
 unfold noSt at hr
 rcases List.mem_append.mp hr with hr | hr
 ·obtain ⟨q,hq,rfl⟩:=List.mem_map.mp hr
  obtain ⟨a,b,c,d⟩:=h q (List.mem_filter.mp hq).1
  exact ⟨a,fun x hx=>(b x hx).mono (by omega),d.mono (by omega)⟩
 ·obtain ⟨u,hu,hr⟩:=List.mem_flatMap.mp hr
  obtain ⟨l,hl,rfl⟩:=List.mem_map.mp hr
  obtain ⟨a,b,c,d⟩:=h u (List.mem_filter.mp hu).1
  obtain ⟨a',b',c',d'⟩:=h l (List.mem_filter.mp hl).1
  refine ⟨by unfold zHL mixM; rw [List.length_map,List.length_zip,a,a',Nat.min_self],fun x hx=>?_,?_⟩
  ·obtain ⟨q,hq,rfl⟩:=List.mem_map.mp hx
   have h1:=c'.neg.mul (b _ (List.of_mem_zip hq).1)
   have h2:=c.mul (b' _ (List.of_mem_zip hq).2)
   exact (h1.add h2).mono (by omega)
  ·exact ((c'.neg.mul d).add (c.mul d')).mono (by omega)
theorem WB.app {xs ys:List (List Int × Int)} {n w b w' b':Nat} (h:WB xs n w b) (k:WB ys n w' b') (hw:w<=w') (hb:b<=b'):WB (xs++ys) n w' b':=fun r hr=>by
 rcases List.mem_append.mp hr with hr | hr
 ·exact ⟨(h r hr).1,fun x hx=>((h r hr).2.1 x hx).mono hw,(h r hr).2.2.mono hb⟩
 ·exact k r hr
theorem zCo.aft {n:Nat} {bs:List (Int × Int)} {m:MD} {lo hi:Int} {safe rows:List (List Int × Int)} (G:zCo n bs m lo hi safe) {k:Nat} (h:WB rows n (wK k) (bK k)):WB (aftM n bs m lo hi safe rows) n (wK (k + 1)) (bK (k + 1)):=by
 obtain ⟨h1,h2⟩:=zHM k
 exact G.sf.app (W3.no (G.three h h1 h2)) (by show 2<=2 * wK k + 10; omega) (by show 106<=bK k + wK k + 10; omega)
theorem zCo.held {n:Nat} {bs:List (Int × Int)} {m:MD} {lo hi:Int} {safe:List (List Int × Int)} (G:zCo n bs m lo hi safe):∀ k:Nat,WB (zCh n bs m lo hi safe k) n (wK k) (bK k)
 | 0=>WB.tid G.sf (by decide)
 | k + 1=>WB.tid (G.aft (zCo.held G k)) (by have:=zHM (k + 1); omega)
theorem filt3 (rows:List Row3):(zGU rows).length + ((upM rows).length + (lowM rows).length)=rows.length:=by
 unfold zGU upM lowM
 rw [List.length_map]
 induction rows with
 | nil=>rfl
 | cons r rs ih=>
  rw [List.filter_cons,List.filter_cons,List.filter_cons,List.length_cons,<- ih]
  rcases Int.lt_trichotomy r.2.1 0 with h | h | h
  ·rw [if_neg (by rw [decide_eq_false (by omega)]; decide),if_neg (by rw [decide_eq_false (by omega)]; decide),if_pos (decide_eq_true h),List.length_cons]
   omega
  ·rw [if_pos (decide_eq_true h),if_neg (by rw [decide_eq_false (by omega)]; decide),if_neg (by rw [decide_eq_false (by omega)]; decide),List.length_cons]
   omega
  ·rw [if_neg (by rw [decide_eq_false (by omega)]; decide),if_pos (decide_eq_true h),if_neg (by rw [decide_eq_false (by omega)]; decide),List.length_cons]
   omega
theorem zL9 (rows:List Row3):(noSt rows).length=(zGU rows).length + (upM rows).length * (lowM rows).length:=by
 unfold noSt
 rw [List.length_append]
 congr 1
 induction upM rows with
 | nil=>exact (Nat.zero_mul _).symm
 | cons u us ih=>rw [List.flatMap_cons,List.length_append,List.length_map,List.length_cons,ih,Nat.succ_mul,Nat.add_comm]
theorem zM6 {u l:Nat} (h:u + l<=62):2 * (u * l)<=31 * (u + l):=by
 have h1:(0:Int)<=((u:Int) - l) * ((u:Int) - l):=by
  rcases Int.le_total 0 ((u:Int) - l) with h | h
  ·exact Int.mul_nonneg h h
  ·exact Int.mul_nonneg_of_nonpos_of_nonpos h h
 have h2:(u + l) * (u + l)<=62 * (u + l):=Nat.mul_le_mul_right _ h
 have e1:((u:Int) - l) * ((u:Int) - l)=u * u + l * l - 2 * (u * l):=by grind
 have e2:(u + l) * (u + l)=u * u + l * l + 2 * (u * l):=by grind
 have e3:((u * u:Nat):Int)=(u:Int) * u:=by simp
 have e4:((l * l:Nat):Int)=(l:Int) * l:=by simp
 have e5:((u * l:Nat):Int)=(u:Int) * l:=by simp
 omega
theorem zM9 {rows:List Row3} (h:rows.length<=62):(noSt rows).length<=961:=by
 have h1:=filt3 rows
 rw [zL9]
 have h2:=zM6 (u:=(upM rows).length) (l:=(lowM rows).length) (by omega)
 omega
def okTo (n:Nat) (bs:List (Int × Int)) (m:MD) (lo hi:Int) (safe:List (List Int × Int)) (k:Nat):Prop:=∀ j,j<=k->(zCh n bs m lo hi safe j).length<=60
theorem okTo.step {n:Nat} {bs:List (Int × Int)} {m:MD} {lo hi:Int} {safe:List (List Int × Int)} {k:Nat} (h:okTo n bs m lo hi safe k) (q:(zCh n bs m lo hi safe (k + 1)).length<=60):okTo n bs m lo hi safe (k + 1):=fun j hj=>by
 by_cases e:j=k + 1
 ·rw [e]; exact q
 ·exact h j (by omega)
def zFX (n:Nat) (bs:List (Int × Int)) (m:MD) (lo hi:Int) (safe:List (List Int × Int)) (k:Nat):List (List (List Int × Int)):=(List.range (k + 1)).map (zCh n bs m lo hi safe)
theorem zJw (n:Nat) (bs:List (Int × Int)) (m:MD) (lo hi:Int) (safe:List (List Int × Int)) (k:Nat):zFX n bs m lo hi safe (k + 1)=zFX n bs m lo hi safe k++[zCh n bs m lo hi safe (k + 1)]:=by
 unfold zFX
 rw [List.range_succ,List.map_append]
 rfl
structure Er (K:PySem.W.Frag) (mg:Str->Option Value) (cM cP:Addr):Prop where
 mgM:mg "TooMany" = some (.ref cM)
 mgP:mg "NotPlain" = some (.ref cP)
 excM:PySem.W.excIn K cM bmV "ValueError.__new__" = true
 excP:PySem.W.excIn K cP bmV "ValueError.__new__" = true
 mm:PySem.W.exmOne K (.ref cM) (.ref cM)=some true
def zHY (ms:List MD):Prop:=ms.length=1/\(ms.map MD.rows).getD 0 []=[]
def zCT (H:Hp) (vs:List V) (rooms:List (List (List Int × Int))):Prop:=Paired (fun v rows=>∃ a rv,v=V.ref a/\H a=some (.lst rv)/\zAk H rv rows) vs rooms
theorem zCT.same {H H':Hp} {vs:List V} {rooms:List (List (List Int × Int))} (s:Same H H') (h:zCT H vs rooms):zCT H' vs rooms:=Paired.mapP h fun _ _ ⟨a,rv,e,q,r⟩=>⟨a,rv,e,s _ _ q,zAk.same s r⟩
inductive zIp (C CM cP:Addr) (vs:List V) (H:Hp) (Q:VK) (E:XK):Prop
 | mk (o kp km:Addr) (n:Nat) (bs:List (Int × Int)) (ms:List MD) (pv mv:List V) (_:vs=[.ref o]) (_:zA5 C CM H o n bs ms pv mv kp km) (_:ThOk n bs ms) (_:(zHY ms->Q .non H)) (_:(¬ zHY ms->E (.ref cP) none H)):zIp C CM cP vs H Q E
inductive zFn (cM:Addr) (vs:List V) (H:Hp) (Q:VK) (E:XK):Prop
 | mk (a:Addr) (xs:List V) (_:vs=[.ref a]) (_:H a=some (.lst xs)) (_:(xs.length<=60->Q (.ref a) H)) (_:(60 < xs.length->E (.ref cM) none H)):zFn cM vs H Q E
inductive zFz (C CM cM cP:Addr) (vs:List V) (H:Hp) (Q:VK) (E:XK):Prop
 | mk (o kp km sa:Addr) (n:Nat) (bs:List (Int × Int)) (ms:List MD) (pv mv sv:List V) (lo hi:Int) (k:Nat) (safe:List (List Int × Int)) (_:vs=[.ref o,.ref sa,.int lo,.int hi,.int (k:Int)]) (_:zA5 C CM H o n bs ms pv mv kp km) (_:ThOk n bs ms) (_:H sa=some (.lst sv)) (_:zAk H sv safe) (_:((¬ zHY ms/\∀ H',Same H H'->E (.ref cP) none H')\/∃ m,ms=[m]/\zHY ms/\zCo n bs m lo hi safe/\k<=6/\(∀ l lv H',Same H H'->H l=none->H' l=some (.lst lv)->zCT H' lv (zFX n bs m lo hi safe k)->okTo n bs m lo hi safe k->Q (.ref l) H')/\(¬ okTo n bs m lo hi safe k->∀ H',Same H H'->E (.ref cM) none H'))):zFz C CM cM cP vs H Q E
theorem zHX {H:Hp} {l:Addr} {xs:List V} (hl:H l=some (.lst xs)) {a:Addr} {rv:List V} {rows:List (List Int × Int)} (n:a≠l) (h:H a=some (.lst rv)) (hr:zAk H rv rows):hide [l] H a=some (.lst rv)/\zAk (hide [l] H) rv rows:=
 ⟨(zBE fun z=>n (List.mem_singleton.mp z)).trans h,Paired.mapP hr fun _ _ z=>zMa hl z⟩
section
variable {P:Program} {w:World} {K:PySem.W.Frag} {mg:Str->Option Value} {base:Heap} {cM cP:Addr}
abbrev zCd:Stmt:=top 44
theorem zHV:zAP ["thing"] ["thing"] (zAC zCd):=.a
abbrev zDW:Stmt:=top 48
theorem zJa:zAP ["room"] ["room"] (zAC zDW):=.a
abbrev zCM:Stmt:=top 47
theorem zDj:zAP ["thing","safe","low","high","turns","rooms","turn"] ["thing","safe","low","high","turns"] (zAC zCM):=.a
variable {ac ae:Addr} (af:ClsF K mg "Mode" ac) (ah:zCW K ac) (ag:ClsF K mg "Thing" ae) (ai:zBs K ae)
include af ah ag ai
theorem zHB {k:Nat} {f:Addr} {fd:FuncData} (F:Fun K "ask_plain" "ask_plain" zCd f fd) (B:Bl mg) (Z:Er K mg cM cP) (cq:FnM P w K mg base ae "is_plain" ["self"] k (zG1 ae ac)):FnOk P w K mg base (CX1 P w) (k + 1) f fd ["thing"] (zIp ae ac cP):=by
 refine F.okX zHV ?_ ?_
 ·rintro vs H Q E ⟨o,kp,km,n,bs,ms,pv,mv,rfl,_⟩
  rfl
 rintro cdv A outer s H vs Q E hr ⟨o,kp,km,n,bs,ms,pv,mv,rfl,TA,TO,q,q2⟩
 have ZZ:=Z
 have hrm:=hr
 refine ⟨_,(zAH (zBc (zB9 (zBF (zEo cq ag hrm (pvj 0)))) (zAH (zIw (C:=cP) (E:=E) (fun _ _ _ _ _ _ _ _ I mx qx=>zGh I mx qx) ZZ.excP rfl ZZ.mgP rfl (zAA zMe zAB))) zAj)),?_⟩
 obtain ⟨dx,ins⟩:=TA.ins
 refine ⟨_,rfl,o,dx,_,rfl,ins,rfl,o,kp,km,n,bs,ms,pv,mv,rfl,TA,TO,_,rfl,?_⟩
 by_cases c:zHY ms
 ·refine zB0 ?_ (q c)
  rw [decide_eq_true c.1,decide_eq_true c.2]
  rfl
 ·refine zCU ?_ ⟨sz1,q2 c⟩
  show (!(decide (ms.length=1) && decide ((ms.map MD.rows).getD 0 []=[])))=true
  rw [<- Bool.decide_and,decide_eq_false (show ¬ (ms.length=1/\(ms.map MD.rows).getD 0 []=[]) from c)]
  rfl
theorem zIB {k:Nat} {f:Addr} {fd:FuncData} (F:Fun K "counted" "counted" zDW f fd) (B:Bl mg) (Z:Er K mg cM cP):FnOk P w K mg base (CX1 P w) (k + 1) f fd ["room"] (zFn cM):=by
 refine F.okX zJa ?_ ?_
 ·rintro vs H Q E ⟨a,xs,rfl,_⟩
  rfl
 rintro cdv A outer s H vs Q E hr ⟨a,xs,rfl,ha,q,q2⟩
 have ZZ:=Z
 have hrm:=hr
 refine ⟨_,(zAD (zBc (zAx (ji0 zHa) (zAS jlen rfl B.len_ zAv (zAA (pvj 0) zAB)) (zFr rfl B.MOST_ROWS_) (zAq _)) (zAH (zIw (C:=cM) (E:=E) (fun _ _ _ _ _ _ _ _ I mx qx=>zGh I mx qx) ZZ.excM rfl ZZ.mgM rfl (zAA zMe zAB))) zAj)
  (zAH (zAU (pvj 0)))),?_⟩
 refine ⟨_,rfl,a,_,rfl,.inl (SqL.of ha),_,_,rfl,rfl,_,rfl,?_⟩
 by_cases c:xs.length<=60
 ·exact zB0 (decide_eq_false (show ¬ ((xs.length:Int) > 60) by omega)) ⟨_,rfl,q c⟩
 ·exact zCU (decide_eq_true (show ((xs.length:Int) > 60) by omega)) ⟨sz1,q2 (by omega)⟩
theorem zGX {k:Nat} {f:Addr} {fd:FuncData} (F:Fun K "held_rooms" "held_rooms" zCM f fd) (B:Bl mg) (Z:Er K mg cM cP) (x_ask_plain:FnX P w K mg base "ask_plain" ["thing"] k (zIp ae ac cP)) (x_counted:FnX P w K mg base "counted" ["room"] k (zFn cM)) (bO:Fn P w K mg base "tidied" ["room"] k (zFc K)) (cr:Fn P w K mg base "without_steering" ["rows"] k zEd) (aG:Fn P w K mg base "steering_rows" ["thing","room","low","high"] k (zC3 ae ac)):FnOk P w K mg base (CX1 P w) (k + 1) f fd ["thing","safe","low","high","turns"] (zFz ae ac cM cP):=by
 refine F.okX zDj ?_ ?_
 ·rintro vs H Q E ⟨o,kp,km,sa,n,bs,ms,pv,mv,sv,lo,hi,k,safe,rfl,_⟩
  rfl
 rintro cdv A outer s H vs Q E hr ⟨o,kp,km,sa,n,bs,ms,pv,mv,sv,lo,hi,k,safe,rfl,TA,TO,hsa,hsv,W⟩
 have ZZ:=Z
 have hrm:=hr
 refine ⟨_,(zAD (zBe (zHA x_ask_plain hr rfl (zAA (pvj 0) zAB)))
  (zAD (zAR (i:=5) zDj.nd rfl (Or.inl rfl) (zA7 (zAA (zHA x_counted hr rfl (zAA (zAG bO hr rfl (zAA (pvj 1) zAB)) zAB)) zAB)))
  (zAD (zBy PassesOwn.leaving rfl (zAs rfl B.range_ (zAA (pvj 4) zAB)) (zAJ (i:=6) zDj.nd rfl (Or.inl rfl)) (zAH (zBe (zDs PySem.F.plainAttrs_list PySem.F.slot_list_append PySem.F.type_list_append japp (pvj 5) (zAA (zHA x_counted hr rfl (zAA (zAG bO hr rfl (zAA (zAK jcat (pvj 1) (zAG cr hr rfl (zAA (zAG aG hr rfl (zAA (pvj 0) (zAA (zAX zAQ (pvj 5) (zBU zAu zAE) (fun _ _=>rfl)) (zAA (pvj 2) (zAA (pvj 3) zAB))))) zAB))) zAB)) zAB)) zAB)))))
  (zAH (zAU (pvj 5)))))),?_⟩
 obtain ⟨dx,ins⟩:=TA.ins
 refine ⟨_,rfl,o,kp,km,n,bs,ms,pv,mv,rfl,TA,TO,fun pl=>?_,fun np=>?_⟩
 case _=>
  rcases W with ⟨np,_⟩ | W
  ·exact absurd pl np
  obtain ⟨m,rfl,_,G,k6,q,qx⟩:=W
  have n1:=G.n1
  have n3:=G.n3
  have s8:=G.s8
  have ok0:=G.held 0
  refine ⟨_,rfl,sa,sv,safe,n,rfl,SqL.of hsa,hsv,G.sf.ok (by decide) (by decide),n1,n3,(by omega),fun l1 rv1 H1 s1 f1 e1 hr1=>?_⟩
  have SG1:=s1
  have len1:rv1.length=(zCh n bs m lo hi safe 0).length:=Paired.length hr1
  refine ⟨l1,rv1,rfl,e1,fun le=>?_,fun gt=>qx (fun z=>by have:=z 0 (Nat.zero_le _); omega) _ s1⟩
  refine ⟨sz1,fun fl hfl=>?_⟩
  have nfl:H fl=none:=s1.free hfl
  have n1f:l1≠fl:=fun z=>by rw [<- z,e1] at hfl; cases hfl
  obtain ⟨G2,hhG2,yG2,efl⟩:=zAV (HO.lst [V.ref l1]) hfl
  rw [hhG2]
  have SG2:=SG1.trans yG2
  replace e1:=(yG2 _ _ e1)
  replace hr1:=(zAk.same yG2 hr1)
  obtain ⟨g1,g2⟩:=zHX efl n1f e1 hr1
  have sHG:Same H (hide [fl] G2):=zCD nfl SG2
  refine ⟨_,rfl,(k:Int),rfl,(by omega),(by omega),zBd (lo:=0) (n:=(k:Int).toNat)
   (fun i σ H'=>∃ (lv:List V) (o6:Option V),σ=[some (.ref o),some (.ref sa),some (.int lo),some (.int hi),some (.int (k:Int)),some (.ref fl),o6]/\Same H (hide [fl] H')/\H' fl=some (.lst lv)/\zCT (hide [fl] H') lv (zFX n bs m lo hi safe i)/\okTo n bs m lo hi safe i)
   ⟨[.ref l1],none,rfl,sHG,efl,.cons ⟨l1,rv1,rfl,g1,g2⟩ .nil,fun j hj=>by rw [Nat.le_zero.mp hj]; omega⟩ ?_ ?_⟩
  ·rintro i σ J0 hi6 ⟨lv,o6,rfl,sm,ef,hlv,OK⟩
   have i6:i < k:=by omega
   have sj:=sm.trans zAZ
   have llv:lv.length=i + 1:=(Paired.length hlv).trans (by unfold zFX; rw [List.length_map,List.length_range])
   obtain ⟨v,hv⟩:∃ v,lv[i]? = some v:=⟨_,List.getElem?_eq_getElem (by omega)⟩
   obtain ⟨rows,hrows,a,rv,rfl,ea,era⟩:=zAc hlv hv
   have erows:rows=zCh n bs m lo hi safe i:=by
    unfold zFX at hrows
    rw [List.getElem?_map,List.getElem?_range (by omega)] at hrows
    exact (Option.some.inj hrows).symm
   have HB:WB rows n (wK i) (bK i):=erows ▸ G.held i
   have six:=zGb (k:=i) (by omega)
   have six1:=zGb (k:=i + 1) (by omega)
   have wb:=zHM i
   have r60:rows.length<=60:=erows ▸ OK i (Nat.le_refl _)
   have W3r:=G.three HB wb.1 wb.2
   have hlast:atI lv (-1)=some (.ref a):=by
    have e:lv=lv.take i++[V.ref a]:=by rw [<- zAa hv,List.take_of_length_le (by omega)]
    rw [e]
    exact zCE _ _
   have eA:=zAZ _ _ ea
   have eR:=zAk.same zAZ era
   refine ⟨_,rfl,.inl ⟨rfl,_,SqL.of ef⟩,_,rfl,_,rfl,_,rfl,_,rfl,fl,_,_,_,rfl,rfl,SqL.of ef,hlast,_,rfl,_,rfl,o,kp,km,a,n,bs,m,pv,mv,rv,lo,hi,rows,rfl,zA5.same sj TA,TO,G.mbd,(fun x hx=>(G.st x hx).mono),(fun b hb=>⟨((G.bb b hb).1).mono,((G.bb b hb).2).mono⟩),eA,eR,HB.ok (by omega) (by omega),r60,(fun r hr x hx=>?_),fun l2 lv2 J1 z1 _ el2 hl2=>?_⟩
   ·obtain ⟨j,_,rfl⟩:=List.mem_map.mp hx
    exact (zJJ (HB r hr).2.1 G.pu (by have:=(HB r hr).1; omega) j).mono (by omega)
   rw [zNr n3] at hl2
   have SJ1:=sj.trans z1
   replace ef:=(z1 _ _ ef)
   have l62:(zC2 n bs m lo hi rows).length<=62:=by
    unfold zC2
    rw [List.length_append,List.length_map]
    show rows.length + 2<=62
    omega
   have n961:=zM9 l62
   refine ⟨l2,lv2,n,zC2 n bs m lo hi rows,rfl,el2,hl2,(fun r hr=>?_),n1,n3,l62,(by omega),fun l3 lv3 J2 z2 _ el3 hl3=>?_⟩
   ·obtain ⟨x1,x2,x3,x4⟩:=W3r r hr
    exact ⟨x1,fun x hx=>(x2 x hx).mono (by omega),x3.mono (by omega),x4.mono (by omega)⟩
   have SJ2:=SJ1.trans z2
   replace ef:=(z2 _ _ ef)
   have len3:=Paired.length hl3
   have len0:=Paired.length hsv
   refine ⟨sa,l3,_,_,rfl,rfl,SJ2 _ _ hsa,el3,zAh (by omega),fun l4 hl4=>?_⟩
   obtain ⟨J3,hhJ3,yJ3,el4⟩:=zAV (HO.lst (sv++lv3)) hl4
   rw [hhJ3]
   have SJ3:=SJ2.trans yJ3
   replace ef:=(yJ3 _ _ ef)
   replace hl3:=(zAk.same yJ3 hl3)
   have EF3:=ef
   have hcat:zAk J3 (sv++lv3) (aftM n bs m lo hi safe rows):=zDa (zAk.same SJ3 hsv) hl3
   have lcat:(aftM n bs m lo hi safe rows).length<=990:=by
    unfold aftM
    rw [List.length_append]
    omega
   refine ⟨l4,_,_,n,rfl,SqL.of el4,hcat,(G.aft HB).ok (by omega) (by omega),n1,n3,lcat,fun l5 rv5 J4 z4 f5 el5 hr5=>?_⟩
   have SJ4:=SJ3.trans z4
   replace ef:=(z4 _ _ ef)
   rw [erows] at hr5
   have len5:rv5.length=(zCh n bs m lo hi safe (i + 1)).length:=Paired.length hr5
   refine ⟨l5,rv5,rfl,el5,fun le=>?_,fun gt=>qx (fun z=>by have:=z (i + 1) (by omega); omega) _ SJ4⟩
   have nl5:l5≠fl:=fun z=>by rw [z] at f5; rw [EF3] at f5; cases f5
   obtain ⟨g1,g2⟩:=zHX ef nl5 el5 hr5
   have h4:=(zAf (B:=[fl]) (z1.trans (z2.trans (yJ3.trans z4)))).trans (zBA (x:=fl) (HO.lst (lv++[V.ref l5])))
   refine ⟨fl,lv,.ref l5,rfl,rfl,ef,zAp (by omega),?_⟩
   refine ⟨lv++[V.ref l5],_,rfl,sm.trans h4,zAF,?_,OK.step (by omega)⟩
   rw [zJw]
   exact zAb ⟨l5,rv5,rfl,zBA (x:=fl) _ _ _ g1,zAk.same (zBA (x:=fl) _) g2⟩ (zCT.same h4 hlv)
  rintro σ J0 ⟨lv,o6,rfl,sm,ef,hlv,OK⟩
  refine ⟨_,rfl,q fl lv J0 (sm.trans zAZ) nfl ef ?_ ?_⟩
  ·rw [show (k:Int).toNat=k by omega] at hlv
   exact zCT.same zAZ hlv
  ·rw [show (k:Int).toNat=k by omega] at OK
   exact OK
 rcases W with ⟨_,q⟩ | ⟨m,_,pl,_⟩
 ·exact q _ (Same.refl _)
 ·exact absurd pl np
end
theorem zDy {n:Nat} {a b:Int} (h:Bd n b) (p:0 < b):Bd n (a.fmod b):=by
 have h1:=Int.fmod_nonneg_of_pos a p
 have h2:=Int.fmod_lt_of_pos a p
 exact h.of_le (by omega)
theorem zHy {i:Nat} (h:i < 16):Bd 4 (0 + (i:Int)):=by
 show (0 + (i:Int)).natAbs < 2 ^ 4
 omega
theorem zBS {xs:List Int} {i:Int} {k:Nat} (h:k < xs.length) (e:i=(k:Int)):atI (xs.map V.int) i=some (.int (xs.getD k 0)):=by
 rw [e,zNZ h,List.getD_eq_getElem?_getD,List.getElem?_eq_getElem h]
 rfl
theorem zOT {b:Bool} {x y:Int}:atI [V.int x,V.int y] (if b then 1 else 0)=some (.int (if b then y else x)):=by cases b <;> rfl
theorem zBX {α:Type} {P:α->Prop} {xs:List α} {y:α} (h:∀ x∈xs,P x) (k:P y):∀ x∈xs++[y],P x:=fun x hx=>by
 rcases List.mem_append.mp hx with hx | hx
 ·exact h x hx
 ·rw [List.mem_singleton.mp hx]; exact k
theorem zCB {y f:Int} {n:Nat} (h:Bd n f) (h1 : -f<=y) (h2:y<=f):Bd n y:=h.of_le (by omega)
theorem zEr {B:List Addr} {x:Addr} {H:Hp} (h:x∈B) (o:HO):Same (hide B H) (hide B (upd H x o)):=zHH ((off.refl B H).put o h)
theorem zEs {B:List Addr} {x:Addr} {H:Hp}:Same (hide (x :: B) H) (hide B H):=fun b o h=>by
 have e:=zI5 h
 rw [zBE e] at h
 rw [zBE fun z=>e (List.mem_cons_of_mem _ z)]
 exact h
theorem zER {B:List Addr} {H G:Hp} {c:Addr} (hB:∀ b∈B,∃ o,H b=some o) (s:Same H G) (hc:G c=none):c∉B:=fun z=>by
 obtain ⟨o,ho⟩:=hB c z
 rw [s _ _ ho] at hc
 cases hc
structure MPOk (n w:Nat) (nx pu:List (List Int)) (ad:List Int) (dv:Int):Prop where
 nl:nx.length=n
 nr:∀ r∈nx,r.length=n/\∀ x∈r,Bd 3 x
 pl:pu.length=n
 pr:∀ r∈pu,r.length=w/\∀ x∈r,Bd 2 x
 al:ad.length=n
 ab:∀ x∈ad,Bd 102 x
 d1:1<=dv
 d3:Bd 3 dv
inductive MPV (H:Hp) (n w:Nat) (v:V):Prop
 | mk (t ra na sa pa aa:Addr) (nv pv:List V) (nx pu:List (List Int)) (ad:List Int) (dv:Int) (_:v=.ref t) (_:H t=some (.tup [.ref ra,.ref na,.ref sa,.ref pa,.ref aa,.int dv])) (_:H na=some (.lst nv)) (_:TabV H nv nx) (_:H pa=some (.lst pv)) (_:TabV H pv pu) (_:H aa=some (.lst (ad.map V.int))) (_:MPOk n w nx pu ad dv):MPV H n w v
theorem MPV.same {H H':Hp} {n w:Nat} {v:V} (s:Same H H') (h:MPV H n w v):MPV H' n w v:=by
 obtain ⟨t,ra,na,sa,pa,aa,nv,pv,nx,pu,ad,dv,e,h1,h2,h3,h4,h5,h6,h7⟩:=h
 exact ⟨t,ra,na,sa,pa,aa,nv,pv,nx,pu,ad,dv,e,s _ _ h1,s _ _ h2,TabV.same s h3,s _ _ h4,TabV.same s h5,s _ _ h6,h7⟩
inductive zDv (vs:List V) (H:Hp) (Q:VK) (E:XK):Prop
 | mk (x far:Int) (_:vs=[.int x,.int far]) (_:0<=far) (_:Bd 100 far) (_:∀ y:Int,-far<=y->y<=far->Q (.int y) H):zDv vs H Q E
inductive zFg (vs:List V) (H:Hp) (Q:VK) (E:XK):Prop
 | mk (c u:Int) (n w:Nat) (sp:Bool) (B:List Addr) (_:vs=[.int c,.int (n:Int),.int (w:Int),.int u,.bl sp]) (_:1<=n) (_:n<=3) (_:w<=2) (_:0 < u) (_:Bd 100 u) (_:(∀ b∈B,∃ o,H b=some o)) (_:∀ v H',Same H H'->MPV (hide B H') n w v->Q v H'):zFg vs H Q E
section
variable {P:Program} {w:World} {K:PySem.W.Frag} {mg:Str->Option Value} {base:Heap} {cM cP:Addr}
abbrev zCa:Stmt:=top 53
theorem zHU:zAP ["_law_script","_law_k"] ["_law_script","_law_k"] (zAC zCa):=.a
abbrev zCx:Stmt:=top 54
theorem zBx:zAP ["_law_cell","_law_many","_law_found","_law_rest","_law_k","_law_number_here"] ["_law_cell","_law_many"] (zAC zCx):=.a
abbrev zCy:Stmt:=top 61
theorem zH1:zAP ["_law_x","_law_far"] ["_law_x","_law_far"] (zAC zCy):=.a
abbrev zCk:Stmt:=top 62
theorem zCP:zAP nl3 nl7 (zAC zCk):=.a
variable {ac ae:Addr} (af:ClsF K mg "Mode" ac) (ah:zCW K ac) (ag:ClsF K mg "Thing" ae) (ai:zBs K ae)
include af ah ag ai
theorem zHc {k:Nat} {f:Addr} {fd:FuncData} (F:Fun K "_law_cell_at" "_law_cell_at" zCa f fd) (B:Bl mg):FnOk P w K mg base CX0 (k + 1) f fd ["_law_script","_law_k"] (zGe K):=by
 refine F.ok zHU ?_ ?_
 ·rintro vs H Q E ⟨a,ns,k,rfl,_⟩
  rfl
 rintro cdv A outer s H vs Q E hr ⟨a,ns,k,rfl,hS,h0,q⟩
 refine ⟨_,(zAD (zBc (zAx (ji0 zIA) (pvj 1) (zAS jlen rfl B.len_ zAv (zAA (pvj 0) zAB)) (zAq _)) (zAH (zAU (zAX zAQ (pvj 0) (pvj 1) (fun _ _=>rfl)))) zAj)
  (zAH (zAU zAE))),?_⟩
 try dsimp only [cxOf,Cx.nox,Cx.wish]
 refine ⟨_,rfl,_,rfl,a,_,rfl,.inl hS,_,_,rfl,rfl,_,rfl,?_⟩
 refine ite2 (fun c=>?_) (fun c=>?_)
 ·have c':k < ((ns.map V.int).length:Int):=of_decide_eq_true c
  rw [List.length_map] at c'
  have hk:k.toNat < ns.length:=by omega
  have ek:k=((k.toNat:Nat):Int):=by omega
  have q0:atI (ns.map V.int) ((k.toNat:Nat):Int)=some (.int ns[k.toNat]):=zDJ (by rw [List.getElem?_map,List.getElem?_eq_getElem hk]; rfl)
  rw [<- ek] at q0
  refine ⟨_,rfl,_,rfl,a,_,k,.int (ns[k.toNat]),rfl,rfl,hS,q0,?_⟩
  ·have e:ns[k.toNat]=zBR ns k:=by unfold zBR; rw [List.getElem?_eq_getElem hk]; rfl
   rw [e]
   exact q
 ·have c':¬ k < ((ns.map V.int).length:Int):=fun z=>c (decide_eq_true z)
  rw [List.length_map] at c'
  have e:(0:Int)=zBR ns k:=by unfold zBR; rw [List.getElem?_eq_none (by omega)]; rfl
  show Q (.int 0) H
  rw [e]
  exact q
theorem zIC {k:Nat} {f:Addr} {fd:FuncData} (F:Fun K "_law_stream" "_law_stream" zCx f fd) (B:Bl mg):FnOk P w K mg base CX0 (k + 1) f fd ["_law_cell","_law_many"] zCu:=by
 refine F.ok zBx ?_ ?_
 ·rintro vs H Q E ⟨c,mm,rfl,_⟩
  rfl
 rintro cdv A outer s H vs Q E hr ⟨c,mm,rfl,m0,m10,q⟩
 refine ⟨_,(zAD (zAR (i:=2) zBx.nd rfl (Or.inl rfl) (zA7 zAB))
  (zAD (zBc (zAx (ji0 zOA) (pvj 0) (zAK (ji zFP) zAE zAE) (zAq _)) (zAD (zAR (i:=3) zBx.nd rfl (Or.inl rfl) (zAK (ji0 zCR) (pvj 0) (zAK (ji zFP) zAE zAE)))
   (zAD (zBy PassesOwn.never rfl (zAs rfl B.range_ (zAA (pvj 1) zAB)) (zAJ (i:=4) zBx.nd rfl (Or.inl rfl)) (zAD (zBe (zDs PySem.F.plainAttrs_list PySem.F.slot_list_append PySem.F.type_list_append japp (pvj 2) (zAA (zAK (ji zAz) (pvj 3) (zAK (ji zFP) zAE zAE)) zAB)))
    (zAH (zAR (i:=3) zBx.nd rfl (Or.inl rfl) (zAK (ji zBh) (pvj 3) (zAK (ji zFP) zAE zAE))))))
   (zAH (zAU (pvj 2))))) zAj)
  (zAD (zAR (i:=5) zBx.nd rfl (Or.inl rfl) (zAK (ji0 zAt) (zAK (ji zAz) (pvj 0) (zAK (ji0 zAt) (zAK (ji zFP) zAE zAE) zAE)) zAE))
  (zAD (zBy PassesOwn.never rfl (zAs rfl B.range_ (zAA (zAK (ji0 zAt) (pvj 1) zAE) zAB)) (zAJ (i:=4) zBx.nd rfl (Or.inl rfl)) (zAD (zAR (i:=5) zBx.nd rfl (Or.inl rfl) (zAK (ji zAz) (zAK (ji0 zAt) (zAK (ji0 zAt) (zAK (ji zAd) (pvj 5) (pvj 5)) (zAK (ji zAd) zAE (pvj 5))) (pvj 4)) (zAK (ji0 zAt) (zAK (ji zFP) zAE zAE) zAE)))
   (zAH (zBe (zDs PySem.F.plainAttrs_list PySem.F.slot_list_append PySem.F.type_list_append japp (pvj 2) (zAA (pvj 5) zAB))))))
  (zAH (zAU (zBP zI3 (pvj 2) (zBg zAE) zCG))))))),?_⟩
 try dsimp only [cxOf,Cx.nox,Cx.wish]
 refine ⟨sz0,fun l hl=>?_⟩
 refine ⟨_,rfl,_,_,rfl,rfl,⟨by decide,by decide,by decide⟩,_,_,rfl,rfl,_,rfl,?_⟩
 refine ite2 (fun cc=>?_) (fun cc=>?_)
 ·refine ⟨_,rfl,_,_,rfl,rfl,⟨by decide,by decide,by decide⟩,_,_,rfl,rfl,?_⟩
  refine ⟨_,rfl,mm,rfl,(by omega),(by omega),zBd (lo:=0) (n:=mm.toNat)
   (fun i σ H2=>∃ (xs:List Int) (rs:Int) (kk:Option V),σ=[some (.int c),some (.int mm),some (.ref l),some (.int rs),kk,none]/\H2=upd H l (.lst (xs.map V.int))/\xs.length=i/\∀ x∈xs,0<=x/\x < 10 ^ 45)
   ⟨[],_,none,rfl,rfl,rfl,fun x hx=>by cases hx⟩ ?_ ?_⟩
  ·rintro i σ H2 hi ⟨xs,rs,kk,rfl,rfl,hlen,hxs⟩
   refine ⟨_,rfl,.inl ⟨rfl,_,SqL.of zAF⟩,_,rfl,_,_,rfl,rfl,⟨by decide,by decide,by decide⟩,_,_,rfl,rfl,(show (10:Int) ^ (45:Int).toNat≠0 by decide),l,_,_,rfl,rfl,zAF,?_,?_⟩
   ·rw [List.length_map]
    exact zAp (by omega)
   refine ⟨_,rfl,_,_,rfl,rfl,⟨by decide,by decide,by decide⟩,_,_,rfl,rfl,⟨(show (10:Int) ^ (45:Int).toNat≠0 by decide),(show Bd 150 ((10:Int) ^ (45:Int).toNat) from Bd.lit).mono⟩,?_⟩
   refine ⟨xs++[rs.fmod ((10:Int) ^ (45:Int).toNat)],_,_,rfl,?_,?_,fun x hx=>?_⟩
   ·rw [zKC,List.map_append]
    rfl
   ·rw [List.length_append,hlen]
    rfl
   ·rcases List.mem_append.mp hx with hx | hx
    ·exact hxs x hx
    ·rw [List.mem_singleton.mp hx]
     exact ⟨Int.fmod_nonneg_of_pos _ (by decide),Int.fmod_lt_of_pos _ (by decide)⟩
  ·rintro σ H2 ⟨xs,rs,kk,rfl,rfl,hlen,hxs⟩
   exact ⟨_,rfl,q l _ xs (zAI hl _) hl zAF hlen hxs⟩
 ·have p0:(0:Int) < 10 ^ (18:Int).toNat + 9:=by decide
  have b0:Bd 61 ((10:Int) ^ (18:Int).toNat + 9):=Bd.lit
  have bmod:∀ z:Int,Bd 61 (z.fmod ((10:Int) ^ (18:Int).toNat + 9)):=fun z=>by
   have h1:=Int.fmod_nonneg_of_pos z p0
   have h2:=Int.fmod_lt_of_pos z p0
   have h3:((10:Int) ^ (18:Int).toNat + 9).natAbs < 2 ^ 61:=b0
   show (z.fmod ((10:Int) ^ (18:Int).toNat + 9)).natAbs < 2 ^ 61
   omega
  refine ⟨_,rfl,_,_,rfl,rfl,⟨by decide,by decide,by decide⟩,_,_,rfl,rfl,_,_,rfl,rfl,(show (10:Int) ^ (18:Int).toNat + 9≠0 by decide),_,_,rfl,rfl,?_⟩
  have bk:Bd 61 (48271:Int):=Bd.lit
  have hb0:Bd 62 (c.fmod ((10:Int) ^ (18:Int).toNat + 9) + 48271):=(bmod c).add bk
  refine ⟨_,rfl,_,_,rfl,rfl,mm + 2,rfl,(by omega),(by omega),zBd (lo:=0) (n:=(mm + 2).toNat)
   (fun i σ H2=>∃ (xs:List Int) (nh:Int) (kk:Option V),σ=[some (.int c),some (.int mm),some (.ref l),none,kk,some (.int nh)]/\H2=upd H l (.lst (xs.map V.int))/\xs.length=i/\Bd 62 nh/\∀ x∈xs,0<=x/\x < 10 ^ 45)
   ⟨[],_,none,rfl,rfl,rfl,hb0,fun x hx=>by cases hx⟩ ?_ ?_⟩
  ·rintro i σ H2 hi ⟨xs,nh,kk,rfl,rfl,hlen,hnh,hxs⟩
   refine ⟨_,rfl,_,rfl,_,_,rfl,rfl,⟨hnh.mono,hnh.mono⟩,_,rfl,_,_,rfl,rfl,⟨bk.mono,hnh.mono⟩,_,_,rfl,rfl,_,rfl,_,_,rfl,rfl,_,_,rfl,rfl,⟨by decide,by decide,by decide⟩,_,_,rfl,rfl,
    _,_,rfl,rfl,(show (10:Int) ^ (18:Int).toNat + 9≠0 by decide),?_⟩
   refine ⟨_,rfl,.inl ⟨rfl,_,SqL.of zAF⟩,_,rfl,l,_,_,rfl,rfl,zAF,?_,?_⟩
   ·rw [List.length_map]
    exact zAp (by omega)
   refine ⟨xs++[(nh * nh + 48271 * nh + (0 + (i:Int))).fmod ((10:Int) ^ (18:Int).toNat + 9)],_,_,rfl,?_,?_,(bmod _).mono,fun x hx=>?_⟩
   ·rw [zKC,List.map_append]
    rfl
   ·rw [List.length_append,hlen]
    rfl
   ·rcases List.mem_append.mp hx with hx | hx
    ·exact hxs x hx
    ·rw [List.mem_singleton.mp hx]
     have h2:=Int.fmod_lt_of_pos (nh * nh + 48271 * nh + (0 + (i:Int))) p0
     have h3:(10:Int) ^ (18:Int).toNat + 9 < 10 ^ 45:=by decide
     exact ⟨Int.fmod_nonneg_of_pos _ p0,by omega⟩
  ·rintro σ H2 ⟨xs,nh,kk,rfl,rfl,hlen,hnh,hxs⟩
   refine ⟨_,rfl,_,rfl,l,_,rfl,SqL.of zAF,fun p hp=>?_⟩
   have ec:cutV (xs.map V.int) (some 2) none=(xs.drop 2).map V.int:=by
    have e1:HT.sIx (xs.map V.int).length 0 (some 2)=min 2 (xs.map V.int).length:=HT.sIx_nat _ 0 2
    unfold cutV
    rw [e1,HT.sIx_none,List.length_map,hlen,show min 2 (mm + 2).toNat=2 by omega,<- List.map_drop,List.take_of_length_le (by rw [List.length_map,List.length_drop]; omega)]
   refine q p _ (xs.drop 2) ((zAI hl _).trans (zAI hp _)) ((zAI hl _).free hp) (zAF.trans (by rw [ec])) (by rw [List.length_drop]; omega) fun x hx=>hxs x (List.mem_of_mem_drop hx)
theorem zID {k:Nat} {f:Addr} {fd:FuncData} (F:Fun K "_law_number" "_law_number" zCy f fd) (B:Bl mg):FnOk P w K mg base CX0 (k + 1) f fd ["_law_x","_law_far"] zDv:=by
 refine F.ok zH1 ?_ ?_
 ·rintro vs H Q E ⟨x,far,rfl,_⟩
  rfl
 rintro cdv A outer s H vs Q E hr ⟨x,far,rfl,f0,bf,q⟩
 refine ⟨_,(zAH (zAU (zAK (ji0 zCR) (zAK (ji zAz) (pvj 0) (zAK (ji0 zAt) (zAK (ji zAd) zAE (pvj 1)) zAE)) (pvj 1)))),?_⟩
 try dsimp only [cxOf,Cx.nox,Cx.wish]
 refine ⟨_,rfl,_,rfl,_,_,rfl,rfl,⟨Bd.mono (i:=2) (n:=3) Bd.lit (by decide),bf.mono⟩,_,_,rfl,rfl,_,_,rfl,rfl,(show (2:Int) * far + 1≠0 by omega),_,rfl,_,_,rfl,rfl,?_⟩
 have h1:=Int.fmod_nonneg_of_pos x (show (0:Int) < 2 * far + 1 by omega)
 have h2:=Int.fmod_lt_of_pos x (show (0:Int) < 2 * far + 1 by omega)
 exact q (x.fmod (2 * far + 1) - far) (by omega) (by omega)
theorem zKn {k:Nat} {f:Addr} {fd:FuncData} (F:Fun K "_law_mode" "_law_mode" zCk f fd) (B:Bl mg) (aq:Fn P w K mg base "_law_stream" ["_law_cell","_law_many"] k zCu) (ak:Fn P w K mg base "_law_number" ["_law_x","_law_far"] k zDv):FnOk P w K mg base CX0 (k + 1) f fd nl7 zFg:=by
 refine F.ok zCP ?_ ?_
 ·rintro vs H Q E ⟨c,u,n,w,sp,Bs,rfl,_⟩
  rfl
 rintro cdv A outer s H vs Q E hr ⟨c,u,n,w,sp,Bs,rfl,n1,n3,w2,u0,bu,hB,q⟩
 refine ⟨_,(zAD (zAR (i:=5) zCP.nd rfl (Or.inr rfl) (zAG aq hr rfl (zAA (pvj 0) (zAA zAE zAB))))
  (zAD (zAR (i:=6) zCP.nd rfl (Or.inr rfl) (zAK (ji0 zAt) zAE (zAK (ji zAz) (zAX zAQ (pvj 5) zAE (fun _ _=>rfl)) zAE)))
  (zAD (zAR (i:=7) zCP.nd rfl (Or.inl rfl) (zA7 zAB))
  (zAD (zAR (i:=8) zCP.nd rfl (Or.inl rfl) (zA7 zAB))
  (zAD (zBy PassesOwn.never rfl (zAs rfl B.range_ (zAA (pvj 1) zAB)) (zAJ (i:=9) zCP.nd rfl (Or.inr rfl)) (zAD (zBe (zDs PySem.F.plainAttrs_list PySem.F.slot_list_append PySem.F.type_list_append japp (pvj 7) (zAA (zAr (own:=["_law_j"]) (caps:=[(5,"_law_xs"),(6,"_law_divisor_here"),(9,"_law_i")]) (zBm (S:=zAC zCk) (N:=nl3) ⟨_,rfl⟩) rfl (zAs rfl B.range_ (zAA (pvj 1) zAB)) (fun _ _ _ _=>zAJ (i:=0) (show (["_law_j","_law_xs","_law_divisor_here","_law_i"]:List Str).Nodup by decide +kernel) rfl (Or.inl rfl)) (fun _ _ _ _=>(zAG ak hr rfl (zAA (zAX (show IxR _ (JIx (SqL K)) from zAQ) (pvj 1) (zAK (ji0 zAt) (zAK (ji0 zAt) zAE (zAK (ji zAd) zAE (pvj 3))) (pvj 0)) (fun _ _=>rfl)) (zAA (zAX (show IxR _ (JIx (SqL K)) from zAQ) (zA7 (zAA zAE (zAA (zAK (ji0 zCR) (pvj 2) zAE) zAB))) (zAi zHr rfl B.int_ zE2 (zAA (zCH zEG (pvj 3) (pvj 0) (zAq _)) zAB)) (fun _ _=>rfl)) zAB))))) zAB)))
   (zAH (zBe (zDs PySem.F.plainAttrs_list PySem.F.slot_list_append PySem.F.type_list_append japp (pvj 8) (zAA (zAr (own:=["_law_j"]) (caps:=[(5,"_law_xs"),(9,"_law_i")]) (zBm (S:=zAC zCk) (N:=nl3) ⟨_,rfl⟩) rfl (zAs rfl B.range_ (zAA (pvj 2) zAB)) (fun _ _ _ _=>zAJ (i:=0) (show (["_law_j","_law_xs","_law_i"]:List Str).Nodup by decide +kernel) rfl (Or.inl rfl)) (fun _ _ _ _=>(zAG ak hr rfl (zAA (zAX (show IxR _ (JIx (SqL K)) from zAQ) (pvj 1) (zAK (ji0 zAt) (zAK (ji0 zAt) zAE (zAK (ji zAd) zAE (pvj 2))) (pvj 0)) (fun _ _=>rfl)) (zAA zAE zAB))))) zAB))))))
  (zAD (zEB (i:=10) zCP.nd rfl rfl (own:=["_law_i"]) (caps:=[(3,"_law_unit"),(5,"_law_xs")]) (zBm (S:=zAC zCk) (N:=nl3) ⟨_,rfl⟩) rfl (zAs rfl B.range_ (zAA (pvj 1) zAB)) (fun _ _ _ _=>zAJ (i:=0) (show (["_law_i","_law_unit","_law_xs"]:List Str).Nodup by decide +kernel) rfl (Or.inl rfl)) (fun _ _ _ _=>(zAK (ji zAd) (zAG ak hr rfl (zAA (zAX (show IxR _ (JIx (SqL K)) from zAQ) (pvj 2) (zAK (ji0 zAt) zAE (pvj 0)) (fun _ _=>rfl)) (zAA zAE zAB))) (zAK (ji zAz) (zAX (show IxR _ (JIx (SqL K)) from zAQ) (pvj 2) zAE (fun _ _=>rfl)) (pvj 1)))) rfl)
  (zAD (zAR (i:=11) zCP.nd rfl (Or.inl rfl) (zA7 zAB))
  (zAD (zBc (zBF (pvj 4)) (zAD (zEB (i:=12) zCP.nd rfl rfl (own:=["_law_i"]) (caps:=[(5,"_law_xs")]) (zBm (S:=zAC zCk) (N:=nl3) ⟨_,rfl⟩) rfl (zAs rfl B.range_ (zAA (pvj 1) zAB)) (fun _ _ _ _=>zAJ (i:=0) (show (["_law_i","_law_xs"]:List Str).Nodup by decide +kernel) rfl (Or.inl rfl)) (fun _ _ _ _=>(zAG ak hr rfl (zAA (zAX (show IxR _ (JIx (SqL K)) from zAQ) (pvj 1) (zAK (ji0 zAt) zAE (pvj 0)) (fun _ _=>rfl)) (zAA zAE zAB)))) rfl)
   (zAH (zBe (zDs PySem.F.plainAttrs_list PySem.F.slot_list_append PySem.F.type_list_append japp (pvj 11) (zAA (zAi jtup rfl B.tuple_ zAn (zAA (zAK jcat (pvj 12) (zA7 (zAA (zAK (ji zAd) (zAG ak hr rfl (zAA (zAX zAQ (pvj 5) zAE (fun _ _=>rfl)) (zAA zAE zAB))) (pvj 3)) zAB))) zAB)) zAB))))) zAj)
  (zAH (zAU (zCA (zAA (pvj 11) (zAA (pvj 7) (zAA (zAK jrep (zA7 (zAA zAE zAB)) (pvj 1)) (zAA (pvj 8) (zAA (pvj 10) (zAA (pvj 6) zAB))))))))))))))))),?_⟩
 try dsimp only [cxOf,Cx.nox,Cx.wish]
 refine ⟨_,rfl,_,24,rfl,(by decide),(by decide),fun xa J1 xs y1 _ ex lx bx0=>?_⟩
 have lx24:xs.length=24:=lx
 have exJ:=ex
 have px:∀ k,0<=xs.getD k 0:=fun k=>by
  rw [List.getD_eq_getElem?_getD]
  cases e:xs[k]? with
  | none=>exact Int.le_refl 0
  | some x=>exact (bx0 x (List.mem_of_getElem? e)).1
 have bx:∀ k,Bd 150 (xs.getD k 0):=fun k=>zDI (fun x hx=>bd45 (bx0 x hx)) k
 have SG1:=y1
 have d0:=Int.fmod_nonneg_of_pos (xs.getD 0 0) (show (0:Int) < 4 by decide)
 have d4:=Int.fmod_lt_of_pos (xs.getD 0 0) (show (0:Int) < 4 by decide)
 refine ⟨_,rfl,xa,_,_,_,rfl,rfl,SqL.of ex,zBS (xs:=xs) (k:=0) (by omega) (by omega),_,_,rfl,rfl,(show (4:Int)≠0 by decide),_,_,rfl,rfl,?_⟩
 refine ⟨sz0,fun nl hnl=>?_⟩
 obtain ⟨G2,hhG2,yG2,enl⟩:=zAV (HO.lst ([]:List V)) hnl
 rw [hhG2]
 have SG2:=SG1.trans yG2
 refine ⟨sz0,fun pl hpl=>?_⟩
 have nnp:pl≠nl:=fun z=>by rw [z,enl] at hpl; cases hpl
 have hnl0:=hnl
 have hpl0:=yG2.free hpl
 have SN:=SG2
 obtain ⟨G3,hhG3,yG3,epl⟩:=zAV (HO.lst ([]:List V)) hpl
 rw [hhG3]
 have SG3:=SG2.trans yG3
 replace enl:=(yG3 _ _ enl)
 have s4:Same J1 (hide [nl,pl] G3):=zGk (fun x hx=>by
  rcases List.mem_cons.mp hx with rfl | hx
  ·exact hnl0
  ·rw [List.mem_singleton.mp hx]; exact hpl0) (yG2.trans yG3)
 have hB1:∀ b∈Bs,∃ o,J1 b=some o:=fun b hb=>(hB b hb).elim fun o ho=>⟨o,y1 _ _ ho⟩
 have nlB:nl∉Bs:=zER hB y1 hnl0
 have plB:pl∉Bs:=zER hB y1 hpl0
 refine ⟨_,rfl,_,rfl,(by omega),(by omega),zBd (lo:=0) (n:=((n:Nat):Int).toNat)
  (fun i σ H'=>∃ (nv pv:List V) (nx pu:List (List Int)) (o9:Option V),σ=[some (.int c),some (.int (n:Int)),some (.int (w:Int)),some (.int u),some (.bl sp),some (.ref xa),some (.int (2 + (xs.getD 0 0).fmod 4)),some (.ref nl),some (.ref pl),o9,none,none,none]/\Same J1 (hide [nl,pl] H')/\H' nl=some (.lst nv)/\H' pl=some (.lst pv)/\TabV (hide (nl :: pl :: Bs) H') nv nx/\TabV (hide (nl :: pl :: Bs) H') pv pu/\nx.length=i/\pu.length=i/\(∀ r∈nx,r.length=n/\∀ x∈r,Bd 3 x)/\(∀ r∈pu,r.length=w/\∀ x∈r,Bd 2 x))
  ⟨[],[],[],[],none,rfl,s4,enl,epl,.nil,.nil,rfl,rfl,(fun r hr=>by cases hr),(fun r hr=>by cases hr)⟩ ?_ ?_⟩
 ·rintro i σ L0 hi ⟨nv,pv,nx,pu,o9,rfl,sm,enl,epl,hnv,hpv,ln,lp,hnr,hpr⟩
  have i3:i < 3:=by omega
  have sj:=sm.trans zAZ
  have exL:=sj _ _ exJ
  have ln1:=Paired.length hnv
  have ln2:=Paired.length hpv
  refine ⟨_,rfl,.inl ⟨rfl,_,SqL.of enl⟩,?_⟩
  refine ⟨_,rfl,_,rfl,(by omega),(by omega),zB8 (lo:=0) (n:=((n:Nat):Int).toNat)
   (fun k zs σ H2=>∃ ws:List Int,zs=ws.map V.int/\ws.length=k/\(∀ x∈ws,Bd 3 x)/\(∃ o,σ=[o,some (.ref xa),some (.int (2 + (xs.getD 0 0).fmod 4)),some (.int (0 + (i:Int)))])/\Same L0 H2)
   ⟨[],rfl,rfl,(fun x hx=>by cases hx),⟨none,rfl⟩,Same.refl _⟩ (fun k zs σ H2 ⟨ws,e1,l1,_⟩=>by rw [e1,List.length_map]; omega) (zAh (by omega)) ?_ ?_⟩
  ·rintro k zs σ H2 hk ⟨ws,rfl,lw,bw,⟨o,rfl⟩,sk⟩
   refine ⟨_,rfl,_,rfl,_,_,rfl,rfl,⟨(Bd.lit (i:=3) (n:=2)).mono,(zHy (i:=i) (by omega)).mono⟩,_,_,rfl,rfl,_,rfl,_,_,rfl,rfl,xa,_,_,_,rfl,rfl,SqL.of (sk _ _ exL),zBS (xs:=xs) (k:=((1 + (3 * i)) + k)) (by omega) (by omega),_,rfl,_,_,rfl,rfl,sz2,fun l2 hl2=>?_⟩
   have z2:=sk.trans (zAI hl2 (HO.lst [V.int 1,V.int ((2 + (xs.getD 0 0).fmod 4) - 1)]))
   refine ⟨_,rfl,_,rfl,rfl,.inr ⟨_,rfl,l2,_,_,_,rfl,rfl,SqL.of zAF,zOT,_,_,rfl,?_,?_,fun y v1 v2=>?_⟩⟩
   ·split <;> omega
   ·exact zCB (f:=4) (n:=100) (Bd.mono (n:=3) Bd.lit (by decide)) (by split <;> omega) (by split <;> omega)
   exact ⟨ws++[y],(by rw [List.map_append]; rfl),(by rw [List.length_append,lw]; rfl),zBX bw (zCB (f:=4) (n:=3) Bd.lit (by split at v1 <;> omega) (by split at v2 <;> omega)),⟨_,rfl⟩,z2⟩
  rintro zs σ H2k ⟨ws,rfl,lw,bw,⟨o,rfl⟩,sk⟩ c1 hc1
  have lw1:ws.length=n:=by omega
  have c1n:c1≠nl:=(zAo (sk _ _ enl) hc1).symm
  have c1p:c1≠pl:=(zAo (sk _ _ epl) hc1).symm
  have c1B:c1∉Bs:=zER hB1 (sj.trans sk) hc1
  obtain ⟨M,hhM,zn,ec1⟩:=zAV (HO.lst (ws.map V.int)) hc1
  rw [hhM]
  have z2:=sk.trans zn
  refine ⟨nl,nv,_,rfl,rfl,z2 _ _ enl,zAp (by omega),?_⟩
  have h4:=(zAf (B:=[nl,pl]) z2).trans (zEr (x:=nl) List.mem_cons_self (HO.lst (nv++[V.ref c1])))
  have h4B:=(zAf (B:=nl :: pl :: Bs) z2).trans (zEr (x:=nl) List.mem_cons_self (HO.lst (nv++[V.ref c1])))
  have en2:=zAF (H:=M) (a:=nl) (o:=HO.lst (nv++[V.ref c1]))
  have ep2:upd M nl (HO.lst (nv++[V.ref c1])) pl=some (.lst pv):=(zAW nnp).trans (z2 _ _ epl)
  have hnv2:TabV (hide (nl :: pl :: Bs) (upd M nl (HO.lst (nv++[V.ref c1])))) (nv++[V.ref c1]) (nx++[ws]):=zAb (R:=LstI _) ⟨c1,rfl,(zBE (by simp [c1n,c1p,c1B])).trans ((zAW c1n).trans ec1)⟩ (TabV.same h4B hnv)
  have hpv2:=TabV.same h4B hpv
  have hnr2:=zBX hnr ⟨lw1,bw⟩
  have sm2:=sm.trans h4
  have exM:upd M nl (HO.lst (nv++[V.ref c1])) xa=some (.lst (xs.map V.int)):=(sm2.trans zAZ) _ _ exJ
  generalize hhM2:upd M nl (HO.lst (nv++[V.ref c1]))=M2 at en2 ep2 hnv2 hpv2 sm2 exM |-
  refine ⟨_,rfl,.inl ⟨rfl,_,SqL.of ep2⟩,?_⟩
  refine ⟨_,rfl,_,rfl,(by omega),(by omega),zB8 (lo:=0) (n:=((w:Nat):Int).toNat)
   (fun k zs σ H2=>∃ us:List Int,zs=us.map V.int/\us.length=k/\(∀ x∈us,Bd 2 x)/\(∃ o,σ=[o,some (.ref xa),some (.int (0 + (i:Int)))])/\Same M2 H2)
   ⟨[],rfl,rfl,(fun x hx=>by cases hx),⟨none,rfl⟩,Same.refl _⟩ (fun k zs σ H2 ⟨ws,e1,l1,_⟩=>by rw [e1,List.length_map]; omega) (zAh (by omega)) ?_ ?_⟩
  ·rintro k zs σ H2 hk ⟨us,rfl,lu,bv,⟨o,rfl⟩,sk⟩
   refine ⟨_,rfl,_,rfl,_,_,rfl,rfl,⟨(Bd.lit (i:=2) (n:=2)).mono,(zHy (i:=i) (by omega)).mono⟩,_,_,rfl,rfl,_,rfl,_,_,rfl,rfl,xa,_,_,_,rfl,rfl,SqL.of (sk _ _ exM),zBS (xs:=xs) (k:=((10 + (2 * i)) + k)) (by omega) (by omega),_,_,rfl,(by decide),Bd.lit,fun y v1 v2=>?_⟩
   exact ⟨us++[y],(by rw [List.map_append]; rfl),(by rw [List.length_append,lu]; rfl),zBX bv (zCB (f:=2) (n:=2) Bd.lit v1 v2),⟨_,rfl⟩,sk⟩
  rintro zs σ H2k ⟨us,rfl,lu,bv,⟨o,rfl⟩,sk⟩ c2 hc2
  have lu1:us.length=w:=by omega
  have c2n:c2≠nl:=(zAo (sk _ _ en2) hc2).symm
  have c2p:c2≠pl:=(zAo (sk _ _ ep2) hc2).symm
  have c2B:c2∉Bs:=zER hB1 ((sm2.trans zAZ).trans sk) hc2
  obtain ⟨M3,hhM3,zn,ec2⟩:=zAV (HO.lst (us.map V.int)) hc2
  rw [hhM3]
  have z3:=sk.trans zn
  refine ⟨pl,pv,_,rfl,rfl,z3 _ _ ep2,zAp (by omega),?_⟩
  have mpl:pl∈[nl,pl]:=List.mem_cons_of_mem _ (List.mem_singleton.mpr rfl)
  have mplB:pl∈nl :: pl :: Bs:=List.mem_cons_of_mem _ List.mem_cons_self
  have h5:=(zAf (B:=[nl,pl]) z3).trans (zEr (x:=pl) mpl (HO.lst (pv++[V.ref c2])))
  have h5B:=(zAf (B:=nl :: pl :: Bs) z3).trans (zEr (x:=pl) mplB (HO.lst (pv++[V.ref c2])))
  refine ⟨nv++[V.ref c1],pv++[V.ref c2],nx++[ws],pu++[us],_,rfl,sm2.trans h5,(zAW nnp.symm).trans (z3 _ _ en2),zAF,TabV.same h5B hnv2,?_,(by rw [List.length_append,ln]; rfl),(by rw [List.length_append,lp]; rfl),hnr2,zBX hpr ⟨lu1,bv⟩⟩
  exact zAb (R:=LstI _) ⟨c2,rfl,(zBE (by simp [c2n,c2p,c2B])).trans ((zAW c2p).trans ec2)⟩ (TabV.same h5B hpv2)
 rintro σ L0 ⟨nv,pv,nx,pu,o9,rfl,sm,enl,epl,hnv,hpv,ln,lp,hnr,hpr⟩
 have sj:=sm.trans zAZ
 have hnv:TabV (hide Bs L0) nv nx:=TabV.same (zEs.trans zEs) hnv
 have hpv:TabV (hide Bs L0) pv pu:=TabV.same (zEs.trans zEs) hpv
 have exL:=sj _ _ exJ
 refine ⟨_,rfl,_,rfl,(by omega),(by omega),zB8 (lo:=0) (n:=((n:Nat):Int).toNat)
  (fun k zs σ H2=>∃ ws:List Int,zs=ws.map V.int/\ws.length=k/\(∀ x∈ws,Bd 102 x)/\(∃ o,σ=[o,some (.int u),some (.ref xa)])/\Same L0 H2)
  ⟨[],rfl,rfl,(fun x hx=>by cases hx),⟨none,rfl⟩,Same.refl _⟩ (fun k zs σ H2 ⟨ws,e1,l1,_⟩=>by rw [e1,List.length_map]; omega) (zAh (by omega)) ?_ ?_⟩
 ·rintro k zs σ H2 hk ⟨ws,rfl,lw,bw,⟨o,rfl⟩,sk⟩
  refine ⟨_,rfl,_,rfl,_,_,rfl,rfl,xa,_,_,_,rfl,rfl,SqL.of (sk _ _ exL),zBS (xs:=xs) (k:=(16 + k)) (by omega) (by omega),_,_,rfl,(by decide),Bd.lit,fun y v1 v2=>?_⟩
  have by2:Bd 2 y:=zCB (f:=2) Bd.lit v1 v2
  have bm:Bd 100 ((xs.getD 19 0).fmod u):=zDy bu (by omega)
  refine ⟨_,rfl,xa,_,_,_,rfl,rfl,SqL.of (sk _ _ exL),zBS (xs:=xs) (k:=19) (by omega) (by omega),_,rfl,_,_,rfl,rfl,(show u≠0 by omega),_,_,rfl,rfl,⟨by2.mono,bm.mono⟩,?_⟩
  exact ⟨ws++[y * (xs.getD 19 0).fmod u],(by rw [List.map_append]; rfl),(by rw [List.length_append,lw]; rfl),zBX bw (by2.mul bm),⟨_,rfl⟩,sk⟩
 rintro zs σ H2k ⟨ws,rfl,lw,bw,⟨o,rfl⟩,sk⟩ aa haa
 have aaB:aa∉Bs:=zER hB1 (sj.trans sk) haa
 obtain ⟨A0,hhA,yA,eaa⟩:=zAV (HO.lst (ws.map V.int)) haa
 rw [hhA]
 have enlA:=(sk.trans yA) _ _ enl
 have eplA:=(sk.trans yA) _ _ epl
 have exA:=(sk.trans yA) _ _ exL
 refine ⟨sz0,fun rl hrl=>?_⟩
 obtain ⟨R0,hhR,yR,erl⟩:=zAV (HO.lst ([]:List V)) hrl
 rw [hhR]
 refine ⟨_,rfl,_,rfl,?_⟩
 refine ite2 (fun cs=>?_) (fun cs=>?_)
 ·refine ⟨_,rfl,_,rfl,(by omega),(by omega),zB8 (lo:=0) (n:=((n:Nat):Int).toNat)
   (fun k zs σ H2=>∃ rs:List Int,zs=rs.map V.int/\rs.length=k/\(∀ x∈rs,Bd 2 x)/\(∃ o,σ=[o,some (.ref xa)])/\Same R0 H2)
   ⟨[],rfl,rfl,(fun x hx=>by cases hx),⟨none,rfl⟩,Same.refl _⟩ (fun k zs σ H2 ⟨ws,e1,l1,_⟩=>by rw [e1,List.length_map]; omega) (zAh (by omega)) ?_ ?_⟩
  ·rintro k zs σ H2 hk ⟨rs,rfl,lr,br,⟨o,rfl⟩,sr⟩
   refine ⟨_,rfl,_,rfl,_,_,rfl,rfl,xa,_,_,_,rfl,rfl,SqL.of (sr _ _ (yR _ _ exA)),zBS (xs:=xs) (k:=(20 + k)) (by omega) (by omega),_,_,rfl,(by decide),Bd.lit,fun y v1 v2=>?_⟩
   exact ⟨rs++[y],(by rw [List.map_append]; rfl),(by rw [List.length_append,lr]; rfl),zBX br (zCB (f:=1) (n:=2) Bd.lit v1 v2),⟨_,rfl⟩,sr⟩
  rintro zs σ H2k ⟨rs,rfl,lr,br,⟨o,rfl⟩,sr⟩ rr hrr
  obtain ⟨C0,hhC,yC,err⟩:=zAV (HO.lst (rs.map V.int)) hrr
  rw [hhC]
  have zR:=yR.trans (sr.trans yC)
  refine ⟨_,rfl,.inl ⟨rfl,_,SqL.of ((sr.trans yC) _ _ erl)⟩,_,rfl,_,rfl,xa,_,_,_,rfl,rfl,SqL.of (zR _ _ exA),zBS (xs:=xs) (k:=23) (by omega) (by omega),_,_,rfl,(by decide),Bd.lit,fun y v1 v2=>?_⟩
  refine ⟨_,rfl,_,_,rfl,rfl,⟨(zCB (f:=3) (n:=2) Bd.lit v1 v2).mono,bu.mono⟩,sz1,fun l1 hl1=>?_⟩
  obtain ⟨D0,hhD,yD,el1⟩:=zAV (HO.lst [V.int (y * u)]) hl1
  rw [hhD]
  refine ⟨rr,l1,_,_,rfl,rfl,yD _ _ err,el1,zAh ((by rw [List.length_map]; show rs.length + 1<=1000; omega)),fun l3 hl3=>?_⟩
  obtain ⟨E0,hhE,yE,el3⟩:=zAV (HO.lst (rs.map V.int++[V.int (y * u)])) hl3
  rw [hhE]
  refine ⟨l3,_,rfl,.inl ⟨SqL.of el3,fun t3 ht3=>?_⟩⟩
  have yF:=zAI ht3 (HO.tup (rs.map V.int++[V.int (y * u)]))
  generalize hhF:upd E0 t3 (HO.tup (rs.map V.int++[V.int (y * u)]))=F0 at yF |-
  have zF:=(sr.trans yC).trans (yD.trans (yE.trans yF))
  refine ⟨rl,[],_,rfl,rfl,zF _ _ erl,zAp (by decide),?_⟩
  have zA:Same A0 (upd F0 rl (HO.lst ([]++[V.ref t3]))):=fun b o e=>by
   have nb:b≠rl:=fun z=>by rw [z,hrl] at e; cases e
   rw [zAW nb]
   exact (yR.trans zF) _ _ e
  generalize hhG:upd F0 rl (HO.lst ([]++[V.ref t3]))=G0 at zA |-
  refine ⟨_,rfl,_,rfl,sz1,fun z0 hz0=>?_⟩
  obtain ⟨W1,hhW1,w1,ez0⟩:=zAV (HO.lst [V.int 0]) hz0
  rw [hhW1]
  refine ⟨_,rfl,z0,_,_,rfl,rfl,ez0,(by omega),(by omega),zAh ((by show 1 * ((n:Nat):Int).toNat<=1000; omega)),fun sa hsa=>?_⟩
  have w2:=zAI hsa (HO.lst (List.replicate ((n:Nat):Int).toNat [V.int 0]).flatten)
  generalize hhW2:upd W1 sa (HO.lst (List.replicate ((n:Nat):Int).toNat [V.int 0]).flatten)=W2 at w2 |-
  refine ⟨_,rfl,_,rfl,_,rfl,sz6,fun t ht=>?_⟩
  obtain ⟨W3,hhW3,w3,et⟩:=zAV (HO.tup [V.ref rl,V.ref nl,V.ref sa,V.ref pl,V.ref aa,V.int (2 + (xs.getD 0 0).fmod 4)]) ht
  rw [hhW3]
  have w:=zA.trans (w1.trans (w2.trans w3))
  have tB:t∉Bs:=zER hB1 ((sj.trans (sk.trans yA)).trans (zA.trans (w1.trans w2))) ht
  have wB:=zAf (B:=Bs) w
  have yB:=(zAf (B:=Bs) sk).trans (zAf (B:=Bs) yA)
  refine q (.ref t) _ (y1.trans ((sj.trans (sk.trans yA)).trans w)) ⟨t,rl,nl,sa,pl,aa,nv,pv,nx,pu,ws,(2 + (xs.getD 0 0).fmod 4),rfl,(zBE tB).trans et,(zBE nlB).trans (w _ _ enlA),TabV.same (yB.trans wB) hnv,(zBE plB).trans (w _ _ eplA),TabV.same (yB.trans wB) hpv,(zBE aaB).trans (w _ _ eaa),⟨by omega,hnr,by omega,hpr,by omega,bw,by omega,zCB (f:=5) (n:=3) Bd.lit (by omega) (by omega)⟩⟩
 ·refine ⟨_,rfl,_,rfl,sz1,fun z0 hz0=>?_⟩
  obtain ⟨W1,hhW1,w1,ez0⟩:=zAV (HO.lst [V.int 0]) hz0
  rw [hhW1]
  refine ⟨_,rfl,z0,_,_,rfl,rfl,ez0,(by omega),(by omega),zAh ((by show 1 * ((n:Nat):Int).toNat<=1000; omega)),fun sa hsa=>?_⟩
  have w2:=zAI hsa (HO.lst (List.replicate ((n:Nat):Int).toNat [V.int 0]).flatten)
  generalize hhW2:upd W1 sa (HO.lst (List.replicate ((n:Nat):Int).toNat [V.int 0]).flatten)=W2 at w2 |-
  refine ⟨_,rfl,_,rfl,_,rfl,sz6,fun t ht=>?_⟩
  obtain ⟨W3,hhW3,w3,et⟩:=zAV (HO.tup [V.ref rl,V.ref nl,V.ref sa,V.ref pl,V.ref aa,V.int (2 + (xs.getD 0 0).fmod 4)]) ht
  rw [hhW3]
  have w:=yR.trans (w1.trans (w2.trans w3))
  have tB:t∉Bs:=zER hB1 ((sj.trans (sk.trans yA)).trans (yR.trans (w1.trans w2))) ht
  have wB:=zAf (B:=Bs) w
  have yB:=(zAf (B:=Bs) sk).trans (zAf (B:=Bs) yA)
  refine q (.ref t) _ (y1.trans ((sj.trans (sk.trans yA)).trans w)) ⟨t,rl,nl,sa,pl,aa,nv,pv,nx,pu,ws,(2 + (xs.getD 0 0).fmod 4),rfl,(zBE tB).trans et,(zBE nlB).trans (w _ _ enlA),TabV.same (yB.trans wB) hnv,(zBE plB).trans (w _ _ eplA),TabV.same (yB.trans wB) hpv,(zBE aaB).trans (w _ _ eaa),⟨by omega,hnr,by omega,hpr,by omega,bw,by omega,zCB (f:=5) (n:=3) Bd.lit (by omega) (by omega)⟩⟩
end
theorem zN1 {g:Int} (g0:0<=g) (g1:g < 4):∃ k:Int,atI [V.int 3,V.int 9,V.int ((10:Int) ^ (15:Int).toNat),V.int ((10:Int) ^ (30:Int).toNat)] g=some (.int k)/\0 < k/\Bd 100 k:=by
 rcases (show g=0\/g=1\/g=2\/g=3 by omega) with e | e | e | e
 ·exact ⟨_,by rw [e]; rfl,by decide,Bd.lit⟩
 ·exact ⟨_,by rw [e]; rfl,by decide,Bd.lit⟩
 ·exact ⟨_,by rw [e]; rfl,by decide,Bd.lit⟩
 ·exact ⟨_,by rw [e]; rfl,by decide,Bd.lit⟩
theorem zN0 {g:Int} (g0:0<=g) (g1:g < 6):∃ n:Nat,atI [V.int 1,V.int 2,V.int 2,V.int 1,V.int 3,V.int 2] g=some (.int (n:Int))/\1<=n/\n<=3:=by
 rcases (show g=0\/g=1\/g=2\/g=3\/g=4\/g=5 by omega) with e | e | e | e | e | e
 ·exact ⟨1,by rw [e]; rfl,by decide,by decide⟩
 ·exact ⟨2,by rw [e]; rfl,by decide,by decide⟩
 ·exact ⟨2,by rw [e]; rfl,by decide,by decide⟩
 ·exact ⟨1,by rw [e]; rfl,by decide,by decide⟩
 ·exact ⟨3,by rw [e]; rfl,by decide,by decide⟩
 ·exact ⟨2,by rw [e]; rfl,by decide,by decide⟩
theorem zA0 {H H':Hp} {vs:List V} {bs:List (Int × Int)} (s:Same H H') (h:Paired (PuV H) vs bs):Paired (PuV H') vs bs:=Paired.mapP h fun _ _ z=>z.same s
def BsOk (bs:List (Int × Int)):Prop:=∀ b∈bs,b.1<=b.2/\Bd 102 b.1/\Bd 102 b.2
inductive ThV (H:Hp) (v:V):Prop
 | mk (t pa ma:Addr) (n:Nat) (u:Int) (pv mv:List V) (bs:List (Int × Int)) (_:v=.ref t) (_:H t=some (.tup [.int (n:Int),.ref pa,.ref ma,.int u])) (_:H pa=some (.lst pv)) (_:Paired (PuV H) pv bs) (_:bs.length<=2) (_:BsOk bs) (_:H ma=some (.lst mv)) (_:1<=mv.length) (_:∀ x∈mv,MPV H n pv.length x) (_:1<=n) (_:n<=3) (_:0 < u) (_:Bd 100 u):ThV H v
inductive MTV (H:Hp) (v:V) (m:MD):Prop
 | mk (t ra na sa pa aa:Addr) (rv nv pv:List V) (_:v=.ref t) (_:H t=some (.tup [.ref ra,.ref na,.ref sa,.ref pa,.ref aa,.int m.div])) (_:H ra=some (.lst rv)) (_:zBT H rv m.rows) (_:H na=some (.lst nv)) (_:TabV H nv m.nexts) (_:H sa=some (.lst (m.steer.map V.int))) (_:H pa=some (.lst pv)) (_:TabV H pv m.push) (_:H aa=some (.lst (m.add.map V.int))):MTV H v m
theorem MTV.same {H H':Hp} {v:V} {m:MD} (s:Same H H') (h:MTV H v m):MTV H' v m:=by
 obtain ⟨t,ra,na,sa,pa,aa,rv,nv,pv,e,h1,h2,h3,h4,h5,h6,h7,h8,h9⟩:=h
 exact ⟨t,ra,na,sa,pa,aa,rv,nv,pv,e,s _ _ h1,s _ _ h2,zBT.same s h3,s _ _ h4,TabV.same s h5,s _ _ h6,s _ _ h7,TabV.same s h8,s _ _ h9⟩
theorem zKy {H H':Hp} {vs:List V} {ms:List MD} (s:Same H H') (h:Paired (MTV H) vs ms):Paired (MTV H') vs ms:=Paired.mapP h fun _ _ z=>z.same s
inductive zFY (H:Hp) (v:V) (n:Nat) (bs:List (Int × Int)) (ms:List MD) (u:Int):Prop
 | mk (t pa ma:Addr) (pv mv:List V) (_:v=.ref t) (_:H t=some (.tup [.int (n:Int),.ref pa,.ref ma,.int u])) (_:H pa=some (.lst pv)) (_:Paired (PuV H) pv bs) (_:H ma=some (.lst mv)) (_:Paired (MTV H) mv ms):zFY H v n bs ms u
theorem zFY.same {H H':Hp} {v:V} {n:Nat} {bs:List (Int × Int)} {ms:List MD} {u:Int} (s:Same H H') (h:zFY H v n bs ms u):zFY H' v n bs ms u:=by
 obtain ⟨t,pa,ma,pv,mv,e,h1,h2,h3,h4,h5⟩:=h
 exact ⟨t,pa,ma,pv,mv,e,s _ _ h1,s _ _ h2,zA0 s h3,s _ _ h4,zKy s h5⟩
inductive zEZ (K:PySem.W.Frag) (vs:List V) (H:Hp) (Q:VK) (E:XK):Prop
 | mk (a:Addr) (ns:List Int) (_:vs=[.ref a]) (_:SqL K H a (ns.map V.int)) (_:∀ v H',Same H H'->ThV H' v->Q v H'):zEZ K vs H Q E
inductive zFh (C CM:Addr) (vs:List V) (H:Hp) (Q:VK) (E:XK):Prop
 | mk (v:V) (n:Nat) (bs:List (Int × Int)) (ms:List MD) (u:Int) (_:vs=[v]) (_:zFY H v n bs ms u) (_:ThOk n bs ms) (_:∀ o kp km pv mv H',Same H H'->zA5 C CM H' o n bs ms pv mv kp km->Q (.ref o) H'):zFh C CM vs H Q E
inductive zG5 (vs:List V) (H:Hp) (Q:VK) (E:XK):Prop
 | mk (c u:Int) (n:Nat) (_:vs=[.int c,.int (n:Int),.int u]) (_:1<=n) (_:n<=3) (_:0 < u) (_:Bd 100 u) (_:∀ l bv bx H',Same H H'->H' l=some (.lst bv)->Paired (PuV H') bv bx->bx.length=n->(∀ b∈bx,Bd 106 b.1/\Bd 106 b.2)->Q (.ref l) H'):zG5 vs H Q E
inductive zFf (vs:List V) (H:Hp) (Q:VK) (E:XK):Prop
 | mk (a:Addr) (bv:List V) (bx:List (Int × Int)) (n:Nat) (_:vs=[.ref a]) (_:H a=some (.lst bv)) (_:Paired (PuV H) bv bx) (_:bx.length=n) (_:1<=n) (_:n<=3) (_:(∀ b∈bx,Bd 106 b.1/\Bd 106 b.2)) (_:∀ l rv rows H',Same H H'->H' l=some (.lst rv)->zAk H' rv rows->rows.length=2 * n->WB rows n 2 106->Q (.ref l) H'):zFf vs H Q E
theorem zDG {H:Hp} {l:Addr} {xs:List V} (hl:H l=some (.lst xs)) {a:Addr} {vs:List V} (h:H a=some (.tup vs)):hide [l] H a=some (.tup vs):=(zBE fun z=>by
 rw [List.mem_singleton.mp z,hl] at h
 cases h).trans h
theorem zH0 {rows:List (List Int × Int)} {n w b:Nat} {r:List Int × Int} (h:WB rows n w b) (l:r.1.length=n) (hw:∀ x∈r.1,Bd w x) (hb:Bd b r.2):WB (rows++[r]) n w b:=fun q hq=>by
 rcases List.mem_append.mp hq with hq | hq
 ·exact h q hq
 ·rw [List.mem_singleton.mp hq]; exact ⟨l,hw,hb⟩
theorem zKG {H0 H:Hp} {sl:Addr} (hN:∀ {z:Addr},H0 z=none->z≠sl) {vs:List V} {tab:List (List Int)} (h:Paired (NewL H0 H) vs tab):TabV (hide [sl] H) vs tab:=Paired.mapP h fun _ _ ⟨a,e,n,q⟩=>⟨a,e,(zBE fun z=>hN n (List.mem_singleton.mp z)).trans q⟩
theorem zJ8 {H:Hp} {l:Addr} {xs:List V} (hl:H l=some (.lst xs)) {vs:List V} {rows:List (List Int)} (h:zBT H vs rows):zBT (hide [l] H) vs rows:=Paired.mapP h fun _ _ ⟨a,e,q⟩=>⟨a,e,zDG hl q⟩
theorem zMB {C:Addr} {H:Hp} {o sl:Addr} {m:MD} {M:zGr C H o m} (ok:M.Ok) (n0:o≠sl) (n1:M.r≠sl) (n2:M.n≠sl) (n3:M.s≠sl) (n4:M.p≠sl) (n5:M.a≠sl) {xs:List V} (hl:H sl=some (.lst xs)) (t1:TabV (hide [sl] H) M.nv m.nexts) (t2:TabV (hide [sl] H) M.pv m.push):zEU C (hide [sl] H) (.ref o) m:=
 have g:∀ {a:Addr},a≠sl->hide [sl] H a=H a:=fun n=>zBE fun z=>n (List.mem_singleton.mp z)
 ⟨o,⟨M.dx,M.r,M.rv,M.n,M.nv,M.s,M.p,M.pv,M.a⟩,rfl,⟨(g n0).trans ok.ins,(g n1).trans ok.hr,zJ8 hl ok.hrv,(g n2).trans ok.hn,t1,(g n3).trans ok.hs,(g n4).trans ok.hp,t2,(g n5).trans ok.ha⟩⟩
section
variable {P:Program} {w:World} {K:PySem.W.Frag} {mg:Str->Option Value} {base:Heap} {cM cP:Addr}
abbrev zDP:Stmt:=top 63
theorem zBY:zAP ["_law_script","_law_first","_law_second","_law_unit","_law_many","_law_pushes","_law_k","_law_x","_law_modes","_law_cell"] ["_law_script"] (zAC zDP):=.a
abbrev zD8:Stmt:=top 64
theorem zBZ:zAP ["_law_spec","_law_many","_law_pushes","_law_modes","_law_unit","_law_some","_law_rows_here","_law_nexts","_law_steer","_law_push","_law_add","_law_divisor_here","_law_lists"] ["_law_spec"] (zAC zD8):=.a
variable {ac ae:Addr} (af:ClsF K mg "Mode" ac) (ah:zCW K ac) (ag:ClsF K mg "Thing" ae) (ai:zBs K ae)
include af ah ag ai
theorem zJh {k:Nat} {f:Addr} {fd:FuncData} (F:Fun K "_law_thing" "_law_thing" zDP f fd) (B:Bl mg) (ar:Fn P w K mg base "_law_cell_at" ["_law_script","_law_k"] k (zGe K)) (cv:Fn P w K mg base "_law_mode" nl7 k zFg):FnOk P w K mg base CX0 (k + 1) f fd ["_law_script"] (zEZ K):=by
 refine F.ok zBY ?_ ?_
 ·rintro vs H Q E ⟨a,ns,rfl,_⟩
  rfl
 rintro cdv A outer s H vs Q E hr ⟨a,ns,rfl,hS,q⟩
 refine ⟨_,(zAD (zAR (i:=1) zBY.nd rfl (Or.inl rfl) (zAG ar hr rfl (zAA (pvj 0) (zAA zAE zAB))))
  (zAD (zAR (i:=2) zBY.nd rfl (Or.inl rfl) (zAG ar hr rfl (zAA (pvj 0) (zAA zAE zAB))))
  (zAD (zAR (i:=3) zBY.nd rfl (Or.inl rfl) (zAK (ji0 zAt) zAE (zAK (ji zAz) (zAK (ji zBh) (pvj 1) zAE) (zAX zAQ (zA7 (zAA zAE (zAA zAE (zAA (zAK (ji zFP) zAE zAE) (zAA (zAK (ji zFP) zAE zAE) zAB))))) (zAK (ji zAz) (pvj 1) zAE) (fun _ _=>rfl)))))
  (zAD (zAR (i:=4) zBY.nd rfl (Or.inl rfl) (zAX zAQ (zA7 (zAA zAE (zAA zAE (zAA zAE (zAA zAE (zAA zAE (zAA zAE zAB))))))) (zAK (ji zAz) (pvj 2) zAE) (fun _ _=>rfl)))
  (zAD (zAR (i:=5) zBY.nd rfl (Or.inl rfl) (zA7 zAB))
  (zAD (zBy PassesOwn.never rfl (zAs rfl B.range_ (zAA (zAK (ji zAz) (zAK (ji zBh) (pvj 2) zAE) zAE) zAB)) (zAJ (i:=6) zBY.nd rfl (Or.inl rfl)) (zAD (zAR (i:=7) zBY.nd rfl (Or.inl rfl) (zAK (ji zBh) (pvj 2) (zAK (ji0 zAt) zAE (zAK (ji zAd) zAE (pvj 6)))))
   (zAH (zBe (zDs PySem.F.plainAttrs_list PySem.F.slot_list_append PySem.F.type_list_append japp (pvj 5) (zAA (zCA (zAA (zAK (ji0 zCR) zAE (zAK (ji zAd) (zAK (ji zAz) (pvj 7) zAE) (pvj 3))) (zAA (zAK (ji zAd) (zAK (ji zAz) (zAK (ji zBh) (pvj 7) zAE) zAE) (pvj 3)) zAB))) zAB))))))
  (zAD (zAR (i:=8) zBY.nd rfl (Or.inl rfl) (zA7 zAB))
  (zAD (zBy PassesOwn.never rfl (zAs rfl B.range_ (zAA (zAK (ji0 zAt) zAE (zAK (ji zAz) (zAK (ji zBh) (pvj 2) zAE) zAE)) zAB)) (zAJ (i:=6) zBY.nd rfl (Or.inl rfl)) (zAD (zAR (i:=9) zBY.nd rfl (Or.inl rfl) (zAK (ji0 zAt) (zAG ar hr rfl (zAA (pvj 0) (zAA (zAK (ji0 zAt) zAE (pvj 6)) zAB))) (pvj 6)))
   (zAH (zBe (zDs PySem.F.plainAttrs_list PySem.F.slot_list_append PySem.F.type_list_append japp (pvj 8) (zAA (zAG cv hr rfl (zAA (pvj 9) (zAA (pvj 4) (zAA (zAS jlen rfl B.len_ zAv (zAA (pvj 5) zAB)) (zAA (pvj 3) (zAA (zCH zEG (zAK (ji zAz) (zAK (ji zBh) (pvj 2) zAE) zAE) zAE (zAq _)) zAB)))))) zAB))))))
  (zAH (zAU (zCA (zAA (pvj 4) (zAA (pvj 5) (zAA (pvj 8) (zAA (pvj 3) zAB))))))))))))))),?_⟩
 try dsimp only [cxOf,Cx.nox,Cx.wish]
 refine ⟨_,rfl,a,ns,0,rfl,hS,(by decide),?_⟩
 refine ⟨_,rfl,a,ns,1,rfl,hS,(by decide),?_⟩
 obtain ⟨kk,ekk,kk0,bkk⟩:=zN1 (Int.fmod_nonneg_of_pos (zBR ns 0) (show (0:Int) < 4 by decide)) (Int.fmod_lt_of_pos (zBR ns 0) (show (0:Int) < 4 by decide))
 obtain ⟨n,en,n1,n3⟩:=zN0 (Int.fmod_nonneg_of_pos (zBR ns 1) (show (0:Int) < 6 by decide)) (Int.fmod_lt_of_pos (zBR ns 1) (show (0:Int) < 6 by decide))
 have q0:=Int.fmod_nonneg_of_pos ((zBR ns 0).fdiv 4) kk0
 have q1:=Int.fmod_lt_of_pos ((zBR ns 0).fdiv 4) kk0
 have u0:0 < (1 + ((zBR ns 0).fdiv 4).fmod kk):=by omega
 have bu:Bd 100 (1 + ((zBR ns 0).fdiv 4).fmod kk):=zCB bkk (by omega) (by omega)
 refine ⟨_,rfl,_,_,rfl,rfl,⟨(show (4:Int)≠0 by decide),(Bd.lit (i:=4) (n:=3)).mono⟩,_,_,rfl,rfl,⟨by decide,by decide,by decide⟩,_,_,rfl,rfl,⟨by decide,by decide,by decide⟩,sz4,fun l4 hl4=>?_⟩
 obtain ⟨G1,hhG1,yG1,el4⟩:=zAV (HO.lst [V.int 3,V.int 9,V.int ((10:Int) ^ (15:Int).toNat),V.int ((10:Int) ^ (30:Int).toNat)]) hl4
 rw [hhG1]
 have SG1:=yG1
 refine ⟨_,rfl,_,_,rfl,rfl,(show (4:Int)≠0 by decide),l4,_,_,_,rfl,rfl,SqL.of el4,ekk,_,_,rfl,rfl,(show kk≠0 by omega),_,_,rfl,rfl,?_⟩
 refine ⟨sz6,fun l6 hl6=>?_⟩
 obtain ⟨G2,hhG2,yG2,el6⟩:=zAV (HO.lst [V.int 1,V.int 2,V.int 2,V.int 1,V.int 3,V.int 2]) hl6
 rw [hhG2]
 have SG2:=SG1.trans yG2
 refine ⟨_,rfl,_,_,rfl,rfl,(show (6:Int)≠0 by decide),l6,_,_,_,rfl,rfl,SqL.of el6,en,?_⟩
 refine ⟨sz0,fun pl hpl=>?_⟩
 have hpl0:=SG2.free hpl
 obtain ⟨G3,hhG3,yG3,epl⟩:=zAV (HO.lst ([]:List V)) hpl
 rw [hhG3]
 have SG3:=SG2.trans yG3
 have sP:Same H (hide [pl] G3):=zCD hpl0 SG3
 have r0:=Int.fmod_nonneg_of_pos ((zBR ns 1).fdiv 6) (show (0:Int) < 3 by decide)
 have r3:=Int.fmod_lt_of_pos ((zBR ns 1).fdiv 6) (show (0:Int) < 3 by decide)
 refine ⟨_,rfl,_,_,rfl,rfl,⟨(show (6:Int)≠0 by decide),(Bd.lit (i:=6) (n:=3)).mono⟩,_,_,rfl,rfl,(show (3:Int)≠0 by decide),(((zBR ns 1).fdiv 6).fmod 3),rfl,(by omega),(by omega),zBd (lo:=0) (n:=((((zBR ns 1).fdiv 6).fmod 3)).toNat)
  (fun i σ H'=>∃ (pv:List V) (bs:List (Int × Int)) (o6 o7:Option V),σ=[some (.ref a),some (.int (zBR ns 0)),some (.int (zBR ns 1)),some (.int (1 + ((zBR ns 0).fdiv 4).fmod kk)),some (.int (n:Int)),some (.ref pl),o6,o7,none,none]/\Same H (hide [pl] H')/\H' pl=some (.lst pv)/\Paired (PuV (hide [pl] H')) pv bs/\bs.length=i/\BsOk bs)
  ⟨[],[],none,none,rfl,sP,epl,.nil,rfl,(fun b hb=>by cases hb)⟩ ?_ ?_⟩
 ·rintro i σ L0 hi ⟨pv,bs,o6,o7,rfl,sm,epl,hpv,lb,ob⟩
  have lv:=Paired.length hpv
  refine ⟨_,rfl,_,rfl,_,_,rfl,rfl,⟨(Bd.lit (i:=11) (n:=4)).mono,(zHy (i:=i) (by omega)).mono⟩,_,_,rfl,rfl,_,_,rfl,rfl,⟨(show ((18:Int) + ((11:Int) * (0 + (i:Int))))≠0 by omega),(((Bd.lit (i:=18) (n:=5)).mono (m:=8) (by decide)).add ((Bd.lit (i:=11) (n:=4)).mul (zHy (i:=i) (by omega)))).mono⟩,?_⟩
  refine ⟨_,rfl,.inl ⟨rfl,_,SqL.of epl⟩,_,rfl,_,_,rfl,rfl,(show (3:Int)≠0 by decide),_,rfl,_,_,rfl,rfl,⟨(zDy (a:=((zBR ns 1).fdiv (18 + 11 * (0 + (i:Int))))) (Bd.lit (i:=3) (n:=2)) (show (0:Int) < (3:Int) by decide)).mono,bu.mono⟩,_,_,rfl,rfl,_,rfl,_,_,rfl,rfl,⟨(show (3:Int)≠0 by decide),(Bd.lit (i:=3) (n:=2)).mono⟩,_,_,rfl,rfl,(show (3:Int)≠0 by decide),_,rfl,_,_,rfl,rfl,⟨(zDy (a:=(((zBR ns 1).fdiv (18 + 11 * (0 + (i:Int)))).fdiv (3:Int))) (Bd.lit (i:=3) (n:=2)) (show (0:Int) < (3:Int) by decide)).mono,bu.mono⟩,sz2,fun p hp=>?_⟩
  have x0:=Int.fmod_nonneg_of_pos ((zBR ns 1).fdiv (18 + 11 * (0 + (i:Int)))) (show (0:Int) < 3 by decide)
  have x3:=Int.fmod_nonneg_of_pos (((zBR ns 1).fdiv (18 + 11 * (0 + (i:Int)))).fdiv 3) (show (0:Int) < 3 by decide)
  have z0:=Int.mul_nonneg x0 (Int.le_of_lt u0)
  have z1:=Int.mul_nonneg x3 (Int.le_of_lt u0)
  have B1:Bd 102 ((0:Int) - ((((zBR ns 1).fdiv (18 + 11 * (0 + (i:Int)))).fmod (3:Int)) * (1 + ((zBR ns 0).fdiv 4).fmod kk))):=by
   have:=(((Bd.lit (i:=0) (n:=1)).mono (m:=102) (by decide)).sub ((zDy (a:=((zBR ns 1).fdiv (18 + 11 * (0 + (i:Int))))) (Bd.lit (i:=3) (n:=2)) (show (0:Int) < (3:Int) by decide)).mul bu))
   exact Bd.of_le (j:=((zBR ns 1).fdiv (18 + 11 * (0 + (i:Int)))).fmod 3 * (1 + ((zBR ns 0).fdiv 4).fmod kk)) (Bd.mul (n:=2) (m:=100) (zDy (Bd.lit (i:=3) (n:=2)) (by decide)) bu) (by omega)
  have B2:Bd 102 (((((zBR ns 1).fdiv (18 + 11 * (0 + (i:Int)))).fdiv (3:Int)).fmod (3:Int)) * (1 + ((zBR ns 0).fdiv 4).fmod kk)):=((zDy (a:=(((zBR ns 1).fdiv (18 + 11 * (0 + (i:Int)))).fdiv (3:Int))) (Bd.lit (i:=3) (n:=2)) (show (0:Int) < (3:Int) by decide)).mul bu)
  generalize hlo:((0:Int) - ((((zBR ns 1).fdiv (18 + 11 * (0 + (i:Int)))).fmod (3:Int)) * (1 + ((zBR ns 0).fdiv 4).fmod kk)))=lo at *
  generalize hhi:(((((zBR ns 1).fdiv (18 + 11 * (0 + (i:Int)))).fdiv (3:Int)).fmod (3:Int)) * (1 + ((zBR ns 0).fdiv 4).fmod kk))=hi' at *
  have lh:lo<=hi':=by omega
  obtain ⟨M,hhM,zn,ep⟩:=zAV (HO.tup [V.int lo,V.int hi']) hp
  rw [hhM]
  refine ⟨pl,pv,_,rfl,rfl,zn _ _ epl,zAp (by omega),?_⟩
  have h4:=(zAf (B:=[pl]) zn).trans (zBA (x:=pl) (HO.lst (pv++[V.ref p])))
  refine ⟨pv++[V.ref p],bs++[(lo,hi')],_,_,rfl,sm.trans h4,zAF,?_,(by rw [List.length_append,lb]; rfl),zBX ob ⟨lh,B1,B2⟩⟩
  exact zAb (R:=PuV _) ⟨p,rfl,(zBA (x:=pl) _) _ _ (zDG (zn _ _ epl) ep)⟩ (zA0 h4 hpv)
 rintro σ L0 ⟨pv,bs,o6,o7,rfl,sm,epl,hpv,lb,ob⟩
 have lv:=Paired.length hpv
 have sj:=sm.trans zAZ
 have hpv:=zA0 zAZ hpv
 refine ⟨sz0,fun ml hml=>?_⟩
 obtain ⟨M0,hhM,yM,eml⟩:=zAV (HO.lst ([]:List V)) hml
 rw [hhM]
 have sM:Same L0 (hide [ml] M0):=zCD hml yM
 have t0:=Int.fmod_nonneg_of_pos ((zBR ns 1).fdiv 54) (show (0:Int) < 3 by decide)
 have t3:=Int.fmod_lt_of_pos ((zBR ns 1).fdiv 54) (show (0:Int) < 3 by decide)
 refine ⟨_,rfl,_,_,rfl,rfl,⟨(show (54:Int)≠0 by decide),(Bd.lit (i:=54) (n:=6)).mono⟩,_,_,rfl,rfl,(show (3:Int)≠0 by decide),_,_,rfl,rfl,(1 + ((zBR ns 1).fdiv 54).fmod 3),rfl,(by omega),(by omega),zBd (lo:=0) (n:=((1 + ((zBR ns 1).fdiv 54).fmod 3)).toNat)
  (fun i σ H'=>∃ (mv:List V) (p6 p9:Option V),σ=[some (.ref a),some (.int (zBR ns 0)),some (.int (zBR ns 1)),some (.int (1 + ((zBR ns 0).fdiv 4).fmod kk)),some (.int (n:Int)),some (.ref pl),p6,o7,some (.ref ml),p9]/\Same L0 (hide [ml] H')/\H' ml=some (.lst mv)/\(∀ x∈mv,MPV (hide [ml] H') n pv.length x)/\mv.length=i)
  ⟨[],o6,none,rfl,sM,eml,(fun x hx=>by cases hx),rfl⟩ ?_ ?_⟩
 ·rintro i σ N0 hi ⟨mv,p6,p9,rfl,sn,eml,hmv,lm⟩
  have sk:=sn.trans zAZ
  refine ⟨_,rfl,_,rfl,_,_,rfl,rfl,a,ns,_,rfl,(sj.trans sk).seq hS,(by omega),_,rfl,_,_,rfl,rfl,?_⟩
  refine ⟨_,rfl,.inl ⟨rfl,_,SqL.of eml⟩,_,rfl,_,rfl,_,rfl,pl,_,rfl,.inl (SqL.of (sk _ _ epl)),_,rfl,_,rfl,_,_,rfl,rfl,⟨(show (162:Int)≠0 by decide),(Bd.lit (i:=162) (n:=8)).mono⟩,_,_,rfl,rfl,(show (2:Int)≠0 by decide),rfl,_,_,n,pv.length,_,[ml],rfl,n1,n3,(by omega),u0,bu,(fun b hb=>by rw [List.mem_singleton.mp hb]; exact ⟨_,eml⟩),fun v N1 z1 MP=>?_⟩
  refine ⟨ml,mv,_,rfl,rfl,z1 _ _ eml,zAp (by omega),?_⟩
  have h5:=zBA (x:=ml) (H:=N1) (HO.lst (mv++[v]))
  have h4:=(zAf (B:=[ml]) z1).trans h5
  exact ⟨mv++[v],_,_,rfl,sn.trans h4,zAF,zBX (fun x hx=>(hmv x hx).same h4) (MP.same h5),(by rw [List.length_append,lm]; rfl)⟩
 rintro σ N0 ⟨mv,p6,p9,rfl,sn,eml,hmv,lm⟩
 have sk:=sn.trans zAZ
 refine ⟨_,rfl,_,rfl,_,rfl,_,rfl,sz4,fun tt htt=>?_⟩
 have yT:=zAI htt (HO.tup [V.int (n:Int),V.ref pl,V.ref ml,V.int (1 + ((zBR ns 0).fdiv 4).fmod kk)])
 exact q (.ref tt) _ (sj.trans (sk.trans yT)) ⟨tt,pl,ml,n,_,pv,mv,bs,rfl,zAF,(sk.trans yT) _ _ epl,zA0 (sk.trans yT) hpv,by omega,ob,yT _ _ eml,by omega,fun x hx=>((hmv x hx).same zAZ).same yT,n1,n3,u0,bu⟩
theorem zKo {k:Nat} {f:Addr} {fd:FuncData} (F:Fun K "_law_made" "_law_made" zD8 f fd) (B:Bl mg) (cw:FnC P w K mg base ac nl8 k (zD1 ac)) (cx:FnC P w K mg base ae ["self","many","pushes","modes"] k (zDg ae ac)):FnOk P w K mg base CX0 (k + 1 + 1) f fd ["_law_spec"] (zFh ae ac):=by
 refine F.ok zBZ ?_ ?_
 ·rintro vs H Q E ⟨v,n,bs,ms,u,rfl,_⟩
  rfl
 rintro cdv A outer s H vs Q E hr ⟨v,n,bs,ms,u,rfl,SV,TO,q⟩
 refine ⟨_,(zAD (zGi (pvj 0) (zDD rfl (zAY (zAJ (i:=1) zBZ.nd rfl (Or.inl rfl)) (zAY (zAJ (i:=2) zBZ.nd rfl (Or.inl rfl)) (zAY (zAJ (i:=3) zBZ.nd rfl (Or.inl rfl)) (zAY (zAJ (i:=4) zBZ.nd rfl (Or.inl rfl)) zCQ))))))
  (zAD (zAR (i:=5) zBZ.nd rfl (Or.inl rfl) (zA7 zAB))
  (zAD (zBy PassesOwn.never rfl (zBC (pvj 3)) (zDD rfl (zAY (zAJ (i:=6) zBZ.nd rfl (Or.inl rfl)) (zAY (zAJ (i:=7) zBZ.nd rfl (Or.inl rfl)) (zAY (zAJ (i:=8) zBZ.nd rfl (Or.inl rfl)) (zAY (zAJ (i:=9) zBZ.nd rfl (Or.inl rfl)) (zAY (zAJ (i:=10) zBZ.nd rfl (Or.inl rfl)) (zAY (zAJ (i:=11) zBZ.nd rfl (Or.inl rfl)) zCQ))))))) (zAD (zEB (i:=12) zBZ.nd rfl rfl (own:=["_law_one"]) (caps:=[]) (zCq rfl) rfl (zBC (pvj 7)) (fun _ _ _ _=>zAJ (i:=0) (show (["_law_one"]:List Str).Nodup by decide +kernel) rfl (Or.inl rfl)) (fun _ _ _ _=>(zAi (show zDr _ _ (fun xs H Q=>∃ p ys,xs=[V.ref p]/\(SqL K H p ys\/SqT K H p ys)/\∀ l,H l=none->Q (V.ref l) (upd H l (HO.lst ys))) from zAy) rfl B.list_ zAm (zAA (pvj 0) zAB))) rfl)
   (zAH (zBe (zDs PySem.F.plainAttrs_list PySem.F.slot_list_append PySem.F.type_list_append japp (pvj 5) (zAA (zIx cw af hr rfl (zAA (zAi zAy rfl B.list_ zAm (zAA (pvj 6) zAB)) (zAA (pvj 12) (zAA (zAi zAy rfl B.list_ zAm (zAA (pvj 8) zAB)) (zAA (zAr (own:=["_law_one"]) (caps:=[]) (zCq rfl) rfl (zBC (pvj 9)) (fun _ _ _ _=>zAJ (i:=0) (show (["_law_one"]:List Str).Nodup by decide +kernel) rfl (Or.inl rfl)) (fun _ _ _ _=>(zAi (show zDr _ _ (fun xs H Q=>∃ p ys,xs=[V.ref p]/\(SqL K H p ys\/SqT K H p ys)/\∀ l,H l=none->Q (V.ref l) (upd H l (HO.lst ys))) from zAy) rfl B.list_ zAm (zAA (pvj 0) zAB)))) (zAA (zAi zAy rfl B.list_ zAm (zAA (pvj 10) zAB)) (zAA (pvj 11) zAB))))))) zAB))))))
  (zAH (zAU (zIx cx ag hr rfl (zAA (pvj 1) (zAA (zAi zAy rfl B.list_ zAm (zAA (pvj 2) zAB)) (zAA (pvj 5) zAB))))))))),?_⟩
 try dsimp only [cxOf,Cx.nox,Cx.wish]
 obtain ⟨st,pa,ma,pv,mv,rfl,est,epa,hpv,ema,hmv⟩:=SV
 have lmv:=Paired.length hmv
 have m40:=TO.m40
 have n3:=TO.n3
 refine ⟨_,rfl,st,_,rfl,SqT.of est,rfl,_,_,rfl,_,_,rfl,_,_,rfl,_,_,rfl,rfl,?_⟩
 refine ⟨sz0,fun sl hsl=>?_⟩
 obtain ⟨J0,hhS,yS,esl⟩:=zAV (HO.lst ([]:List V)) hsl
 rw [hhS]
 have s0:Same H (hide [sl] J0):=zCD hsl yS
 refine ⟨_,rfl,ma,rfl,⟨_,SqL.of (yS _ _ ema)⟩,zED (K:=K) (a:=ma) (xs:=mv)
  (fun i σ H'=>∃ (sv:List V) (o6 o7 o8 o9 oa ob oc:Option V),σ=[some (.ref st),some (.int (n:Int)),some (.ref pa),some (.ref ma),some (.int u),some (.ref sl),o6,o7,o8,o9,oa,ob,oc]/\Same H (hide [sl] H')/\H' sl=some (.lst sv)/\Paired (zEU ac (hide [sl] H')) sv (ms.take i))
  ⟨[],none,none,none,none,none,none,none,rfl,s0,esl,.nil⟩ (fun i σ H' _ ⟨_,_,_,_,_,_,_,_,_,sm,_⟩=>SqL.of (zAZ _ _ (sm _ _ ema))) ?_ ?_⟩
 ·rintro i x σ L0 hi ⟨sv,o6,o7,o8,o9,oa,ob,oc,rfl,sm,esl,hsv⟩
  have sj:=sm.trans zAZ
  obtain ⟨md,hmd,MT⟩:=zAc hmv hi
  have MO:=TO.mok md (List.mem_of_getElem? hmd)
  obtain ⟨tt,ra,na,sa,qa,aa,rv,nv,wv,rfl,ett,era,hrv,ena,hnv,esa,eqa,hqv,eaa⟩:=MT.same sj
  have lsv:=Paired.length hsv
  rw [List.length_take] at lsv
  have ilt:i < ms.length:=(List.getElem?_eq_some_iff.mp hmd).1
  have lnx:=MO.nexts.1
  have lpu:=MO.push.1
  have lnv:=Paired.length hnv
  have lqv:=Paired.length hqv
  have lrv:=Paired.length hrv
  have few:=MO.few
  have lst9:=MO.steer
  have lad9:=MO.add
  refine ⟨tt,_,rfl,SqT.of ett,rfl,_,_,rfl,_,_,rfl,_,_,rfl,_,_,rfl,_,_,rfl,_,_,rfl,rfl,?_⟩
  refine ⟨_,rfl,na,rfl,⟨_,SqL.of ena⟩,zBQ (K:=K) (a:=na) (xs:=nv) (fun i ys σ H'=>TabV H' ys (List.take i md.nexts)/\(∃ o,σ=[o])/\Same L0 H')
   ⟨.nil,⟨none,rfl⟩,Same.refl _⟩ (fun i ys σ H' hi ⟨e1,_,s1⟩=>⟨SqL.of (s1 _ _ ena),by have:=Paired.length e1; rw [List.length_take] at this; omega⟩) (zAh ((by have:=Paired.length hnv; omega))) ?_ ?_⟩
  ·rintro i x ys σ H' hi ⟨hys,⟨o,rfl⟩,s1⟩
   obtain ⟨r,hr',a9,rfl,ea9⟩:=zAc hnv hi
   refine ⟨_,rfl,a9,_,rfl,.inl (SqL.of (s1 _ _ ea9)),fun l9 hl9=>?_⟩
   have z9:=zAI hl9 (HO.lst (r.map V.int))
   refine ⟨?_,⟨_,rfl⟩,s1.trans z9⟩
   rw [zAa hr']
   exact zAb (R:=LstI _) ⟨l9,rfl,zAF⟩ (TabV.same z9 hys)
  rintro cn σ Hcn ⟨hcn,⟨o,rfl⟩,ycn⟩ la hla
  have SL1:=sj.trans ycn
  replace era:=(ycn _ _ era)
  replace hrv:=(zBT.same ycn hrv)
  replace esa:=(ycn _ _ esa)
  replace eqa:=(ycn _ _ eqa)
  replace hqv:=(TabV.same ycn hqv)
  replace eaa:=(ycn _ _ eaa)
  replace esl:=(ycn _ _ esl)
  obtain ⟨L2,hhL2,yL2,ela⟩:=zAV (HO.lst cn) hla
  rw [hhL2]
  have SL2:=SL1.trans yL2
  replace era:=(yL2 _ _ era)
  replace hrv:=(zBT.same yL2 hrv)
  replace esa:=(yL2 _ _ esa)
  replace eqa:=(yL2 _ _ eqa)
  replace hqv:=(TabV.same yL2 hqv)
  replace eaa:=(yL2 _ _ eaa)
  replace esl:=(yL2 _ _ esl)
  replace hcn:=(TabV.same yL2 hcn)
  refine ⟨_,rfl,.inl ⟨rfl,_,SqL.of esl⟩,_,rfl,ra,_,rfl,.inl (SqL.of era),fun r2 hr2=>?_⟩
  obtain ⟨L3,hhL3,yL3,er2⟩:=zAV (HO.lst rv) hr2
  rw [hhL3]
  have SL3:=SL2.trans yL3
  replace hrv:=(zBT.same yL3 hrv)
  replace esa:=(yL3 _ _ esa)
  replace eqa:=(yL3 _ _ eqa)
  replace hqv:=(TabV.same yL3 hqv)
  replace eaa:=(yL3 _ _ eaa)
  replace esl:=(yL3 _ _ esl)
  replace hcn:=(TabV.same yL3 hcn)
  replace ela:=(yL3 _ _ ela)
  refine ⟨_,rfl,_,rfl,sa,_,rfl,.inl (SqL.of esa),fun s2 hs2=>?_⟩
  obtain ⟨L4,hhL4,yL4,es2⟩:=zAV (HO.lst (md.steer.map V.int)) hs2
  rw [hhL4]
  have SL4:=SL3.trans yL4
  replace hrv:=(zBT.same yL4 hrv)
  replace eqa:=(yL4 _ _ eqa)
  replace hqv:=(TabV.same yL4 hqv)
  replace eaa:=(yL4 _ _ eaa)
  replace esl:=(yL4 _ _ esl)
  replace hcn:=(TabV.same yL4 hcn)
  replace ela:=(yL4 _ _ ela)
  replace er2:=(yL4 _ _ er2)
  refine ⟨_,rfl,qa,rfl,⟨_,SqL.of eqa⟩,zBQ (K:=K) (a:=qa) (xs:=wv) (fun i ys σ H'=>TabV H' ys (List.take i md.push)/\(∃ o,σ=[o])/\Same L4 H')
   ⟨.nil,⟨none,rfl⟩,Same.refl _⟩ (fun i ys σ H' hi ⟨e1,_,s1⟩=>⟨SqL.of (s1 _ _ eqa),by have:=Paired.length e1; rw [List.length_take] at this; omega⟩) (zAh ((by have:=Paired.length hqv; omega))) ?_ ?_⟩
  ·rintro i x ys σ H' hi ⟨hys,⟨o,rfl⟩,s1⟩
   obtain ⟨r,hr',a9,rfl,ea9⟩:=zAc hqv hi
   refine ⟨_,rfl,a9,_,rfl,.inl (SqL.of (s1 _ _ ea9)),fun l9 hl9=>?_⟩
   have z9:=zAI hl9 (HO.lst (r.map V.int))
   refine ⟨?_,⟨_,rfl⟩,s1.trans z9⟩
   rw [zAa hr']
   exact zAb (R:=LstI _) ⟨l9,rfl,zAF⟩ (TabV.same z9 hys)
  rintro cp σ Hcp ⟨hcp,⟨o,rfl⟩,ycp⟩ lp hlp
  have SL5:=SL4.trans ycp
  replace hrv:=(zBT.same ycp hrv)
  replace eaa:=(ycp _ _ eaa)
  replace esl:=(ycp _ _ esl)
  replace hcn:=(TabV.same ycp hcn)
  replace ela:=(ycp _ _ ela)
  replace er2:=(ycp _ _ er2)
  replace es2:=(ycp _ _ es2)
  obtain ⟨L6,hhL6,yL6,elp⟩:=zAV (HO.lst cp) hlp
  rw [hhL6]
  have SL6:=SL5.trans yL6
  replace hrv:=(zBT.same yL6 hrv)
  replace eaa:=(yL6 _ _ eaa)
  replace esl:=(yL6 _ _ esl)
  replace hcn:=(TabV.same yL6 hcn)
  replace ela:=(yL6 _ _ ela)
  replace er2:=(yL6 _ _ er2)
  replace es2:=(yL6 _ _ es2)
  replace hcp:=(TabV.same yL6 hcp)
  refine ⟨_,rfl,aa,_,rfl,.inl (SqL.of eaa),fun a2 ha2=>?_⟩
  obtain ⟨L7,hhL7,yL7,ea2⟩:=zAV (HO.lst (md.add.map V.int)) ha2
  rw [hhL7]
  have SL7:=SL6.trans yL7
  replace hrv:=(zBT.same yL7 hrv)
  replace esl:=(yL7 _ _ esl)
  replace hcn:=(TabV.same yL7 hcn)
  replace ela:=(yL7 _ _ ela)
  replace er2:=(yL7 _ _ er2)
  replace es2:=(yL7 _ _ es2)
  replace hcp:=(TabV.same yL7 hcp)
  replace elp:=(yL7 _ _ elp)
  rw [List.take_of_length_le (by omega)] at hcn
  rw [List.take_of_length_le (by omega)] at hcp
  refine ⟨_,rfl,fun mo dx hmo hdx ne=>?_⟩
  have zm:=zHW hmo hdx ne (HO.own mo) (HO.ins ac dx [])
  have eo:=zAF (H:=upd L7 dx (HO.own mo)) (a:=mo) (o:=HO.ins ac dx [])
  generalize hhJ1:upd (upd L7 dx (HO.own mo)) mo (HO.ins ac dx [])=JJ1 at zm eo |-
  refine ⟨mo,dx,r2,la,s2,lp,a2,rv,cn,cp,md,n,bs.length,rfl,eo,MO,zm _ _ er2,zBT.same zm hrv,zm _ _ ela,TabV.same zm hcn,zm _ _ es2,zm _ _ elp,TabV.same zm hcp,zm _ _ ea2,fun M2 JJ2 sb ok f1 f2 f3 f4 f5 m1 m2=>⟨rfl,?_⟩⟩
  have zz:=zIs zm sb hmo
  have zL:=(ycn.trans (yL2.trans (yL3.trans (yL4.trans (ycp.trans (yL6.trans (yL7))))))).trans zz
  have eslJ:=zz _ _ esl
  have hN:∀ {z:Addr},JJ1 z=none->z≠sl:=fun h e=>by rw [e,zm _ _ esl] at h; cases h
  have nmo:mo≠sl:=fun e=>by rw [e,esl] at hmo; cases hmo
  refine ⟨sl,sv,_,rfl,rfl,eslJ,zAp (by omega),?_⟩
  have h5:=zBA (x:=sl) (H:=JJ2) (HO.lst (sv++[V.ref mo]))
  have h4:=(zAf (B:=[sl]) zL).trans h5
  refine ⟨sv++[V.ref mo],_,_,_,_,_,_,_,rfl,sm.trans h4,zAF,?_⟩
  rw [zAa hmd]
  exact zAb (zEU.same h5 (zMB ok nmo (hN f1) (hN f2) (hN f3) (hN f4) (hN f5) eslJ (zKG hN m1) (zKG hN m2))) (Paired.mapP hsv fun _ _ z=>z.same h4)
 rintro σ L0 ⟨sv,o6,o7,o8,o9,oa,ob,oc,rfl,sm,esl,hsv⟩
 rw [List.take_of_length_le (by omega)] at hsv
 have sj:=sm.trans zAZ
 have hsv:Paired (zEU ac L0) sv ms:=Paired.mapP hsv fun _ _ z=>z.same zAZ
 refine ⟨_,rfl,_,rfl,pa,_,rfl,.inl (SqL.of (sj _ _ epa)),fun p2 hp2=>?_⟩
 obtain ⟨P0,hhP,yP,ep2⟩:=zAV (HO.lst pv) hp2
 rw [hhP]
 refine ⟨_,rfl,fun to dt hto hdt ne2=>?_⟩
 have zt:=zHW hto hdt ne2 (HO.own to) (HO.ins ae dt [])
 have et9:=zAF (H:=upd P0 dt (HO.own to)) (a:=to) (o:=HO.ins ae dt [])
 generalize hhJ9:upd (upd P0 dt (HO.own to)) to (HO.ins ae dt [])=J9 at zt et9 |-
 have hpv9:=zA0 ((sj.trans yP).trans zt) hpv
 have hmv9:Paired (zEU ac J9) sv ms:=Paired.mapP hsv fun _ _ z=>z.same (yP.trans zt)
 refine ⟨to,dt,p2,sl,pv,sv,n,bs,ms,rfl,et9,zt _ _ ep2,hpv9,zt _ _ (yP _ _ esl),hmv9,TO,fun kp km J10 sb fk fm fne eo5 ek em=>⟨rfl,?_⟩⟩
 have yT:=zIs zt sb hto
 exact q to kp km pv sv J10 ((sj.trans yP).trans yT) ⟨⟨dt,eo5⟩,ek,zA0 ((sj.trans yP).trans yT) hpv,em,Paired.mapP hsv fun _ _ z=>z.same (yP.trans yT)⟩
end
theorem zN2 {g:Int} (g0:0<=g) (g1:g < 4):∃ k:Nat,atI [V.int 0,V.int 1,V.int 1,V.int 2] g=some (.int (k:Int))/\k<=2:=by
 rcases (show g=0\/g=1\/g=2\/g=3 by omega) with e | e | e | e
 ·exact ⟨0,by rw [e]; rfl,by decide⟩
 ·exact ⟨1,by rw [e]; rfl,by decide⟩
 ·exact ⟨1,by rw [e]; rfl,by decide⟩
 ·exact ⟨2,by rw [e]; rfl,by decide⟩
theorem zN3 {n:Nat} (n1:1<=n) (n3:n<=3):∃ k:Int,atI [V.int 4,V.int 2,V.int 1] ((n:Int) - 1)=some (.int k)/\0 < k/\((n=1/\k<=4)\/(n=2/\k<=2)\/(n=3/\k<=1)):=by
 rcases (show n=1\/n=2\/n=3 by omega) with e | e | e
 ·exact ⟨4,by rw [e]; rfl,by decide,by omega⟩
 ·exact ⟨2,by rw [e]; rfl,by decide,by omega⟩
 ·exact ⟨1,by rw [e]; rfl,by decide,by omega⟩
theorem bd_n {n:Nat} (h:n < 16):Bd 4 (n:Int):=by
 show (n:Int).natAbs < 2 ^ 4
 omega
inductive zFe (vs:List V) (H:Hp) (Q:VK) (E:XK):Prop
 | mk (st:Addr) (x y:V) (c u:Int) (n:Nat) (_:vs=[.ref st,.int c]) (_:H st=some (.tup [.int (n:Int),x,y,.int u])) (_:1<=n) (_:n<=3) (_:0 < u) (_:Bd 100 u) (_:∀ l rv rows H',Same H H'->H' l=some (.lst rv)->zAk H' rv rows->WB rows n 2 106->rows.length<=8->Q (.ref l) H'):zFe vs H Q E
inductive GmV (H:Hp) (v:V):Prop
 | mk (t st sa:Addr) (n k:Nat) (bs:List (Int × Int)) (m:MD) (u lo hi:Int) (sv:List V) (safe:List (List Int × Int)) (_:v=.ref t) (_:H t=some (.tup [.ref st,.ref sa,.int lo,.int hi,.int (k:Int)])) (_:zFY H (.ref st) n bs [m] u) (_:H sa=some (.lst sv)) (_:zAk H sv safe) (_:zCo n bs m lo hi safe) (_:ThOk n bs [m]) (_:m.rows=[]) (_:1<=k) (_:(n=1/\k<=4)\/(n=2/\k<=2)\/(n=3/\k<=1)) (_:0 < u) (_:Bd 100 u):GmV H v
inductive zFm (K:PySem.W.Frag) (vs:List V) (H:Hp) (Q:VK) (E:XK):Prop
 | mk (a:Addr) (ns:List Int) (_:vs=[.ref a]) (_:SqL K H a (ns.map V.int)) (_:∀ v H',Same H H'->GmV H' v->Q v H'):zFm K vs H Q E
theorem zIf {vs:List V} {i:Nat} {x:V} (h:vs[i]? = some x):atI vs (0 + (i:Int))=some x:=by
 rw [Int.zero_add]
 exact zDJ h
section
variable {P:Program} {w:World} {K:PySem.W.Frag} {mg:Str->Option Value} {base:Heap} {cM cP:Addr}
abbrev zE9:Stmt:=top 65
theorem zEj:zAP ["_law_cell","_law_many","_law_unit","_law_xs","_law_box_here","_law_i","_law_low"] ["_law_cell","_law_many","_law_unit"] (zAC zE9):=.a
abbrev zDl:Stmt:=top 66
theorem zEi:zAP ["_law_box_here","_law_rows_here","_law_i","_law_ones"] ["_law_box_here"] (zAC zDl):=.a
abbrev zDk:Stmt:=top 69
theorem zDL:zAP ["_law_spec","_law_cell","_law_xs","_law_rows_here","_law_k","_law_numbers"] ["_law_spec","_law_cell"] (zAC zDk):=.a
abbrev zA6:Stmt:=top 70
theorem zBB:zAP nl0 ["_law_script"] (zAC zA6):=.a
variable {ac ae:Addr} (af:ClsF K mg "Mode" ac) (ah:zCW K ac) (ag:ClsF K mg "Thing" ae) (ai:zBs K ae)
include af ah ag ai
theorem zL6 {k:Nat} {f:Addr} {fd:FuncData} (F:Fun K "_law_box" "_law_box" zE9 f fd) (B:Bl mg) (aq:Fn P w K mg base "_law_stream" ["_law_cell","_law_many"] k zCu) (ak:Fn P w K mg base "_law_number" ["_law_x","_law_far"] k zDv):FnOk P w K mg base CX0 (k + 1) f fd ["_law_cell","_law_many","_law_unit"] zG5:=by
 refine F.ok zEj ?_ ?_
 ·rintro vs H Q E ⟨c,u,n,rfl,_⟩
  rfl
 rintro cdv A outer s H vs Q E hr ⟨c,u,n,rfl,n1,n3,u0,bu,q⟩
 refine ⟨_,(zAD (zAR (i:=3) zEj.nd rfl (Or.inl rfl) (zAG aq hr rfl (zAA (pvj 0) (zAA (zAK (ji zAd) zAE (pvj 1)) zAB))))
  (zAD (zAR (i:=4) zEj.nd rfl (Or.inl rfl) (zA7 zAB))
  (zAD (zBy PassesOwn.never rfl (zAs rfl B.range_ (zAA (pvj 1) zAB)) (zAJ (i:=5) zEj.nd rfl (Or.inl rfl)) (zAD (zAR (i:=6) zEj.nd rfl (Or.inl rfl) (zAK (ji zAd) (zAG ak hr rfl (zAA (zAX zAQ (pvj 3) (zAK (ji zAd) zAE (pvj 5)) (fun _ _=>rfl)) (zAA zAE zAB))) (pvj 2)))
   (zAH (zBe (zDs PySem.F.plainAttrs_list PySem.F.slot_list_append PySem.F.type_list_append japp (pvj 4) (zAA (zCA (zAA (pvj 6) (zAA (zAK (ji0 zAt) (zAK (ji0 zAt) (pvj 6) (zAK (ji zAd) (zAK (ji zAz) (zAX zAQ (pvj 3) (zAK (ji0 zAt) (zAK (ji zAd) zAE (pvj 5)) zAE) (fun _ _=>rfl)) zAE) (pvj 2))) (zAK (ji zAz) (zAK (ji zBh) (zAX zAQ (pvj 3) (zAK (ji0 zAt) (zAK (ji zAd) zAE (pvj 5)) zAE) (fun _ _=>rfl)) zAE) zAE)) zAB))) zAB))))))
  (zAH (zAU (pvj 4)))))),?_⟩
 try dsimp only [cxOf,Cx.nox,Cx.wish]
 have bn:Bd 4 (n:Int):=bd_n (by omega)
 refine ⟨_,rfl,_,rfl,_,_,rfl,rfl,⟨Bd.mono (i:=2) (n:=3) Bd.lit (by decide),bn.mono⟩,_,(2 * (n:Int)),rfl,(by omega),(by omega),fun xa J1 xs y1 _ ex lx bx0=>?_⟩
 have lx2:xs.length=2 * n:=by omega
 have px:∀ k,0<=xs.getD k 0:=fun k=>by
  rw [List.getD_eq_getElem?_getD]
  cases e:xs[k]? with
  | none=>exact Int.le_refl 0
  | some x=>exact (bx0 x (List.mem_of_getElem? e)).1
 have bx:∀ k,Bd 150 (xs.getD k 0):=fun k=>zDI (fun x hx=>bd45 (bx0 x hx)) k
 refine ⟨sz0,fun bl hbl=>?_⟩
 obtain ⟨J2,hhJ2,y2,ebl⟩:=zAV (HO.lst ([]:List V)) hbl
 rw [hhJ2]
 have s3:=zCD hbl y2
 refine ⟨_,rfl,_,rfl,(by omega),(by omega),zBd (lo:=0) (n:=((n:Nat):Int).toNat)
  (fun i σ H'=>∃ (bv:List V) (bx:List (Int × Int)) (o5 o6:Option V),σ=[some (.int c),some (.int (n:Int)),some (.int u),some (.ref xa),some (.ref bl),o5,o6]/\Same J1 (hide [bl] H')/\H' bl=some (.lst bv)/\Paired (PuV (hide [bl] H')) bv bx/\bx.length=i/\(∀ b∈bx,Bd 106 b.1/\Bd 106 b.2))
  ⟨[],[],none,none,rfl,s3,ebl,.nil,rfl,(fun b hb=>by cases hb)⟩ ?_ ?_⟩
 ·rintro i σ L0 hi ⟨bv,bx',o5,o6,rfl,sm,ebl,hbv,lb,ob⟩
  have sj:=sm.trans zAZ
  have exL:=sj _ _ ex
  have lv:=Paired.length hbv
  refine ⟨_,rfl,_,rfl,_,_,rfl,rfl,⟨(Bd.lit (i:=2) (n:=2)).mono,(zHy (i:=i) (by omega)).mono⟩,xa,_,_,_,rfl,rfl,SqL.of exL,zBS (xs:=xs) (k:=(2 * i)) (by omega) (by omega),_,_,rfl,(by decide),Bd.lit,fun y z1 z2=>?_⟩
  have b3:Bd 2 y:=zCB (f:=3) Bd.lit z1 z2
  have bl2:Bd 102 (y * u):=b3.mul bu
  refine ⟨_,rfl,_,_,rfl,rfl,⟨b3.mono,bu.mono⟩,?_⟩
  refine ⟨_,rfl,.inl ⟨rfl,_,SqL.of ebl⟩,_,rfl,_,rfl,_,rfl,_,rfl,_,_,rfl,rfl,⟨(Bd.lit (i:=2) (n:=2)).mono,(zHy (i:=i) (by omega)).mono⟩,_,_,rfl,rfl,xa,_,_,_,rfl,rfl,SqL.of exL,zBS (xs:=xs) (k:=((2 * i) + 1)) (by omega) (by omega),_,_,rfl,rfl,(show (4:Int)≠0 by decide),_,rfl,_,_,rfl,rfl,⟨(zDy (a:=(xs.getD (((2 * i) + 1)) 0)) (Bd.lit (i:=4) (n:=3)) (show (0:Int) < (4:Int) by decide)).mono,bu.mono⟩,_,_,rfl,rfl,_,rfl,_,rfl,_,_,rfl,rfl,⟨(Bd.lit (i:=2) (n:=2)).mono,(zHy (i:=i) (by omega)).mono⟩,_,_,rfl,rfl,xa,_,_,_,rfl,rfl,SqL.of exL,zBS (xs:=xs) (k:=((2 * i) + 1)) (by omega) (by omega),_,_,rfl,rfl,⟨(show (4:Int)≠0 by decide),(Bd.lit (i:=4) (n:=3)).mono⟩,_,_,rfl,rfl,(show (2:Int)≠0 by decide),_,_,rfl,rfl,sz2,fun p hp=>?_⟩
  have B2:=(((bl2.mono (m:=103) (by decide)).add ((zDy (a:=(xs.getD (((2 * i) + 1)) 0)) (Bd.lit (i:=4) (n:=3)) (show (0:Int) < (4:Int) by decide)).mul bu)).add ((zDy (a:=((xs.getD (((2 * i) + 1)) 0).fdiv (4:Int))) (Bd.lit (i:=2) (n:=2)) (show (0:Int) < (2:Int) by decide)).mono (m:=104) (by decide)))
  generalize (((y * u) + (((xs.getD (((2 * i) + 1)) 0).fmod (4:Int)) * u)) + (((xs.getD (((2 * i) + 1)) 0).fdiv (4:Int)).fmod (2:Int)))=hh at B2 hp |-
  obtain ⟨M,hhM,zn,ep⟩:=zAV (HO.tup [V.int (y * u),V.int hh]) hp
  rw [hhM]
  refine ⟨bl,bv,_,rfl,rfl,zn _ _ ebl,zAp (by omega),?_⟩
  have h4:=(zAf (B:=[bl]) zn).trans (zBA (x:=bl) (HO.lst (bv++[V.ref p])))
  refine ⟨bv++[V.ref p],bx'++[(y * u,hh)],_,_,rfl,sm.trans h4,zAF,?_,(by rw [List.length_append,lb]; rfl),zBX ob ⟨bl2.mono,B2.mono⟩⟩
  exact zAb (R:=PuV _) ⟨p,rfl,(zBA (x:=bl) _) _ _ (zDG (zn _ _ ebl) ep)⟩ (zA0 h4 hbv)
 rintro σ L0 ⟨bv,bx',o5,o6,rfl,sm,ebl,hbv,lb,ob⟩
 exact ⟨_,rfl,q bl bv bx' L0 (y1.trans (sm.trans zAZ)) ebl (zA0 zAZ hbv) (by omega) ob⟩
theorem zKk {k:Nat} {f:Addr} {fd:FuncData} (F:Fun K "_law_rows" "_law_rows" zDl f fd) (B:Bl mg):FnOk P w K mg base CX0 (k + 1) f fd ["_law_box_here"] zFf:=by
 refine F.ok zEi ?_ ?_
 ·rintro vs H Q E ⟨a,bv,bx,n,rfl,_⟩
  rfl
 rintro cdv A outer s H vs Q E hr ⟨a,bv,bx,n,rfl,ha,hbv,lbx,n1,n3,ob,q⟩
 refine ⟨_,(zAD (zAR (i:=1) zEi.nd rfl (Or.inl rfl) (zA7 zAB))
  (zAD (zBy PassesOwn.never rfl (zAs rfl B.range_ (zAA (zAS jlen rfl B.len_ zAv (zAA (pvj 0) zAB)) zAB)) (zAJ (i:=2) zEi.nd rfl (Or.inr rfl)) (zAD (zEB (i:=3) zEi.nd rfl rfl (own:=["_law_j"]) (caps:=[(2,"_law_i")]) (zBm (S:=zAC zDl) (N:=["_law_box_here","_law_rows_here","_law_i","_law_ones"]) ⟨_,rfl⟩) rfl (zAs rfl B.range_ (zAA (zAS jlen rfl B.len_ zAv (zAA (pvj 0) zAB)) zAB)) (fun _ _ _ _=>zAJ (i:=0) (show (["_law_j","_law_i"]:List Str).Nodup by decide +kernel) rfl (Or.inl rfl)) (fun _ _ _ _=>(zAi zHr rfl B.int_ zE2 (zAA (zCH zEG (pvj 0) (pvj 1) (zAq _)) zAB))) rfl)
   (zAD (zBe (zDs PySem.F.plainAttrs_list PySem.F.slot_list_append PySem.F.type_list_append japp (pvj 1) (zAA (zAi jtup rfl B.tuple_ zAn (zAA (zAK jcat (pvj 3) (zA7 (zAA (zAX zAO (zAX zAQ (pvj 0) (pvj 2) (fun _ _=>rfl)) zAE (fun _ _=>rfl)) zAB))) zAB)) zAB)))
   (zAH (zBe (zDs PySem.F.plainAttrs_list PySem.F.slot_list_append PySem.F.type_list_append japp (pvj 1) (zAA (zAi jtup rfl B.tuple_ zAn (zAA (zAK jcat (zAr (own:=["_law_one"]) (caps:=[]) (zCq rfl) rfl (zBC (pvj 3)) (fun _ _ _ _=>zAJ (i:=0) (show (["_law_one"]:List Str).Nodup by decide +kernel) rfl (Or.inl rfl)) (fun _ _ _ _=>(zAK (ji0 zCR) zAE (pvj 0)))) (zA7 (zAA (zAK (ji0 zCR) zAE (zAX zAO (zAX zAQ (pvj 0) (pvj 2) (fun _ _=>rfl)) zAE (fun _ _=>rfl))) zAB))) zAB)) zAB)))))))
  (zAH (zAU (pvj 1))))),?_⟩
 try dsimp only [cxOf,Cx.nox,Cx.wish]
 have lbv:=Paired.length hbv
 refine ⟨sz0,fun rl hrl=>?_⟩
 obtain ⟨J2,hhJ2,y2,erl⟩:=zAV (HO.lst ([]:List V)) hrl
 rw [hhJ2]
 have s3:=zCD hrl y2
 refine ⟨_,rfl,a,_,rfl,.inl (SqL.of (y2 _ _ ha)),_,rfl,(by omega),(by omega),zBd (lo:=0) (n:=((bv.length:Nat):Int).toNat)
  (fun i σ H'=>∃ (rv:List V) (rows:List (List Int × Int)) (o2 o3:Option V),σ=[some (.ref a),some (.ref rl),o2,o3]/\Same H (hide [rl] H')/\H' rl=some (.lst rv)/\zAk (hide [rl] H') rv rows/\rows.length=2 * i/\WB rows n 2 106)
  ⟨[],[],none,none,rfl,s3,erl,.nil,rfl,(fun b hb=>by cases hb)⟩ ?_ ?_⟩
 ·rintro i σ L0 hi ⟨rv,rows,o2,o3,rfl,sm,erl,hrv,lr,WBr⟩
  have i3:i < n:=by omega
  have sj:=sm.trans zAZ
  have lrv:=Paired.length hrv
  obtain ⟨xv,hxv⟩:∃ x,bv[i]? = some x:=⟨_,List.getElem?_eq_getElem (by omega)⟩
  obtain ⟨bb,hbb,p,rfl,ep⟩:=zAc hbv hxv
  have bbd:=ob bb (List.mem_of_getElem? hbb)
  refine ⟨_,rfl,a,_,rfl,.inl (SqL.of (sj _ _ ha)),_,rfl,(by omega),(by omega),zB8 (lo:=0) (n:=((bv.length:Nat):Int).toNat)
   (fun k zs σ H2=>∃ ws:List Int,zs=ws.map V.int/\ws.length=k/\(∀ x∈ws,Bd 2 x)/\(∃ o,σ=[o,some (.int (0 + (i:Int)))])/\Same L0 H2)
   ⟨[],rfl,rfl,(fun x hx=>by cases hx),⟨none,rfl⟩,Same.refl _⟩ (fun k zs σ H2 ⟨ws,e1,l1,_⟩=>by rw [e1,List.length_map]; omega) (zAh (by omega)) ?_ ?_⟩
  ·rintro k zs σ H2 hk ⟨ws,rfl,lw,bw,⟨o,rfl⟩,sk⟩
   refine ⟨_,rfl,_,rfl,rfl,.inr ⟨_,rfl,?_⟩⟩
   exact ⟨ws++[(if decide (V.int (0 + (k:Int))=V.int (0 + (i:Int))) then 1 else 0)],(by rw [List.map_append]; rfl),(by rw [List.length_append,lw]; rfl),zBX bw ((by split <;> exact Bd.lit)),⟨_,rfl⟩,sk⟩
  rintro zs σ H2k ⟨ws,rfl,lw,bw,⟨o,rfl⟩,sk⟩ c1 hc1
  obtain ⟨M,hhM,zc,ec1⟩:=zAV (HO.lst (ws.map V.int)) hc1
  rw [hhM]
  have zM:=sk.trans zc
  have erM:=zM _ _ erl
  have sM:=sj.trans zM
  have hrM:=zAk.same (zAf (B:=[rl]) zM) hrv
  have smM:=sm.trans (zAf (B:=[rl]) zM)
  refine ⟨_,rfl,.inl ⟨rfl,_,SqL.of erM⟩,_,rfl,_,rfl,_,rfl,a,_,_,_,rfl,rfl,SqL.of (sM _ _ ha),zIf hxv,p,_,_,_,rfl,rfl,SqT.of (sM _ _ ep),at1,sz1,fun lA hlA=>?_⟩
  obtain ⟨PA,hhPA,zA1,elA⟩:=zAV (HO.lst [V.int bb.2]) hlA
  rw [hhPA]
  refine ⟨c1,lA,_,_,rfl,rfl,zA1 _ _ ec1,elA,zAh ((by rw [List.length_map]; show List.length ws + 1<=1000; omega)),fun mA hmA=>?_⟩
  have zA2:=zAI hmA (HO.lst (rowV ws bb.2))
  have emA:=zAF (H:=PA) (a:=mA) (o:=HO.lst (rowV ws bb.2))
  unfold rowV at zA2 emA
  generalize hhQA:upd PA mA (HO.lst ((ws).map V.int++[V.int bb.2]))=QA at zA2 emA |-
  refine ⟨mA,_,rfl,.inl ⟨SqL.of emA,fun tA htA=>?_⟩⟩
  have zA3:=zAI htA (HO.tup (rowV ws bb.2))
  have etA:=zAF (H:=QA) (a:=tA) (o:=HO.tup (rowV ws bb.2))
  unfold rowV at zA3
  generalize hhRA:upd QA tA (HO.tup ((ws).map V.int++[V.int bb.2]))=RA at zA3 |-
  replace etA:RA tA=some (.tup (rowV ws bb.2)):=by rw [<- hhRA]; exact etA
  have zA:=zA1.trans (zA2.trans zA3)
  refine ⟨rl,rv,_,rfl,rfl,zA _ _ erM,zAp (by omega),?_⟩
  have h5:=zBA (x:=rl) (H:=RA) (HO.lst (rv++[V.ref tA]))
  have h4:=(zAf (B:=[rl]) zA).trans h5
  have er2:=zAF (H:=RA) (a:=rl) (o:=HO.lst (rv++[V.ref tA]))
  have hr2:zAk (hide [rl] (upd RA rl (HO.lst (rv++[V.ref tA])))) (rv++[V.ref tA]) (rows++[(ws,bb.2)]):=zAb (R:=RwV _) ⟨tA,rfl,h5 _ _ (zDG (zA _ _ erM) etA)⟩ (zAk.same h4 hrM)
  have c1r:c1≠rl:=fun e=>by rw [e,sk _ _ erl] at hc1; cases hc1
  have ec2:upd RA rl (HO.lst (rv++[V.ref tA])) c1=some (.lst (ws.map V.int)):=(zAW c1r).trans (zA _ _ ec1)
  have sm2:=smM.trans h4
  generalize hhU:upd RA rl (HO.lst (rv++[V.ref tA]))=U0 at er2 hr2 ec2 sm2 |-
  have sj2:=sm2.trans zAZ
  refine ⟨_,rfl,.inl ⟨rfl,_,SqL.of er2⟩,_,rfl,c1,rfl,⟨_,SqL.of ec2⟩,zBQ (K:=K) (a:=c1) (xs:=ws.map V.int) (fun j ys σ H'=>ys=((ws.map fun x=>0 - x).take j).map V.int/\(∃ o,σ=[o])/\H'=U0)
   ⟨rfl,⟨none,rfl⟩,rfl⟩ (fun j ys σ H' hj ⟨e1,_,e3⟩=>⟨by rw [e3]; exact SqL.of ec2,by rw [e1,List.length_map,List.length_take]; exact Nat.min_le_left _ _⟩) (zAh ((by rw [List.length_map]; omega))) ?_ ?_⟩
  ·rintro j x ys σ H' hj ⟨rfl,⟨o,rfl⟩,rfl⟩
   obtain ⟨z,hz,rfl⟩:=zBW hj
   refine ⟨_,rfl,_,_,rfl,rfl,?_,⟨_,rfl⟩,rfl⟩
   have hz2:(ws.map fun x=>0 - x)[j]? = some (0 - z):=by rw [List.getElem?_map,hz]; rfl
   rw [zAa hz2,List.map_append]
   rfl
  rintro ys σ H' ⟨rfl,⟨o,rfl⟩,hZ⟩ c2 hc2
  rw [hZ] at hc2 |-
  clear hZ
  rw [List.take_of_length_le (by rw [List.length_map,List.length_map]; exact Nat.le_refl _)]
  have lw2:(ws.map fun x=>0 - x).length=n:=by rw [List.length_map]; omega
  have bw2:∀ x∈ws.map (fun x=>0 - x),Bd 2 x:=fun x hx=>by
   obtain ⟨y,hy,rfl⟩:=List.mem_map.mp hx
   rw [Int.zero_sub]
   exact (bw y hy).neg
  generalize ws.map (fun x=>0 - x)=us at lw2 bw2 hc2 |-
  obtain ⟨N0,hhN,zd,ec3⟩:=zAV (HO.lst (us.map V.int)) hc2
  rw [hhN]
  have sN:=sj2.trans zd
  refine ⟨_,rfl,_,rfl,a,_,_,_,rfl,rfl,SqL.of (sN _ _ ha),zIf hxv,p,_,_,_,rfl,rfl,SqT.of (sN _ _ ep),at0,_,_,rfl,rfl,sz1,fun lB hlB=>?_⟩
  obtain ⟨PB,hhPB,zB1,elB⟩:=zAV (HO.lst [V.int (0 - bb.1)]) hlB
  rw [hhPB]
  refine ⟨c2,lB,_,_,rfl,rfl,zB1 _ _ ec3,elB,zAh ((by rw [List.length_map]; show List.length us + 1<=1000; omega)),fun mB hmB=>?_⟩
  have zB2:=zAI hmB (HO.lst (rowV us (0 - bb.1)))
  have emB:=zAF (H:=PB) (a:=mB) (o:=HO.lst (rowV us (0 - bb.1)))
  unfold rowV at zB2 emB
  generalize hhQB:upd PB mB (HO.lst ((us).map V.int++[V.int (0 - bb.1)]))=QB at zB2 emB |-
  refine ⟨mB,_,rfl,.inl ⟨SqL.of emB,fun tB htB=>?_⟩⟩
  have zB3:=zAI htB (HO.tup (rowV us (0 - bb.1)))
  have etB:=zAF (H:=QB) (a:=tB) (o:=HO.tup (rowV us (0 - bb.1)))
  unfold rowV at zB3
  generalize hhRB:upd QB tB (HO.tup ((us).map V.int++[V.int (0 - bb.1)]))=RB at zB3 |-
  replace etB:RB tB=some (.tup (rowV us (0 - bb.1))):=by rw [<- hhRB]; exact etB
  have zB:=zB1.trans (zB2.trans zB3)
  have zz:=zd.trans zB
  refine ⟨rl,_,_,rfl,rfl,zz _ _ er2,zAp (by rw [List.length_append,List.length_singleton]; omega),?_⟩
  have h7:=zBA (x:=rl) (H:=RB) (HO.lst (rv++[V.ref tA]++[V.ref tB]))
  have h6:=(zAf (B:=[rl]) zz).trans h7
  refine ⟨rv++[V.ref tA]++[V.ref tB],rows++[(ws,bb.2)]++[(us,0 - bb.1)],_,_,rfl,sm2.trans h6,zAF,?_,(by rw [List.length_append,List.length_append,lr]; show 2 * i + 1 + 1=2 * (i + 1); omega),zH0 (zH0 WBr (by show ws.length=n; omega) bw bbd.2) lw2 bw2 (by show Bd 106 (0 - bb.1); rw [Int.zero_sub]; exact bbd.1.neg)⟩
  exact zAb (R:=RwV _) ⟨tB,rfl,h7 _ _ (zDG (zz _ _ er2) etB)⟩ (zAk.same h6 hr2)
 rintro σ L0 ⟨rv,rows,o2,o3,rfl,sm,erl,hrv,lr,WBr⟩
 exact ⟨_,rfl,q rl rv rows L0 (sm.trans zAZ) erl (zAk.same zAZ hrv) (by omega) WBr⟩
theorem zKj {k:Nat} {f:Addr} {fd:FuncData} (F:Fun K "_law_safe" "_law_safe" zDk f fd) (B:Bl mg) (aq:Fn P w K mg base "_law_stream" ["_law_cell","_law_many"] k zCu) (ak:Fn P w K mg base "_law_number" ["_law_x","_law_far"] k zDv) (cy:Fn P w K mg base "_law_rows" ["_law_box_here"] k zFf) (cA:Fn P w K mg base "_law_box" ["_law_cell","_law_many","_law_unit"] k zG5):FnOk P w K mg base CX0 (k + 1) f fd ["_law_spec","_law_cell"] zFe:=by
 refine F.ok zDL ?_ ?_
 ·rintro vs H Q E ⟨st,x,y,c,u,n,rfl,_⟩
  rfl
 rintro cdv A outer s H vs Q E hr ⟨st,x,y,c,u,n,rfl,est,n1,n3,u0,bu,q⟩
 refine ⟨_,(zAD (zAR (i:=2) zDL.nd rfl (Or.inr rfl) (zAG aq hr rfl (zAA (pvj 1) (zAA zAE zAB))))
  (zAD (zAR (i:=3) zDL.nd rfl (Or.inl rfl) (zA7 zAB))
  (zAD (zBy PassesOwn.never rfl (zAs rfl B.range_ (zAA (zAX zAQ (zA7 (zAA zAE (zAA zAE (zAA zAE (zAA zAE zAB))))) (zAK (ji zAz) (zAX zAQ (pvj 2) zAE (fun _ _=>rfl)) zAE) (fun _ _=>rfl)) zAB)) (zAJ (i:=4) zDL.nd rfl (Or.inr rfl)) (zAD (zEB (i:=5) zDL.nd rfl rfl (own:=["_law_j"]) (caps:=[(2,"_law_xs"),(4,"_law_k")]) (zBm (S:=zAC zDk) (N:=["_law_spec","_law_cell","_law_xs","_law_rows_here","_law_k","_law_numbers"]) ⟨_,rfl⟩) rfl (zAs rfl B.range_ (zAA (zAX zAO (pvj 0) zAE (fun _ _=>rfl)) zAB)) (fun _ _ _ _=>zAJ (i:=0) (show (["_law_j","_law_xs","_law_k"]:List Str).Nodup by decide +kernel) rfl (Or.inl rfl)) (fun _ _ _ _=>(zAG ak hr rfl (zAA (zAX (show IxR _ (JIx (SqL K)) from zAQ) (pvj 1) (zAK (ji0 zAt) (zAK (ji0 zAt) zAE (zAK (ji zAd) zAE (pvj 2))) (pvj 0)) (fun _ _=>rfl)) (zAA zAE zAB)))) rfl)
   (zAH (zBe (zDs PySem.F.plainAttrs_list PySem.F.slot_list_append PySem.F.type_list_append japp (pvj 3) (zAA (zAi jtup rfl B.tuple_ zAn (zAA (zAK jcat (pvj 5) (zA7 (zAA (zAK (ji zAd) (zAG ak hr rfl (zAA (zAX zAQ (pvj 2) (zAK (ji0 zAt) zAE (pvj 4)) (fun _ _=>rfl)) (zAA zAE zAB))) (zAX zAO (pvj 0) zAE (fun _ _=>rfl))) zAB))) zAB)) zAB))))))
  (zAD (zBc (zAx (ji0 zHa) (zAK (ji zAz) (zAX zAQ (pvj 2) zAE (fun _ _=>rfl)) zAE) zAE (zAq _)) (zAH (zAR (i:=3) zDL.nd rfl (Or.inl rfl) (zAK jcat (zAG cy hr rfl (zAA (zAG cA hr rfl (zAA (zAX zAQ (pvj 2) zAE (fun _ _=>rfl)) (zAA (zAX zAO (pvj 0) zAE (fun _ _=>rfl)) (zAA (zAX zAO (pvj 0) zAE (fun _ _=>rfl)) zAB)))) zAB)) (pvj 3)))) zAj)
  (zAH (zAU (pvj 3))))))),?_⟩
 try dsimp only [cxOf,Cx.nox,Cx.wish]
 refine ⟨_,rfl,_,12,rfl,(by decide),(by decide),fun xa J1 xs y1 _ ex lx bx0=>?_⟩
 have lx12:xs.length=12:=lx
 have px:∀ k,0<=xs.getD k 0:=fun k=>by
  rw [List.getD_eq_getElem?_getD]
  cases e:xs[k]? with
  | none=>exact Int.le_refl 0
  | some x=>exact (bx0 x (List.mem_of_getElem? e)).1
 have bx:∀ k,Bd 150 (xs.getD k 0):=fun k=>zDI (fun x hx=>bd45 (bx0 x hx)) k
 refine ⟨sz0,fun rl hrl=>?_⟩
 obtain ⟨J2,hhJ2,y2,erl⟩:=zAV (HO.lst ([]:List V)) hrl
 rw [hhJ2]
 refine ⟨sz4,fun l4 hl4=>?_⟩
 obtain ⟨J3,hhJ3,y3,el4⟩:=zAV (HO.lst [V.int 0,V.int 1,V.int 1,V.int 2]) hl4
 rw [hhJ3]
 obtain ⟨kk,ekk,kk2⟩:=zN2 (Int.fmod_nonneg_of_pos (xs.getD 0 0) (show (0:Int) < 4 by decide)) (Int.fmod_lt_of_pos (xs.getD 0 0) (show (0:Int) < 4 by decide))
 have s3:=zCD hrl (y2.trans y3)
 refine ⟨_,rfl,xa,_,_,_,rfl,rfl,SqL.of (y3 _ _ (y2 _ _ ex)),zBS (xs:=xs) (k:=0) (by omega) (by omega),_,_,rfl,rfl,(show (4:Int)≠0 by decide),l4,_,_,_,rfl,rfl,SqL.of el4,ekk,_,rfl,(by omega),(by omega),zBd (lo:=0) (n:=((kk:Nat):Int).toNat)
  (fun i σ H'=>∃ (rv:List V) (rows:List (List Int × Int)) (o4 o5:Option V),σ=[some (.ref st),some (.int c),some (.ref xa),some (.ref rl),o4,o5]/\Same J1 (hide [rl] H')/\H' rl=some (.lst rv)/\zAk (hide [rl] H') rv rows/\rows.length=i/\WB rows n 2 106)
  ⟨[],[],none,none,rfl,s3,y3 _ _ erl,.nil,rfl,(fun b hb=>by cases hb)⟩ ?_ ?_⟩
 ·rintro i σ L0 hi ⟨rv,rows,o4,o5,rfl,sm,erl,hrv,lr,WBr⟩
  have i3:i < 2:=by omega
  have sj:=sm.trans zAZ
  have lrv:=Paired.length hrv
  have exL:=sj _ _ ex
  have estL:=sj _ _ (y1 _ _ est)
  refine ⟨_,rfl,st,_,_,_,rfl,rfl,SqT.of estL,(show atI [V.int (n:Int),x,y,V.int u] 0=some (.int (n:Int)) from rfl),_,rfl,(by omega),(by omega),zB8 (lo:=0) (n:=((n:Nat):Int).toNat)
   (fun k zs σ H2=>∃ ws:List Int,zs=ws.map V.int/\ws.length=k/\(∀ x∈ws,Bd 2 x)/\(∃ o,σ=[o,some (.ref xa),some (.int (0 + (i:Int)))])/\Same L0 H2)
   ⟨[],rfl,rfl,(fun x hx=>by cases hx),⟨none,rfl⟩,Same.refl _⟩ (fun k zs σ H2 ⟨ws,e1,l1,_⟩=>by rw [e1,List.length_map]; omega) (zAh (by omega)) ?_ ?_⟩
  ·rintro k zs σ H2 hk ⟨ws,rfl,lw,bw,⟨o,rfl⟩,sk⟩
   refine ⟨_,rfl,_,rfl,_,_,rfl,rfl,⟨(Bd.lit (i:=3) (n:=2)).mono,(zHy (i:=i) (by omega)).mono⟩,_,_,rfl,rfl,_,rfl,_,_,rfl,rfl,xa,_,_,_,rfl,rfl,SqL.of (sk _ _ exL),zBS (xs:=xs) (k:=((1 + (3 * i)) + k)) (by omega) (by omega),_,_,rfl,(by decide),Bd.lit,fun y v1 v2=>?_⟩
   exact ⟨ws++[y],(by rw [List.map_append]; rfl),(by rw [List.length_append,lw]; rfl),zBX bw (zCB (f:=2) (n:=2) Bd.lit v1 v2),⟨_,rfl⟩,sk⟩
  rintro zs σ H2k ⟨ws,rfl,lw,bw,⟨o,rfl⟩,sk⟩ c1 hc1
  have lwn:ws.length=n:=by omega
  obtain ⟨M,hhM,zc,ec1⟩:=zAV (HO.lst (ws.map V.int)) hc1
  rw [hhM]
  have zM:=sk.trans zc
  have erM:=zM _ _ erl
  have hrM:=zAk.same (zAf (B:=[rl]) zM) hrv
  have smM:=sm.trans (zAf (B:=[rl]) zM)
  refine ⟨_,rfl,.inl ⟨rfl,_,SqL.of erM⟩,_,rfl,_,rfl,_,rfl,_,_,rfl,rfl,xa,_,_,_,rfl,rfl,SqL.of (zM _ _ exL),zBS (xs:=xs) (k:=(7 + i)) (by omega) (by omega),_,_,rfl,(by decide),Bd.lit,fun y' y4 y5=>?_⟩
  have b4:Bd 3 y':=zCB (f:=4) Bd.lit y4 y5
  refine ⟨_,rfl,st,_,_,_,rfl,rfl,SqT.of (zM _ _ estL),(show atI [V.int (n:Int),x,y,V.int u] 3=some (.int u) from rfl),_,_,rfl,rfl,⟨b4.mono,bu.mono⟩,sz1,fun lA hlA=>?_⟩
  obtain ⟨PA,hhPA,zA1,elA⟩:=zAV (HO.lst [V.int (y' * u)]) hlA
  rw [hhPA]
  refine ⟨c1,lA,_,_,rfl,rfl,zA1 _ _ ec1,elA,zAh ((by rw [List.length_map]; show List.length ws + 1<=1000; omega)),fun mA hmA=>?_⟩
  have zA2:=zAI hmA (HO.lst (rowV ws (y' * u)))
  have emA:=zAF (H:=PA) (a:=mA) (o:=HO.lst (rowV ws (y' * u)))
  unfold rowV at zA2 emA
  generalize hhQA:upd PA mA (HO.lst ((ws).map V.int++[V.int (y' * u)]))=QA at zA2 emA |-
  refine ⟨mA,_,rfl,.inl ⟨SqL.of emA,fun tA htA=>?_⟩⟩
  have zA3:=zAI htA (HO.tup (rowV ws (y' * u)))
  have etA:=zAF (H:=QA) (a:=tA) (o:=HO.tup (rowV ws (y' * u)))
  unfold rowV at zA3
  generalize hhRA:upd QA tA (HO.tup ((ws).map V.int++[V.int (y' * u)]))=RA at zA3 |-
  replace etA:RA tA=some (.tup (rowV ws (y' * u))):=by rw [<- hhRA]; exact etA
  have zA:=zA1.trans (zA2.trans zA3)
  refine ⟨rl,rv,_,rfl,rfl,zA _ _ erM,zAp (by omega),?_⟩
  have h5:=zBA (x:=rl) (H:=RA) (HO.lst (rv++[V.ref tA]))
  have h4:=(zAf (B:=[rl]) zA).trans h5
  refine ⟨rv++[V.ref tA],rows++[(ws,y' * u)],_,_,rfl,smM.trans h4,zAF,?_,(by rw [List.length_append,lr]; rfl),zH0 WBr lwn bw (Bd.mono (n:=103) (b4.mul bu) (by decide))⟩
  exact zAb (R:=RwV _) ⟨tA,rfl,h5 _ _ (zDG (zA _ _ erM) etA)⟩ (zAk.same h4 hrM)
 rintro σ L0 ⟨rv,rows,o4,o5,rfl,sm,erl,hrv,lr,WBr⟩
 have sj:=sm.trans zAZ
 have exL:=sj _ _ ex
 have estL:=sj _ _ (y1 _ _ est)
 have hrv:=zAk.same zAZ hrv
 have lrv:=Paired.length hrv
 refine ⟨_,rfl,xa,_,_,_,rfl,rfl,SqL.of exL,zBS (xs:=xs) (k:=9) (by omega) (by omega),_,_,rfl,rfl,(show (4:Int)≠0 by decide),_,_,rfl,rfl,_,rfl,?_⟩
 refine ite2 (fun cs=>?_) (fun cs=>?_)
 ·refine ⟨_,rfl,xa,_,_,_,rfl,rfl,SqL.of exL,zBS (xs:=xs) (k:=10) (by omega) (by omega),_,rfl,st,_,_,_,rfl,rfl,SqT.of estL,(show atI [V.int (n:Int),x,y,V.int u] 0=some (.int (n:Int)) from rfl),_,rfl,st,_,_,_,rfl,rfl,SqT.of estL,(show atI [V.int (n:Int),x,y,V.int u] 3=some (.int u) from rfl),_,u,n,rfl,n1,n3,u0,bu,fun bl bv bx' B1 z1 ebl hbv lb ob=>?_⟩
  refine ⟨bl,bv,bx',n,rfl,ebl,hbv,lb,n1,n3,ob,fun l2 rv2 rows2 B2 z2 el2 hr2 lr2 WB2=>?_⟩
  have len2:=Paired.length hr2
  have zz:=z1.trans z2
  refine ⟨_,rfl,l2,rl,_,_,rfl,rfl,el2,zz _ _ erl,zAh (by omega),fun l3 hl3=>?_⟩
  have z3:=zAI hl3 (HO.lst (rv2++rv))
  refine ⟨_,rfl,q l3 (rv2++rv) (rows2++rows) _ (y1.trans (sj.trans (zz.trans z3))) zAF (zDa (zAk.same z3 hr2) (zAk.same (zz.trans z3) hrv)) (WB2.app WBr (Nat.le_refl _) (Nat.le_refl _)) (by rw [List.length_append]; omega)⟩
 ·exact ⟨_,rfl,q rl rv rows L0 (y1.trans sj) erl hrv WBr (by omega)⟩
theorem zKq {k:Nat} {f:Addr} {fd:FuncData} (F:Fun K "_law_game" "_law_game" zA6 f fd) (B:Bl mg) (cB:Fn P w K mg base "_law_thing" ["_law_script"] k (zEZ K)) (aq:Fn P w K mg base "_law_stream" ["_law_cell","_law_many"] k zCu) (ar:Fn P w K mg base "_law_cell_at" ["_law_script","_law_k"] k (zGe K)) (ak:Fn P w K mg base "_law_number" ["_law_x","_law_far"] k zDv) (cC:Fn P w K mg base "_law_safe" ["_law_spec","_law_cell"] k zFe):FnOk P w K mg base CX0 (k + 1) f fd ["_law_script"] (zFm K):=by
 refine F.ok zBB ?_ ?_
 ·rintro vs H Q E ⟨a,ns,rfl,_⟩
  rfl
 rintro cdv A outer s H vs Q E hr ⟨a,ns,rfl,hS,q⟩
 obtain ⟨u_7,E_7,U_7⟩:=L2.zCJ (p:=fun t=>PSs (cxOf CX0 P w K mg base nl0 "_law_game" (zAC zA6) f cdv A outer s H E).nox ((zAL zA6).drop 7) t) (zAH (zAU (zCA (zAA (pvj 12) (zAA (zAG cC hr rfl (zAA (pvj 12) (zAA (zAG ar hr rfl (zAA (pvj 0) (zAA zAE zAB))) zAB))) (zAA (pvj 13) (zAA (zAK (ji0 zAt) (pvj 13) (zAK (ji zAd) (zAK (ji zAz) (zAX zAQ (pvj 5) zAE (fun _ _=>rfl)) zAE) (pvj 4))) (zAA (pvj 14) zAB))))))))
 obtain ⟨u_6,E_6,U_6⟩:=L2.zCJ (p:=fun t=>PSs (cxOf CX0 P w K mg base nl0 "_law_game" (zAC zA6) f cdv A outer s H E).nox ((zAL zA6).drop 6) t) (zAD (zAR (i:=14) zBB.nd rfl (Or.inl rfl) (zAK (ji0 zAt) zAE (zAK (ji zAz) (zAX zAQ (pvj 5) zAE (fun _ _=>rfl)) (zAX zAQ (zA7 (zAA zAE (zAA zAE (zAA zAE zAB)))) (zAK (ji0 zCR) (pvj 1) zAE) (fun _ _=>rfl)))))
 U_7)
 obtain ⟨u_5,E_5,U_5⟩:=L2.zCJ (p:=fun t=>PSs (cxOf CX0 P w K mg base nl0 "_law_game" (zAC zA6) f cdv A outer s H E).nox ((zAL zA6).drop 5) t) (zAD (zAR (i:=13) zBB.nd rfl (Or.inl rfl) (zAK (ji zAd) (zAG ak hr rfl (zAA (zAX zAQ (pvj 5) zAE (fun _ _=>rfl)) (zAA zAE zAB))) (pvj 4)))
 U_6)
 obtain ⟨u_4,E_4,U_4⟩:=L2.zCJ (p:=fun t=>PSs (cxOf CX0 P w K mg base nl0 "_law_game" (zAC zA6) f cdv A outer s H E).nox ((zAL zA6).drop 4) t) (zAD (zAR (i:=12) zBB.nd rfl (Or.inl rfl) (zCA (zAA (pvj 1) (zAA (pvj 2) (zAA (zA7 (zAA (zCA (zAA (zA7 zAB) (zAA (pvj 7) (zAA (pvj 8) (zAA (pvj 9) (zAA (pvj 10) (zAA (pvj 11) zAB))))))) zAB)) (zAA (pvj 4) zAB))))))
 U_5)
 obtain ⟨u_3,E_3,U_3⟩:=L2.zCJ (p:=fun t=>PSs (cxOf CX0 P w K mg base nl0 "_law_game" (zAC zA6) f cdv A outer s H E).nox ((zAL zA6).drop 3) t) (zAD (zEB (i:=8) zBB.nd rfl rfl (own:=["_law_i"]) (caps:=[(5,"_law_xs")]) (zBm (S:=zAC zA6) (N:=nl0) ⟨_,rfl⟩) rfl (zAs rfl B.range_ (zAA (pvj 1) zAB)) (fun _ _ _ _=>zAJ (i:=0) (show (["_law_i","_law_xs"]:List Str).Nodup by decide +kernel) rfl (Or.inl rfl)) (fun _ _ _ _=>(zAG ak hr rfl (zAA (zAX (show IxR _ (JIx (SqL K)) from zAQ) (pvj 1) (pvj 0) (fun _ _=>rfl)) (zAA zAE zAB)))) rfl)
 U_4)
 obtain ⟨u_2,E_2,U_2⟩:=L2.zCJ (p:=fun t=>PSs (cxOf CX0 P w K mg base nl0 "_law_game" (zAC zA6) f cdv A outer s H E).nox ((zAL zA6).drop 2) t) (zAD (zGi (zAX zAQ (pvj 3) zAE (fun _ _=>rfl)) (zDD rfl (zAY (zAJ (i:=6) zBB.nd rfl (Or.inl rfl)) (zAY (zAJ (i:=7) zBB.nd rfl (Or.inl rfl)) (zAY (zAJ (i:=8) zBB.nd rfl (Or.inl rfl)) (zAY (zAJ (i:=9) zBB.nd rfl (Or.inl rfl)) (zAY (zAJ (i:=10) zBB.nd rfl (Or.inl rfl)) (zAY (zAJ (i:=11) zBB.nd rfl (Or.inl rfl)) zCQ))))))))
 U_3)
 obtain ⟨u_1,E_1,U_1⟩:=L2.zCJ (p:=fun t=>PSs (cxOf CX0 P w K mg base nl0 "_law_game" (zAC zA6) f cdv A outer s H E).nox ((zAL zA6).drop 1) t) (zAD (zAR (i:=5) zBB.nd rfl (Or.inr rfl) (zAG aq hr rfl (zAA (zAG ar hr rfl (zAA (pvj 0) (zAA zAE zAB))) (zAA zAE zAB))))
 U_2)
 refine ⟨_,(zAD (zGi (zAG cB hr rfl (zAA (pvj 0) zAB)) (zDD rfl (zAY (zAJ (i:=1) zBB.nd rfl (Or.inl rfl)) (zAY (zAJ (i:=2) zBB.nd rfl (Or.inl rfl)) (zAY (zAJ (i:=3) zBB.nd rfl (Or.inl rfl)) (zAY (zAJ (i:=4) zBB.nd rfl (Or.inl rfl)) zCQ))))))
 U_1),?_⟩
 try dsimp only [cxOf,Cx.nox,Cx.wish]
 refine ⟨_,rfl,a,ns,rfl,hS,fun v J0 y0 TV=>?_⟩
 obtain ⟨tt,pa,ma,n,u,pv,mv,bs,rfl,ett,epa,hpv,b2,ob,ema,lm1,hmv,n1,n3,u0,bu⟩:=TV
 have lpv:=Paired.length hpv
 refine ⟨tt,_,rfl,SqT.of ett,rfl,_,_,rfl,_,_,rfl,_,_,rfl,_,_,rfl,rfl,?_⟩
 show u_1 _ [some (.ref a),some (.int (n:Int)),some (.ref pa),some (.ref ma),some (.int u),none,none,none,none,none,none,none,none,none,none] _
 rw [E_1]
 try dsimp only [cxOf,Cx.nox,Cx.wish]
 refine ⟨_,rfl,a,ns,5,rfl,y0.seq hS,(by decide),_,6,rfl,(by decide),(by decide),fun xa J1 xs y1 _ ex lx bx0=>?_⟩
 have lx6:xs.length=6:=lx
 have px:∀ k,0<=xs.getD k 0:=fun k=>by
  rw [List.getD_eq_getElem?_getD]
  cases e:xs[k]? with
  | none=>exact Int.le_refl 0
  | some x=>exact (bx0 x (List.mem_of_getElem? e)).1
 have bx:∀ k,Bd 150 (xs.getD k 0):=fun k=>zDI (fun x hx=>bd45 (bx0 x hx)) k
 show u_2 _ [some (.ref a),some (.int (n:Int)),some (.ref pa),some (.ref ma),some (.int u),some (.ref xa),none,none,none,none,none,none,none,none,none] _
 rw [E_2]
 try dsimp only [cxOf,Cx.nox,Cx.wish]
 obtain ⟨v0,hv0⟩:∃ v,mv[0]? = some v:=⟨_,List.getElem?_eq_getElem (by omega)⟩
 obtain ⟨t6,ra,na,sa0,qa,aa,nv,wv,nx,pu,ad,dv,rfl,et6,ena,hnv,eqa,hqv,eaa,MP⟩:=(hmv v0 (List.mem_of_getElem? hv0)).same y1
 refine ⟨_,rfl,ma,_,_,_,rfl,rfl,SqL.of (y1 _ _ ema),zDJ hv0,t6,_,rfl,SqT.of et6,rfl,_,_,rfl,_,_,rfl,_,_,rfl,_,_,rfl,_,_,rfl,_,_,rfl,rfl,?_⟩
 show u_3 _ [some (.ref a),some (.int (n:Int)),some (.ref pa),some (.ref ma),some (.int u),some (.ref xa),some (.ref ra),some (.ref na),some (.ref sa0),some (.ref qa),some (.ref aa),some (.int dv),none,none,none] _
 rw [E_3]
 try dsimp only [cxOf,Cx.nox,Cx.wish]
 refine ⟨_,rfl,_,rfl,(by omega),(by omega),zB8 (lo:=0) (n:=((n:Nat):Int).toNat)
  (fun k zs σ H2=>∃ ws:List Int,zs=ws.map V.int/\ws.length=k/\(∀ x∈ws,Bd 2 x)/\(∃ o,σ=[o,some (.ref xa)])/\Same J1 H2)
  ⟨[],rfl,rfl,(fun x hx=>by cases hx),⟨none,rfl⟩,Same.refl _⟩ (fun k zs σ H2 ⟨ws,e1,l1,_⟩=>by rw [e1,List.length_map]; omega) (zAh (by omega)) ?_ ?_⟩
 ·rintro k zs σ H2 hk ⟨ws,rfl,lw,bw,⟨o,rfl⟩,sk⟩
  refine ⟨_,rfl,_,rfl,xa,_,_,_,rfl,rfl,SqL.of (sk _ _ ex),zBS (xs:=xs) (k:=k) (by omega) (by omega),_,_,rfl,(by decide),Bd.lit,fun y v1 v2=>?_⟩
  exact ⟨ws++[y],(by rw [List.map_append]; rfl),(by rw [List.length_append,lw]; rfl),zBX bw (zCB (f:=2) (n:=2) Bd.lit v1 v2),⟨_,rfl⟩,sk⟩
 rintro zs σ H2k ⟨ws,rfl,lw,bw,⟨o,rfl⟩,sk⟩ sa hsa
 have lwn:ws.length=n:=by omega
 have sK:=y0.trans (y1.trans sk)
 have ett:=(y1.trans sk) _ _ ett
 have epa:=(y1.trans sk) _ _ epa
 have hpv:=zA0 (y1.trans sk) hpv
 have ena:=sk _ _ ena
 have hnv:=TabV.same sk hnv
 have eqa:=sk _ _ eqa
 have hqv:=TabV.same sk hqv
 have eaa:=sk _ _ eaa
 have ex:=sk _ _ ex
 obtain ⟨G1,hhG1,yG1,esa⟩:=zAV (HO.lst (ws.map V.int)) hsa
 rw [hhG1]
 have SG1:=sK.trans yG1
 replace epa:=(yG1 _ _ epa)
 replace hpv:=(zA0 yG1 hpv)
 replace ena:=(yG1 _ _ ena)
 replace hnv:=(TabV.same yG1 hnv)
 replace eqa:=(yG1 _ _ eqa)
 replace hqv:=(TabV.same yG1 hqv)
 replace eaa:=(yG1 _ _ eaa)
 replace ex:=(yG1 _ _ ex)
 show u_4 _ [some (.ref a),some (.int (n:Int)),some (.ref pa),some (.ref ma),some (.int u),some (.ref xa),some (.ref ra),some (.ref na),some (.ref sa),some (.ref qa),some (.ref aa),some (.int dv),none,none,none] _
 rw [E_4]
 try dsimp only [cxOf,Cx.nox,Cx.wish]
 refine ⟨_,rfl,_,rfl,sz0,fun e0 he0=>?_⟩
 obtain ⟨G2,hhG2,yG2,ee0⟩:=zAV (HO.lst ([]:List V)) he0
 rw [hhG2]
 have SG2:=SG1.trans yG2
 replace epa:=(yG2 _ _ epa)
 replace hpv:=(zA0 yG2 hpv)
 replace ena:=(yG2 _ _ ena)
 replace hnv:=(TabV.same yG2 hnv)
 replace eqa:=(yG2 _ _ eqa)
 replace hqv:=(TabV.same yG2 hqv)
 replace eaa:=(yG2 _ _ eaa)
 replace ex:=(yG2 _ _ ex)
 replace esa:=(yG2 _ _ esa)
 refine ⟨_,rfl,_,rfl,_,rfl,_,rfl,_,rfl,sz6,fun q6 hq6=>?_⟩
 obtain ⟨G3,hhG3,yG3,eq6⟩:=zAV (HO.tup [V.ref e0,V.ref na,V.ref sa,V.ref qa,V.ref aa,V.int dv]) hq6
 rw [hhG3]
 have SG3:=SG2.trans yG3
 replace epa:=(yG3 _ _ epa)
 replace hpv:=(zA0 yG3 hpv)
 replace ena:=(yG3 _ _ ena)
 replace hnv:=(TabV.same yG3 hnv)
 replace eqa:=(yG3 _ _ eqa)
 replace hqv:=(TabV.same yG3 hqv)
 replace eaa:=(yG3 _ _ eaa)
 replace ex:=(yG3 _ _ ex)
 replace esa:=(yG3 _ _ esa)
 replace ee0:=(yG3 _ _ ee0)
 refine ⟨sz1,fun m1 hm1=>?_⟩
 obtain ⟨G4,hhG4,yG4,em1⟩:=zAV (HO.lst [V.ref q6]) hm1
 rw [hhG4]
 have SG4:=SG3.trans yG4
 replace epa:=(yG4 _ _ epa)
 replace hpv:=(zA0 yG4 hpv)
 replace ena:=(yG4 _ _ ena)
 replace hnv:=(TabV.same yG4 hnv)
 replace eqa:=(yG4 _ _ eqa)
 replace hqv:=(TabV.same yG4 hqv)
 replace eaa:=(yG4 _ _ eaa)
 replace ex:=(yG4 _ _ ex)
 replace esa:=(yG4 _ _ esa)
 replace ee0:=(yG4 _ _ ee0)
 replace eq6:=(yG4 _ _ eq6)
 refine ⟨_,rfl,sz4,fun st hst=>?_⟩
 obtain ⟨G5,hhG5,yG5,est⟩:=zAV (HO.tup [V.int (n:Int),V.ref pa,V.ref m1,V.int u]) hst
 rw [hhG5]
 have SG5:=SG4.trans yG5
 replace epa:=(yG5 _ _ epa)
 replace hpv:=(zA0 yG5 hpv)
 replace ena:=(yG5 _ _ ena)
 replace hnv:=(TabV.same yG5 hnv)
 replace eqa:=(yG5 _ _ eqa)
 replace hqv:=(TabV.same yG5 hqv)
 replace eaa:=(yG5 _ _ eaa)
 replace ex:=(yG5 _ _ ex)
 replace esa:=(yG5 _ _ esa)
 replace ee0:=(yG5 _ _ ee0)
 replace eq6:=(yG5 _ _ eq6)
 replace em1:=(yG5 _ _ em1)
 have SV:zFY G5 (.ref st) n bs [⟨[],nx,ws,pu,ad,dv⟩] u:=⟨st,pa,m1,pv,[V.ref q6],rfl,est,epa,hpv,em1,.cons ⟨q6,e0,na,sa,qa,aa,[],nv,wv,rfl,eq6,ee0,.nil,ena,hnv,esa,eqa,hqv,eaa⟩ .nil⟩
 clear epa hpv em1 eq6 ee0 ena hnv esa eqa hqv eaa
 show u_5 _ [some (.ref a),some (.int (n:Int)),some (.ref pa),some (.ref ma),some (.int u),some (.ref xa),some (.ref ra),some (.ref na),some (.ref sa),some (.ref qa),some (.ref aa),some (.int dv),some (.ref st),none,none] _
 rw [E_5]
 try dsimp only [cxOf,Cx.nox,Cx.wish]
 refine ⟨_,rfl,xa,_,_,_,rfl,rfl,SqL.of ex,zBS (xs:=xs) (k:=3) (by omega) (by omega),_,_,rfl,(by decide),Bd.lit,fun lo z1 z2=>?_⟩
 have b3:Bd 2 lo:=zCB (f:=3) Bd.lit z1 z2
 have blo:Bd 102 (lo * u):=b3.mul bu
 refine ⟨_,rfl,_,_,rfl,rfl,⟨b3.mono,bu.mono⟩,?_⟩
 show u_6 _ [some (.ref a),some (.int (n:Int)),some (.ref pa),some (.ref ma),some (.int u),some (.ref xa),some (.ref ra),some (.ref na),some (.ref sa),some (.ref qa),some (.ref aa),some (.int dv),some (.ref st),some (.int (lo * u)),none] _
 rw [E_6]
 try dsimp only [cxOf,Cx.nox,Cx.wish]
 refine ⟨_,rfl,xa,_,_,_,rfl,rfl,SqL.of ex,zBS (xs:=xs) (k:=5) (by omega) (by omega),sz3,fun l3 hl3=>?_⟩
 obtain ⟨G6,hhG6,yG6,el3⟩:=zAV (HO.lst [V.int 4,V.int 2,V.int 1]) hl3
 rw [hhG6]
 have SG6:=SG5.trans yG6
 replace est:=(yG6 _ _ est)
 replace ex:=(yG6 _ _ ex)
 replace SV:=(zFY.same yG6 SV)
 obtain ⟨kk,ekk,kk0,kk7⟩:=zN3 n1 n3
 refine ⟨_,rfl,_,_,rfl,rfl,l3,_,_,_,rfl,rfl,SqL.of el3,ekk,_,_,rfl,rfl,(show kk≠0 by omega),_,_,rfl,rfl,?_⟩
 have q0:=Int.fmod_nonneg_of_pos (xs.getD 5 0) kk0
 have q1:=Int.fmod_lt_of_pos (xs.getD 5 0) kk0
 obtain ⟨kt,hkt⟩:∃ kt:Nat,1 + (xs.getD 5 0).fmod kk=(kt:Int):=⟨(1 + (xs.getD 5 0).fmod kk).toNat,by omega⟩
 show u_7 _ [some (.ref a),some (.int (n:Int)),some (.ref pa),some (.ref ma),some (.int u),some (.ref xa),some (.ref ra),some (.ref na),some (.ref sa),some (.ref qa),some (.ref aa),some (.int dv),some (.ref st),some (.int (lo * u)),some (.int (1 + (xs.getD 5 0).fmod kk))] _
 rw [E_7]
 try dsimp only [cxOf,Cx.nox,Cx.wish]
 refine ⟨_,rfl,_,rfl,_,rfl,a,ns,6,rfl,(SG6.seq hS),(by decide),st,_,_,_,u,n,rfl,est,n1,n3,u0,bu,fun sl rv rows B1 z1' esl hrv WBr l8=>?_⟩
 have SG7:=SG6.trans z1'
 replace ex:=(z1' _ _ ex)
 replace SV:=(zFY.same z1' SV)
 refine ⟨_,rfl,_,rfl,_,rfl,xa,_,_,_,rfl,rfl,SqL.of ex,zBS (xs:=xs) (k:=4) (by omega) (by omega),_,_,rfl,rfl,(show (4:Int)≠0 by decide),_,rfl,_,_,rfl,rfl,⟨(zDy (a:=(xs.getD (4) 0)) (Bd.lit (i:=4) (n:=3)) (show (0:Int) < (4:Int) by decide)).mono,bu.mono⟩,_,_,rfl,rfl,_,rfl,sz5,fun gt hgt=>?_⟩
 have bhi:=((blo.mono (m:=103) (by decide)).add ((zDy (a:=(xs.getD (4) 0)) (Bd.lit (i:=4) (n:=3)) (show (0:Int) < (4:Int) by decide)).mul bu))
 generalize ((lo * u) + (((xs.getD (4) 0).fmod (4:Int)) * u))=hi at bhi hgt |-
 obtain ⟨G8,hhG8,yG8,egt⟩:=zAV (HO.tup [V.ref st,V.ref sl,V.int (lo * u),V.int hi,V.int (1 + (xs.getD 5 0).fmod kk)]) hgt
 rw [hhG8]
 have SG8:=SG7.trans yG8
 replace SV:=(zFY.same yG8 SV)
 replace esl:=(yG8 _ _ esl)
 replace hrv:=(zAk.same yG8 hrv)
 rw [hkt] at egt
 have MO:MDOk ⟨[],nx,ws,pu,ad,dv⟩ n bs.length:=⟨(fun r hr=>by cases hr),Nat.zero_le _,⟨MP.nl,fun r hr=>(MP.nr r hr).1⟩,lwn,⟨MP.pl,fun r hr=>(MP.pr r hr).1.trans lpv⟩,MP.al,MP.d1,n3,by omega⟩
 exact q (.ref gt) _ SG8 ⟨gt,st,sl,n,kt,bs,⟨[],nx,ws,pu,ad,dv⟩,u,lo * u,hi,rv,rows,rfl,egt,SV,esl,hrv,⟨n1,n3,b2,fun b hb=>(ob b hb).2,fun r hr=>(MP.nr r hr).2,bw,fun r hr=>(MP.pr r hr).2,MP.ab,MP.d3,WBr,l8,blo.mono,bhi.mono⟩,⟨n1,n3,fun b hb=>(ob b hb).1,by omega,Nat.le_refl 1,(show 1<=40 by decide),fun m hm=>by rw [List.mem_singleton.mp hm]; exact MO⟩,rfl,by omega,by omega,u0,bu⟩
end
def sumR:Nat->(Nat->Rat)->Rat
 | 0,_=>0
 | n + 1,f=>sumR n f + f n
theorem zBG {f g:Nat->Rat}:∀ {n:Nat},(∀ j,j < n->f j=g j)->sumR n f=sumR n g
 | 0,_=>rfl
 | n + 1,h=>by
  show sumR n f + f n=sumR n g + g n
  rw [zBG fun j hj=>h j (Nat.lt_succ_of_lt hj),h n (Nat.lt_succ_self n)]
theorem zD0 (f g:Nat->Rat):∀ n:Nat,sumR n (fun j=>f j + g j)=sumR n f + sumR n g
 | 0=>by show (0:Rat)=0 + 0; grind
 | n + 1=>by
  show sumR n (fun j=>f j + g j) + (f n + g n)=(sumR n f + f n) + (sumR n g + g n)
  rw [zD0 f g n]
  grind
theorem zDf (c:Rat) (f:Nat->Rat):∀ n:Nat,sumR n (fun j=>c * f j)=c * sumR n f
 | 0=>by show (0:Rat)=c * 0; grind
 | n + 1=>by
  show sumR n (fun j=>c * f j) + c * f n=c * (sumR n f + f n)
  rw [zDf c f n]
  grind
theorem zEW:∀ n:Nat,sumR n (fun _=>0)=0
 | 0=>rfl
 | n + 1=>by
  show sumR n (fun _=>0) + 0=0
  rw [zEW n]
  grind
theorem zHQ (f:Nat->Nat->Rat) (m:Nat):∀ n:Nat,sumR n (fun j=>sumR m (fun i=>f i j))=sumR m (fun i=>sumR n (fun j=>f i j))
 | 0=>by
  show (0:Rat)=sumR m (fun i=>0)
  rw [zEW]
 | n + 1=>by
  show sumR n (fun j=>sumR m (fun i=>f i j)) + sumR m (fun i=>f i n)=sumR m (fun i=>sumR n (fun j=>f i j) + f i n)
  rw [zHQ f m n,zD0]
theorem zKI {f g:Nat->Rat}:∀ {n:Nat},(∀ j,j < n->f j<=g j)->sumR n f<=sumR n g
 | 0,_=>Rat.le_refl
 | n + 1,h=>by
  have h1:=zKI fun j hj=>h j (Nat.lt_succ_of_lt hj)
  have h2:=h n (Nat.lt_succ_self n)
  show sumR n f + f n<=sumR n g + g n
  grind
theorem zDK (f:Nat->Rat):∀ n:Nat,sumR (n + 1) f=f 0 + sumR n (fun j=>f (j + 1))
 | 0=>by show (0:Rat) + f 0=f 0 + 0; grind
 | n + 1=>by
  show sumR (n + 1) f + f (n + 1)=f 0 + (sumR n (fun j=>f (j + 1)) + f (n + 1))
  rw [zDK f n]
  grind
def dotQ (ws:List Int) (q:Nat->Rat):Rat:=sumR ws.length fun j=>(ws.getD j 0:Rat) * q j
def zCV (r:List Int × Int) (q:Nat->Rat):Prop:=dotQ r.1 q<=(r.2:Rat)
theorem zE1:∀ {xs ys:List Int},xs.length=ys.length->((sumP xs ys:Int):Rat)=sumR xs.length fun i=>(xs.getD i 0:Rat) * (ys.getD i 0:Rat)
 | [],[],_=>by show ((0:Int):Rat)=0; rfl
 | [],_ :: _,h=>nomatch h
 | _ :: _,[],h=>nomatch h
 | x :: xs,y :: ys,h=>by
  show ((x * y + sumP xs ys:Int):Rat)=sumR (xs.length + 1) fun i=>((x :: xs).getD i 0:Rat) * ((y :: ys).getD i 0:Rat)
  rw [zDK,Rat.intCast_add,Rat.intCast_mul,zE1 (Nat.succ.inj h)]
  rfl
theorem zHo (j:Nat):∀ {r:List Int} {ls:List (List Int)},r.length=ls.length->((plcL r ls j:Int):Rat)=sumR r.length fun i=>(r.getD i 0:Rat) * ((ls.getD i []).getD j 0:Rat)
 | [],[],_=>by show ((0:Int):Rat)=0; rfl
 | [],_ :: _,h=>nomatch h
 | _ :: _,[],h=>nomatch h
 | x :: xs,y :: ys,h=>by
  show ((x * y.getD j 0 + plcL xs ys j:Int):Rat)=sumR (xs.length + 1) fun i=>((x :: xs).getD i 0:Rat) * (((y :: ys).getD i []).getD j 0:Rat)
  rw [zDK,Rat.intCast_add,Rat.intCast_mul,zHo j (Nat.succ.inj h)]
  rfl
theorem zGa {n j:Nat} (f:Nat->Int) (h:j < n):((List.range n).map f).getD j 0=f j:=by
 rw [List.getD_eq_getElem?_getD,List.getElem?_map,List.getElem?_range h]
 rfl
theorem zLL {r:List Int} {ls:List (List Int)} {n:Nat} (hl:r.length=ls.length) (q:Nat->Rat):dotQ ((List.range n).map (plcL r ls)) q=sumR r.length fun i=>(r.getD i 0:Rat) * sumR n fun j=>((ls.getD i []).getD j 0:Rat) * q j:=by
 unfold dotQ
 rw [List.length_map,List.length_range]
 rw [zBG (g:=fun j=>sumR r.length fun i=>(r.getD i 0:Rat) * (((ls.getD i []).getD j 0:Rat) * q j)) fun j hj=>?_]
 ·rw [zHQ]
  exact zBG fun i hi=>zDf _ _ _
 ·rw [zGa _ hj,zHo j hl]
  rw [show sumR r.length (fun i=>(r.getD i 0:Rat) * (((ls.getD i []).getD j 0:Rat) * q j))=sumR r.length (fun i=>q j * ((r.getD i 0:Rat) * ((ls.getD i []).getD j 0:Rat))) from zBG fun i _=>by grind,zDf]
  grind
theorem zGn (q:Nat->Rat):∀ n:Nat,∃ (D:Int) (N:Nat->Int),0 < D/\∀ j,j < n->q j * (D:Rat)=(N j:Rat)
 | 0=>⟨1,fun _=>0,by decide,fun j hj=>absurd hj (Nat.not_lt_zero j)⟩
 | n + 1=>by
  obtain ⟨D,N,D0,h⟩:=zGn q n
  have d0:(0:Int) < ((q n).den:Int):=by
   have:=(q n).den_pos
   omega
  refine ⟨D * ((q n).den:Int),fun j=>if j=n then (q n).num * D else N j * ((q n).den:Int),Int.mul_pos D0 d0,fun j hj=>?_⟩
  have e0:((q n).num:Rat) / ((q n).den:Rat)=q n:=(Rat.mkRat_eq_div _ _).symm.trans (Rat.mkRat_self (q n))
  have dne:((q n).den:Rat)≠0:=by
   intro z
   have:((q n).den:Nat)=0:=by exact_mod_cast z
   omega
  have e:q n * ((q n).den:Rat)=((q n).num:Rat):=by
   conv=>lhs; lhs; rw [<- e0]
   grind
  have ec:(((q n).den:Int):Rat)=((q n).den:Rat):=rfl
  show q j * _=((if j=n then (q n).num * D else N j * ((q n).den:Int):Int):Rat)
  by_cases c:j=n
  ·rw [if_pos c,c,Rat.intCast_mul,Rat.intCast_mul,ec]
   grind
  ·rw [if_neg c,Rat.intCast_mul,Rat.intCast_mul,<- h j (by omega)]
   grind
def numQ (N:Nat->Int):List Int->Nat->Int
 | [],_=>0
 | w :: ws,k=>w * N k + numQ N ws (k + 1)
theorem zIz (N:Nat->Int) (c:Int):∀ (ws:List Int) (k:Nat),numQ N (ws.map (· * c)) k=numQ N ws k * c
 | [],_=>(Int.zero_mul c).symm
 | w :: ws,k=>by
  show w * c * N k + numQ N (ws.map (· * c)) (k + 1)=(w * N k + numQ N ws (k + 1)) * c
  rw [zIz N c ws (k + 1)]
  grind
theorem zKu {q:Nat->Rat} {D:Int} {N:Nat->Int} {n:Nat} (h:∀ j,j < n->q j * (D:Rat)=(N j:Rat)):∀ (ws:List Int) (k:Nat),k + ws.length<=n->((numQ N ws k:Int):Rat)=(sumR ws.length fun j=>(ws.getD j 0:Rat) * q (k + j)) * (D:Rat)
 | [],_,_=>by
  show ((0:Int):Rat)=0 * (D:Rat)
  rw [Rat.zero_mul]
  rfl
 | w :: ws,k,hk=>by
  show ((w * N k + numQ N ws (k + 1):Int):Rat)=(sumR (ws.length + 1) fun j=>((w :: ws).getD j 0:Rat) * q (k + j)) * (D:Rat)
  have hk':k + (ws.length + 1)<=n:=hk
  rw [zDK,Rat.intCast_add,Rat.intCast_mul,zKu h ws (k + 1) (by omega),<- h k (by omega)]
  have e:(sumR ws.length fun j=>(ws.getD j 0:Rat) * q (k + 1 + j))=sumR ws.length fun j=>((w :: ws).getD (j + 1) 0:Rat) * q (k + (j + 1)):=zBG fun j _=>by
   rw [show k + 1 + j=k + (j + 1) by omega]
   rfl
  rw [e]
  show (w:Rat) * (q k * (D:Rat)) + _=((w:Rat) * q (k + 0) + _) * (D:Rat)
  rw [Nat.add_zero]
  grind
theorem zBf {D:Int} (h:0 < D):(0:Rat) < (D:Rat):=by exact_mod_cast h
theorem zGw {rows:List (List Int × Int)} {n w b:Nat} (W:WB rows n w b) (b1:1<=b) (q:Nat->Rat):(∀ r∈tidM rows,zCV r q) ↔ ∀ r∈rows,zCV r q:=by
 obtain ⟨D,N,D0,h⟩:=zGn q n
 have DQ:=zBf D0
 have one:∀ r:List Int × Int,r.1.length=n->(hl (fun ws=>numQ N ws 0) D r=true ↔ zCV r q):=fun r hr=>by
  unfold hl zCV
  rw [decide_eq_true_iff]
  have e:=zKu h r.1 0 (by omega)
  have e2:(sumR r.1.length fun j=>(r.1.getD j 0:Rat) * q (0 + j))=dotQ r.1 q:=zBG fun j _=>by rw [Nat.zero_add]
  rw [e2] at e
  constructor
  ·intro z
   have z':((numQ N r.1 0:Int):Rat)<=((r.2 * D:Int):Rat):=by exact_mod_cast z
   rw [e,Rat.intCast_mul] at z'
   exact Rat.le_of_mul_le_mul_right z' DQ
  ·intro z
   have z':=Rat.mul_le_mul_of_nonneg_right z (Rat.le_of_lt DQ)
   rw [<- e,<- Rat.intCast_mul] at z'
   exact_mod_cast z'
 have sp:=zH6 (fun ws=>numQ N ws 0) D D0 (fun ws c=>zIz N c ws 0) rows
 have WT:=W.tid b1
 have k:(∀ r∈tidM rows,hl (fun ws=>numQ N ws 0) D r=true) ↔ ∀ r∈rows,hl (fun ws=>numQ N ws 0) D r=true:=by
  rw [<- List.all_eq_true,<- List.all_eq_true,sp]
 constructor
 ·intro z r hr
  exact (one r (W r hr).1).mp (k.mp (fun r' hr'=>(one r' (WT r' hr').1).mpr (z r' hr')) r hr)
 ·intro z r hr
  exact (one r (WT r hr).1).mp (k.mpr (fun r' hr'=>(one r' (W r' hr').1).mpr (z r' hr')) r hr)
def zJ7 (r:Row3) (q:Nat->Rat) (x:Rat):Prop:=dotQ r.1 q + (r.2.1:Rat) * x<=(r.2.2:Rat)
theorem zNQ (f g:Int) (q:Nat->Rat) {us ls:List Int} (h:us.length=ls.length):dotQ (mixM f us g ls) q=(f:Rat) * dotQ us q + (g:Rat) * dotQ ls q:=by
 unfold dotQ
 rw [<- h,<- zDf,<- zDf,<- zD0]
 have l:(mixM f us g ls).length=us.length:=by unfold mixM; rw [List.length_map,List.length_zip,<- h,Nat.min_self]
 rw [l]
 refine zBG fun j hj=>?_
 have e:(mixM f us g ls).getD j 0=f * us.getD j 0 + g * ls.getD j 0:=by
  unfold mixM
  have hz:(us.zip ls)[j]? = some (us[j],ls[j]'(by omega)):=by
   rw [List.getElem?_zip_eq_some]
   exact ⟨List.getElem?_eq_getElem hj,List.getElem?_eq_getElem _⟩
  rw [List.getD_eq_getElem?_getD,List.getElem?_map,hz,List.getD_eq_getElem?_getD,List.getElem?_eq_getElem hj,List.getD_eq_getElem?_getD,List.getElem?_eq_getElem (show j < ls.length by omega)]
  rfl
 rw [e,Rat.intCast_add,Rat.intCast_mul,Rat.intCast_mul]
 grind
theorem zHD {z:Int} (h:z < 0):(0:Rat) < -(z:Rat):=by
 have:=zBf (show 0 < -z by omega)
 rw [Rat.intCast_neg] at this
 exact this
theorem fm {rows:List Row3} {n:Nat} {q:Nat->Rat} {x:Rat} (len:∀ r∈rows,r.1.length=n) (h:∀ r∈noSt rows,zCV r q) (h1:∀ l∈rows,l.2.1 < 0->dotQ l.1 q - (l.2.2:Rat)<=-(l.2.1:Rat) * x) (h2:∃ l∈rows,l.2.1 < 0/\dotQ l.1 q - (l.2.2:Rat) = -(l.2.1:Rat) * x):∀ r∈rows,zJ7 r q x:=fun r hr=>by
 unfold zJ7
 rcases Int.lt_trichotomy r.2.1 0 with c | c | c
 ·have:=h1 r hr c
  grind
 ·have m:(r.1,r.2.2)∈noSt rows:=by
   unfold noSt zGU
   exact List.mem_append_left _ (List.mem_map.mpr ⟨r,List.mem_filter.mpr ⟨hr,decide_eq_true c⟩,rfl⟩)
  have z:=h _ m
  unfold zCV at z
  rw [c]
  have e:((0:Int):Rat)=0:=rfl
  rw [e]
  grind
 ·obtain ⟨l,hl,lc,le⟩:=h2
  have m:zHL r l∈noSt rows:=by
   unfold noSt upM lowM
   exact List.mem_append_right _ (List.mem_flatMap.mpr ⟨r,List.mem_filter.mpr ⟨hr,decide_eq_true c⟩,List.mem_map.mpr ⟨l,List.mem_filter.mpr ⟨hl,decide_eq_true lc⟩,rfl⟩⟩)
  have z:=h _ m
  unfold zCV zHL at z
  dsimp only at z
  rw [zNQ _ _ _ ((len r hr).trans (len l hl).symm),Rat.intCast_add,Rat.intCast_mul,Rat.intCast_mul,Rat.intCast_neg] at z
  have ln:=zHD lc
  refine Rat.le_of_mul_le_mul_left (c:=-(l.2.1:Rat)) ?_ ln
  have e:(r.2.1:Rat) * (dotQ l.1 q - (l.2.2:Rat))=(r.2.1:Rat) * (-(l.2.1:Rat) * x):=by rw [le]
  grind
def zIO (n w:Nat) (m:MD) (q:Nat->Rat) (v:Nat->Rat) (x:Rat) (i:Nat):Rat:=
 (sumR n (fun j=>((m.nexts.getD i []).getD j 0:Rat) * q j) + sumR w (fun j=>((m.push.getD i []).getD j 0:Rat) * v j) + ((m.steer.getD i 0:Rat) * x + (m.add.getD i 0:Rat))) / (m.div:Rat)
theorem zFH {α:Type} {l:List α} {d:α} {j:Nat} {x:α} (h:l[j]? = some x):l.getD j d=x:=by
 rw [List.getD_eq_getElem?_getD,h]
 rfl
theorem zJd {us:List Int} {bs:List (Int × Int)} (l:us.length=bs.length) {v:Nat->Rat} (hv:∀ j b,bs[j]? = some b->(b.1:Rat)<=v j/\v j<=(b.2:Rat)):dotQ us v<=((sumP us (zCr us bs):Int):Rat):=by
 rw [zE1 (zFv l).symm]
 unfold dotQ
 refine zKI fun j hj=>?_
 have hb:bs[j]? = some (bs[j]'(by omega)):=List.getElem?_eq_getElem _
 have hu:us[j]? = some us[j]:=List.getElem?_eq_getElem hj
 obtain ⟨v1,v2⟩:=hv j _ hb
 have hz:(zCr us bs)[j]? = some (if us[j] > 0 then (bs[j]'(by omega)).2 else (bs[j]'(by omega)).1):=by
  unfold zCr
  have hzp:(us.zip bs)[j]? = some (us[j],bs[j]'(by omega)):=by rw [List.getElem?_zip_eq_some]; exact ⟨hu,hb⟩
  rw [List.getElem?_map,hzp]
  rfl
 rw [zFH hu,zFH hz]
 by_cases c:us[j] > 0
 ·rw [if_pos c]
  exact Rat.mul_le_mul_of_nonneg_left v2 (Rat.le_of_lt (zBf c))
 ·rw [if_neg c]
  have c':(0:Rat)<=-((us[j]:Int):Rat):=by
   have:(0:Int)<=-us[j]:=by omega
   have:(0:Rat)<=((-us[j]:Int):Rat):=by exact_mod_cast this
   rwa [Rat.intCast_neg] at this
  have:=Rat.mul_le_mul_of_nonneg_left v1 c'
  grind
theorem zKJ {n:Nat} {bs:List (Int × Int)} {m:MD} {r:List Int × Int} (MO:MDOk m n bs.length) (lr:r.1.length=n) {q v:Nat->Rat} {x:Rat} (hv:∀ j b,bs[j]? = some b->(b.1:Rat)<=v j/\v j<=(b.2:Rat)) (h:zJ7 (sr3 n bs m r) q x):zCV r (zIO n bs.length m q v x):=by
 have dv:(0:Rat) < (m.div:Rat):=zBf (by have:=MO.div; omega)
 unfold zJ7 sr3 at h
 dsimp only at h
 have pw:=zJd (us:=(List.range bs.length).map (plcL r.1 m.push)) (bs:=bs) (by rw [List.length_map,List.length_range]) hv
 rw [zLL (lr.trans MO.push.1.symm)] at pw
 rw [zLL (lr.trans MO.nexts.1.symm),zE1 (lr.trans MO.steer.symm)] at h
 have ea:=zE1 (lr.trans MO.add.symm)
 rw [Rat.intCast_sub,Rat.intCast_sub,Rat.intCast_mul] at h
 unfold zCV dotQ
 refine Rat.le_of_mul_le_mul_left (c:=(m.div:Rat)) ?_ dv
 rw [<- zDf]
 have e:(sumR r.1.length fun j=>(m.div:Rat) * ((r.1.getD j 0:Rat) * zIO n bs.length m q v x j))=(sumR r.1.length fun i=>(r.1.getD i 0:Rat) * sumR n fun j=>((m.nexts.getD i []).getD j 0:Rat) * q j) + (sumR r.1.length fun i=>(r.1.getD i 0:Rat) * sumR bs.length fun j=>((m.push.getD i []).getD j 0:Rat) * v j) + ((sumR r.1.length fun i=>(r.1.getD i 0:Rat) * (m.steer.getD i 0:Rat)) * x + sumR r.1.length fun i=>(r.1.getD i 0:Rat) * (m.add.getD i 0:Rat)):=by
  rw [Rat.mul_comm _ x,<- zDf,<- zD0,<- zD0,<- zD0]
  refine zBG fun i _=>?_
  unfold zIO
  have dne:(m.div:Rat)≠0:=fun z=>by rw [z] at dv; exact absurd dv (Rat.lt_irrefl)
  generalize sumR n (fun j=>((m.nexts.getD i []).getD j 0:Rat) * q j)=a
  generalize sumR bs.length (fun j=>((m.push.getD i []).getD j 0:Rat) * v j)=b
  generalize (m.steer.getD i 0:Rat)=c
  generalize (m.add.getD i 0:Rat)=d
  generalize (r.1.getD i 0:Rat)=w
  generalize (m.div:Rat)=dd at dne dv |-
  have e:dd * ((a + b + (c * x + d)) / dd)=a + b + (c * x + d):=by
   rw [Rat.div_def,Rat.mul_comm _ dd⁻¹,<- Rat.mul_assoc,Rat.mul_inv_cancel _ dne,Rat.one_mul]
  have e2:dd * (w * ((a + b + (c * x + d)) / dd))=w * (dd * ((a + b + (c * x + d)) / dd)):=by
   rw [<- Rat.mul_assoc,Rat.mul_comm dd w,Rat.mul_assoc]
  rw [e2,e]
  grind
 rw [e]
 grind
theorem zHl {n:Nat} {bs:List (Int × Int)} {m:MD} {lo hi:Int} {safe:List (List Int × Int)} (G:zCo n bs m lo hi safe) {q:Nat->Rat}:∀ {k:Nat},(∀ r∈zCh n bs m lo hi safe k,zCV r q)->∀ r∈safe,zCV r q
 | 0,h=>(zGw G.sf (by decide) q).mp h
 | k + 1,h=>fun r hr=>(zGw (G.aft (G.held k)) (by have:=zHM (k + 1); omega) q).mp h r (List.mem_append_left _ hr)
theorem zLE {n:Nat} {bs:List (Int × Int)} {m:MD} {lo hi:Int} {safe:List (List Int × Int)} (G:zCo n bs m lo hi safe) (MO:MDOk m n bs.length) {q v:Nat->Rat} {x:Rat} {k:Nat} (h:∀ r∈zCh n bs m lo hi safe (k + 1),zCV r q) (hv:∀ j b,bs[j]? = some b->(b.1:Rat)<=v j/\v j<=(b.2:Rat))
  (h1:∀ l∈zC2 n bs m lo hi (zCh n bs m lo hi safe k),l.2.1 < 0->dotQ l.1 q - (l.2.2:Rat)<=-(l.2.1:Rat) * x) (h2:∃ l∈zC2 n bs m lo hi (zCh n bs m lo hi safe k),l.2.1 < 0/\dotQ l.1 q - (l.2.2:Rat) = -(l.2.1:Rat) * x):(∀ r∈zCh n bs m lo hi safe k,zCV r (zIO n bs.length m q v x))/\(lo:Rat)<=x/\x<=(hi:Rat):=by
 have hall:=(zGw (G.aft (G.held k)) (by have:=zHM (k + 1); omega) q).mp h
 have wb:=zHM k
 have W3:=G.three (G.held k) wb.1 wb.2
 have F:=fm (fun r hr=>(W3 r hr).1) (fun r hr=>hall r (List.mem_append_right _ hr)) h1 h2
 have z0:dotQ (List.replicate n 0) q=0:=by
  unfold dotQ
  rw [zBG (g:=fun _=>0) fun j hj=>?_,zEW]
  rw [List.length_replicate] at hj
  rw [List.getD_eq_getElem?_getD,List.getElem?_replicate_of_lt hj]
  show ((0:Int):Rat) * q j=0
  have:((0:Int):Rat)=0:=rfl
  rw [this,Rat.zero_mul]
 refine ⟨fun r hr=>zKJ MO ((G.held k) r hr).1 hv (F _ (List.mem_append_left _ (List.mem_map.mpr ⟨r,hr,rfl⟩))),?_,?_⟩
 ·have:=F (List.replicate n 0,-1,-lo) (List.mem_append_right _ (List.mem_cons_of_mem _ List.mem_cons_self))
  unfold zJ7 at this
  dsimp only at this
  rw [z0,Rat.intCast_neg,Rat.intCast_neg] at this
  have e:((1:Int):Rat)=1:=rfl
  rw [e] at this
  grind
 ·have:=F (List.replicate n 0,1,hi) (List.mem_append_right _ List.mem_cons_self)
  unfold zJ7 at this
  dsimp only at this
  rw [z0] at this
  have e:((1:Int):Rat)=1:=rfl
  rw [e] at this
  grind
def valQ (p:Int × Int):Rat:=(p.1:Rat) / (p.2:Rat)
def ptQ (pts:List (Int × Int)) (j:Nat):Rat:=valQ (pts.getD j (0,1))
theorem zCp {p:Int × Int} (h:0 < p.2):valQ p * (p.2:Rat)=(p.1:Rat):=by
 unfold valQ
 have d:=zBf h
 have ne:(p.2:Rat)≠0:=fun z=>by rw [z] at d; exact absurd d Rat.lt_irrefl
 rw [Rat.div_def,Rat.mul_assoc,Rat.inv_mul_cancel _ ne,Rat.mul_one]
theorem zEV {p:Int × Int} {x:Rat} (h:0 < p.2) (e:(p.1:Rat)=x * (p.2:Rat)):valQ p=x:=by
 have d:=zBf h
 have ne:(p.2:Rat)≠0:=fun z=>by rw [z] at d; exact absurd d Rat.lt_irrefl
 unfold valQ
 rw [e,Rat.div_def,Rat.mul_assoc,Rat.mul_inv_cancel _ ne,Rat.mul_one]
structure GQ (ws:List Int) (pts:List (Int × Int)) (w a e d:Nat):Prop where
 len:ws.length=pts.length
 n3:pts.length<=3
 bw:∀ x∈ws,Bd w x
 ok:∀ p∈pts,0 < p.2/\Bd a p.1/\Bd e p.2
 nd:e * pts.length<=d
 sz:w + a + d + 10<=7000
theorem zHz {ws:List Int} {pts:List (Int × Int)} {w a e d:Nat} (G:GQ ws pts w a e d):∀ p∈ws.zip pts,0 < p.2.2/\Bd w p.1/\Bd a p.2.1/\Bd e p.2.2:=fun p hp=>by
 obtain ⟨x,y⟩:=List.of_mem_zip hp
 obtain ⟨c1,c2,c3⟩:=G.ok _ y
 exact ⟨c1,G.bw _ x,c2,c3⟩
theorem zGs {ws:List Int} {pts:List (Int × Int)} {w a e d:Nat} (G:GQ ws pts w a e d):(ws.zip pts).length=pts.length:=by
 rw [List.length_zip,G.len,Nat.min_self]
theorem zLY {w a e:Nat}:∀ (n:Nat) (l:List (Int × Int × Int)),l.length=n->(∀ p∈l,Bd w p.1/\Bd a p.2.1/\Bd e p.2.2)->Bd (w + a + e * n + n + 1) (l.foldl zCt (0,1)).1/\Bd (e * n + 1) (l.foldl zCt (0,1)).2
 | 0,l,h,_=>by
  have:l=[]:=List.length_eq_zero_iff.mp h
  subst this
  exact ⟨zDx _,Bd.mono (i:=1) (n:=1) Bd.lit (by omega)⟩
 | n + 1,l,h,k=>by
  rcases List.eq_nil_or_concat l with rfl | ⟨r,p,rfl⟩
  ·cases h
  rw [List.concat_eq_append] at *
  rw [List.length_append,List.length_singleton] at h
  obtain ⟨i1,i2⟩:=zLY n r (by omega) fun q hq=>k q (List.mem_append_left _ hq)
  obtain ⟨h1,h2,h3⟩:=k p (List.mem_append_right _ (List.mem_singleton.mpr rfl))
  rw [List.foldl_append]
  generalize r.foldl zCt (0,1)=st at i1 i2
  have en:e * (n + 1)=e * n + e:=Nat.mul_succ e n
  constructor
  ·show Bd (w + a + e * (n + 1) + (n + 1) + 1) (st.1 * p.2.2 + p.1 * p.2.1 * st.2)
   exact (((i1.mul h3).mono (m:=w + a + e * (n + 1) + n + 1) (by omega)).add (((h1.mul h2).mul i2).mono (by omega))).mono (by omega)
  ·show Bd (e * (n + 1) + 1) (st.2 * p.2.2)
   exact (i2.mul h3).mono (by omega)
theorem zIk (q:Nat->Rat):∀ (ws:List Int) (pts:List (Int × Int)) (st:Int × Int) (k:Nat),ws.length=pts.length->(∀ p∈pts,0 < p.2)->(∀ j,j < pts.length->q (k + j)=valQ (pts.getD j (0,1)))->0 < st.2->
  0 < ((ws.zip pts).foldl zCt st).2/\((((ws.zip pts).foldl zCt st).1:Int):Rat)=(valQ st + sumR ws.length fun j=>(ws.getD j 0:Rat) * q (k + j)) * ((((ws.zip pts).foldl zCt st).2:Int):Rat)
 | [],[],st,k,_,_,_,s0=>⟨s0,by
  show (st.1:Rat)=(valQ st + 0) * (st.2:Rat)
  rw [Rat.add_zero,zCp s0]⟩
 | [],_ :: _,_,_,h,_,_,_=>nomatch h
 | _ :: _,[],_,_,h,_,_,_=>nomatch h
 | x :: ws,p :: pts,st,k,h,hp,hq,s0=>by
  have p0:=hp p List.mem_cons_self
  have s1:0 < (zCt st (x,p)).2:=Int.mul_pos s0 p0
  obtain ⟨z1,z2⟩:=zIk q ws pts (zCt st (x,p)) (k + 1) (Nat.succ.inj h) (fun r hr=>hp r (List.mem_cons_of_mem _ hr)) (fun j hj=>by
   have:=hq (j + 1) (Nat.succ_lt_succ hj)
   rw [show k + 1 + j=k + (j + 1) by omega,this]
   rfl) s1
  refine ⟨z1,z2.trans ?_⟩
  show _=(valQ st + sumR (ws.length + 1) fun j=>((x :: ws).getD j 0:Rat) * q (k + j)) * _
  rw [zDK]
  congr 1
  have e1:valQ (zCt st (x,p))=valQ st + (x:Rat) * valQ p:=zEV s1 (by
   show ((st.1 * p.2 + x * p.1 * st.2:Int):Rat)=_ * ((st.2 * p.2:Int):Rat)
   rw [Rat.intCast_add,Rat.intCast_mul,Rat.intCast_mul,Rat.intCast_mul,Rat.intCast_mul,<- zCp s0,<- zCp p0]
   grind)
  have e2:q (k + 0)=valQ p:=hq 0 (Nat.succ_pos _)
  have e3:(sumR ws.length fun j=>(ws.getD j 0:Rat) * q (k + 1 + j))=sumR ws.length fun j=>((x :: ws).getD (j + 1) 0:Rat) * q (k + (j + 1)):=zBG fun j _=>by
   rw [show k + 1 + j=k + (j + 1) by omega]
   rfl
  rw [e1,e3,e2,Rat.add_assoc]
  rfl
theorem zNb {ws:List Int} {pts:List (Int × Int)} {w a e d:Nat} (G:GQ ws pts w a e d):0 < (zDd ws pts).2/\(((zDd ws pts).1:Int):Rat)=dotQ ws (ptQ pts) * (((zDd ws pts).2:Int):Rat)/\Bd (w + a + d + 4) (zDd ws pts).1/\Bd (d + 1) (zDd ws pts).2:=by
 obtain ⟨h1,h2⟩:=zIk (ptQ pts) ws pts (0,1) 0 G.len (fun p hp=>(G.ok p hp).1) (fun j _=>by rw [Nat.zero_add]; rfl) (by decide)
 have n3:=G.n3
 obtain ⟨b1,b2⟩:=zLY (w:=w) (a:=a) (e:=e) pts.length (ws.zip pts) (zGs G) fun p hp=>(zHz G p hp).2
 have en:=G.nd
 refine ⟨h1,h2.trans ?_,b1.mono (by omega),b2.mono (by omega)⟩
 show _=dotQ ws (ptQ pts) * ((((ws.zip pts).foldl zCt (0,1)).2:Int):Rat)
 congr 1
 have z:valQ (0,1)=0:=by
  refine zEV (by decide) ?_
  show ((0:Int):Rat)=0 * ((1:Int):Rat)
  rw [Rat.zero_mul]
  rfl
 rw [z,Rat.zero_add]
 exact zBG fun j _=>by rw [Nat.zero_add]
theorem zKA {t b:Int} (h:b≠0):0 < lowB t b/\valQ (lowT t b,lowB t b)=(t:Rat) / (b:Rat):=by
 have p:=zFt (t:=t) h
 refine ⟨p,zEV p ?_⟩
 have c:=zHf (t:=t) h
 have ne:(b:Rat)≠0:=fun z=>h (by exact_mod_cast z)
 have c':((lowT t b * b:Int):Rat)=((t * lowB t b:Int):Rat):=by rw [c]
 rw [Rat.intCast_mul,Rat.intCast_mul] at c'
 show ((lowT t b:Int):Rat)=(t:Rat) / (b:Rat) * ((lowB t b:Int):Rat)
 rw [Rat.div_def]
 have e:(lowT t b:Rat)=(lowT t b:Rat) * (b:Rat) * (b:Rat)⁻¹:=by rw [Rat.mul_assoc,Rat.mul_inv_cancel _ ne,Rat.mul_one]
 rw [e,c']
 grind
inductive zHR (K:PySem.W.Frag) (vs:List V) (H:Hp) (Q:VK) (E:XK):Prop
 | mk (na pa:Addr) (ws:List Int) (pv:List V) (pts:List (Int × Int)) (w a e d:Nat) (_:vs=[.ref na,.ref pa]) (_:SqE K H na (ws.map V.int)) (_:SqL K H pa pv) (_:PtV H pv pts) (_:GQ ws pts w a e d) (_:∀ r H',Same H H'->H' r=some (.tup [.int (zDd ws pts).1,.int (zDd ws pts).2])->Q (.ref r) H'):zHR K vs H Q E
inductive zIo (K:PySem.W.Frag) (vs:List V) (H:Hp) (Q:VK) (E:XK):Prop
 | mk (na pa:Addr) (ws:List Int) (pv:List V) (pts:List (Int × Int)) (w a e d:Nat) (x z:Int) (_:vs=[.ref na,.ref pa,.int x,.int z]) (_:SqE K H na (ws.map V.int)) (_:SqL K H pa pv) (_:PtV H pv pts) (_:GQ ws pts w a e d) (_:Bd (w + a) x) (_:0 < z) (_:Bd w z) (_:∀ r (t b:Int) H',Same H H'->H' r=some (.tup [.int t,.int b])->0 < b->valQ (t,b) * (z:Rat)=dotQ ws (ptQ pts) + (x:Rat)->Bd (w + a + d + 5) t->Bd (w + d + 1) b->Q (.ref r) H'):zIo K vs H Q E
inductive zEM (K:PySem.W.Frag) (vs:List V) (H:Hp) (Q:VK) (E:XK):Prop
 | mk (ra pa:Addr) (ws:List Int) (b:Int) (pv:List V) (pts:List (Int × Int)) (w a e d:Nat) (_:vs=[.ref ra,.ref pa]) (_:H ra=some (.tup (rowV ws b))) (_:SqL K H pa pv) (_:PtV H pv pts) (_:GQ ws pts w a e d) (_:Bd 1000 b) (_:∀ (y:Bool) H',Same H H'->(y=true ↔ zCV (ws,b) (ptQ pts))->Q (.bl y) H'):zEM K vs H Q E
inductive zEL (K:PySem.W.Frag) (vs:List V) (H:Hp) (Q:VK) (E:XK):Prop
 | mk (rm pa:Addr) (rv pv:List V) (rows:List (List Int × Int)) (pts:List (Int × Int)) (n w a e d:Nat) (_:vs=[.ref rm,.ref pa]) (_:SqL K H rm rv) (_:zAk H rv rows) (_:SqL K H pa pv) (_:PtV H pv pts) (_:WB rows n w 1000) (_:rows.length<=900) (_:pts.length=n) (_:n<=3) (_:(∀ p∈pts,0 < p.2/\Bd a p.1/\Bd e p.2)) (_:e * pts.length<=d) (_:w + a + d + 10<=7000) (_:∀ (y:Bool) H',Same H H'->(y=true ↔ ∀ r∈rows,zCV r (ptQ pts))->Q (.bl y) H'):zEL K vs H Q E
theorem zMH {ws:List Int} {pts:List (Int × Int)} {w a e d:Nat} (G:GQ ws pts w a e d) (b:Int):decide ((zDd ws pts).1<=b * (zDd ws pts).2)=true ↔ zCV (ws,b) (ptQ pts):=by
 obtain ⟨h1,h2,_,_⟩:=zNb G
 have d:=zBf h1
 rw [decide_eq_true_iff]
 unfold zCV
 constructor
 ·intro z
  have z':(((zDd ws pts).1:Int):Rat)<=((b * (zDd ws pts).2:Int):Rat):=by exact_mod_cast z
  rw [h2,Rat.intCast_mul] at z'
  exact Rat.le_of_mul_le_mul_right z' d
 ·intro z
  have z':=Rat.mul_le_mul_of_nonneg_right z (Rat.le_of_lt d)
  rw [<- h2,<- Rat.intCast_mul] at z'
  exact_mod_cast z'
section
variable {P:Program} {w:World} {K:PySem.W.Frag} {mg:Str->Option Value} {base:Heap} {cM cP:Addr}
abbrev zDO:Stmt:=top 24
theorem zCY:zAP ["numbers","point","top","bottom","number","part"] ["numbers","point"] (zAC zDO):=.a
abbrev zB6:Stmt:=top 25
theorem zEI:zAP ["numbers","point","add","divisor","total"] ["numbers","point","add","divisor"] (zAC zB6):=.a
abbrev zFA:Stmt:=top 26
theorem zIr:zAP ["row","point","total"] ["row","point"] (zAC zFA):=.a
abbrev zC6:Stmt:=top 27
theorem zJW:zAP ["room","point"] ["room","point"] (zAC zC6):=.a
variable {ac ae:Addr} (af:ClsF K mg "Mode" ac) (ah:zCW K ac) (ag:ClsF K mg "Thing" ae) (ai:zBs K ae)
include af ah ag ai
theorem zJf {k:Nat} {f:Addr} {fd:FuncData} (F:Fun K "raw_sum" "raw_sum" zDO f fd) (B:Bl mg):FnOk P w K mg base CX0 (k + 1) f fd ["numbers","point"] (zHR K):=by
 refine F.ok zCY ?_ ?_
 ·rintro vs H Q E ⟨na,pa,ws,pv,pts,w,a,e,d,rfl,_⟩
  rfl
 rintro cdv A outer s H vs Q E hr ⟨na,pa,ws,pv,pts,w,a,e,d,rfl,hna,hpa,hpt,GW,q⟩
 refine ⟨_,(zAD (zAR (i:=2) zCY.nd rfl (Or.inl rfl) zAE)
  (zAD (zAR (i:=3) zCY.nd rfl (Or.inl rfl) zAE)
  (zAD (zBy PassesOwn.never rfl (zFB rfl B.zip_ (zAA (pvj 0) (zAA (pvj 1) zAB))) (zDD rfl (zAY (zAJ (i:=4) zCY.nd rfl (Or.inl rfl)) (zAY (zAJ (i:=5) zCY.nd rfl (Or.inl rfl)) zCQ))) (zAD (zAR (i:=2) zCY.nd rfl (Or.inl rfl) (zAK (ji0 zAt) (zAK (ji zAd) (pvj 2) (zAX zAO (pvj 5) zAE (fun _ _=>rfl))) (zAK (ji zAd) (zAK (ji zAd) (pvj 4) (zAX zAO (pvj 5) zAE (fun _ _=>rfl))) (pvj 3))))
   (zAH (zAR (i:=3) zCY.nd rfl (Or.inl rfl) (zAK (ji zAd) (pvj 3) (zAX zAO (pvj 5) zAE (fun _ _=>rfl)))))))
  (zAH (zAU (zCA (zAA (pvj 2) (zAA (pvj 3) zAB)))))))),?_⟩
 try dsimp only [cxOf,Cx.nox,Cx.wish]
 have lp:pv.length=pts.length:=Paired.length hpt
 have hlen:(ws.map V.int).length<=pv.length:=by rw [List.length_map,GW.len,lp]; exact Nat.le_refl _
 refine ⟨_,rfl,_,rfl,na,pa,rfl,zI9 (xs:=ws.map V.int) (ys:=pv) hna hpa
  (fun i σ H2=>∃ n1 p1,σ=[some (.ref na),some (.ref pa),some (.int (((ws.zip pts).take i).foldl zCt (0,1)).1),some (.int (((ws.zip pts).take i).foldl zCt (0,1)).2),n1,p1]/\Same H H2)
  ⟨none,none,rfl,Same.refl _⟩ (fun i σ H2 _ ⟨_,_,_,sm⟩=>sm) hlen ?_ ?_⟩
 ·rintro i x y T σ H2 hx hy hT ⟨n1,p1,rfl,sm⟩
  obtain ⟨wv,hw,rfl⟩:=zBW hx
  obtain ⟨pr,hpr,r,rfl,er⟩:=zAc hpt hy
  have hz:(ws.zip pts)[i]? = some (wv,pr):=by rw [List.getElem?_zip_eq_some]; exact ⟨hw,hpr⟩
  have hzm:=List.mem_of_getElem? hz
  obtain ⟨z1,z2,z3,z4⟩:=zHz GW _ hzm
  have hil:i < pts.length:=(List.getElem?_eq_some_iff.mp hpr).1
  obtain ⟨b1,b2⟩:=zLY (w:=w) (a:=a) (e:=e) i ((ws.zip pts).take i) (by rw [List.length_take,zGs GW]; omega) fun q hq=>(zHz GW q (List.mem_of_mem_take hq)).2
  have n3:=GW.n3
  have sz:=GW.sz
  have en:e * i<=d:=Nat.le_trans (Nat.mul_le_mul_left e (by omega)) GW.nd
  have e9:e<=d:=Nat.le_trans (by have:=Nat.mul_le_mul_left e (show 1<=pts.length by omega); omega) GW.nd
  have s2:=sm.trans (zAI hT (HO.tup [V.int wv,V.ref r]))
  have er2:=s2 _ _ er
  have tk:((ws.zip pts).take (i + 1)).foldl zCt (0,1)=zCt (((ws.zip pts).take i).foldl zCt (0,1)) (wv,pr):=by rw [zAa hz,List.foldl_append]; rfl
  refine ⟨T,_,rfl,SqT.of zAF,rfl,_,_,rfl,_,_,rfl,rfl,?_⟩
  refine ⟨_,rfl,_,rfl,r,_,1,_,rfl,rfl,SqT.of er2,at1,_,_,rfl,rfl,⟨b1.mono (by omega),z4.mono (by omega)⟩,?_⟩
  refine ⟨_,rfl,_,rfl,r,_,0,_,rfl,rfl,SqT.of er2,at0,_,_,rfl,rfl,⟨z2.mono (by omega),z3.mono (by omega)⟩,_,rfl,_,_,rfl,rfl,⟨(z2.mul z3).mono (by omega),b2.mono (by omega)⟩,_,_,rfl,rfl,?_⟩
  refine ⟨_,rfl,_,rfl,r,_,1,_,rfl,rfl,SqT.of er2,at1,_,_,rfl,rfl,⟨b2.mono (by omega),z4.mono (by omega)⟩,?_⟩
  refine ⟨some (.int wv),some (.ref r),?_,s2⟩
  rw [tk]
  rfl
 ·rintro σ H2 ⟨n1,p1,rfl,sm⟩
  have tk:(ws.zip pts).take (ws.map V.int).length=ws.zip pts:=List.take_of_length_le (by rw [zGs GW,List.length_map,GW.len]; exact Nat.le_refl _)
  rw [tk]
  refine ⟨_,rfl,_,rfl,sz2,fun r hr'=>?_⟩
  exact q r _ (sm.trans (zAI hr' _)) zAF
theorem zGY {k:Nat} {f:Addr} {fd:FuncData} (F:Fun K "divided_sum" "divided_sum" zB6 f fd) (B:Bl mg) (aH:Fn P w K mg base "raw_sum" ["numbers","point"] k (zHR K)) (ax:FnD P w K mg base "fraction" ["top","bottom"] k zCw (.int 1)):FnOk P w K mg base CX0 (k + 1) f fd ["numbers","point","add","divisor"] (zIo K):=by
 refine F.ok zEI ?_ ?_
 ·rintro vs H Q E ⟨na,pa,ws,pv,pts,w,a,e,d,x,z,rfl,_⟩
  rfl
 rintro cdv A outer s H vs Q E hr ⟨na,pa,ws,pv,pts,w,a,e,d,x,z,rfl,hna,hpa,hpt,GW,bx,d0,bd,q⟩
 refine ⟨_,(zAD (zAR (i:=4) zEI.nd rfl (Or.inl rfl) (zAG aH hr rfl (zAA (pvj 0) (zAA (pvj 1) zAB))))
  (zAH (zAU (zAG ax.fn hr rfl (zAA (zAK (ji0 zAt) (zAX zAO (pvj 4) zAE (fun _ _=>rfl)) (zAK (ji zAd) (pvj 2) (zAX zAO (pvj 4) zAE (fun _ _=>rfl)))) (zAA (zAK (ji zAd) (zAX zAO (pvj 4) zAE (fun _ _=>rfl)) (pvj 3)) zAB)))))),?_⟩
 try dsimp only [cxOf,Cx.nox,Cx.wish]
 obtain ⟨p0,ev,b1,b2⟩:=zNb GW
 have sz:=GW.sz
 have pq:=Int.mul_pos p0 d0
 refine ⟨_,rfl,_,rfl,na,pa,ws,pv,pts,w,a,e,d,rfl,hna,hpa,hpt,GW,fun r1 H1 s1 e1=>?_⟩
 refine ⟨_,rfl,r1,_,0,_,rfl,rfl,SqT.of e1,at0,_,rfl,_,rfl,r1,_,1,_,rfl,rfl,SqT.of e1,at1,_,_,rfl,rfl,⟨bx.mono (by omega),b2.mono (by omega)⟩,_,_,rfl,rfl,_,rfl,r1,_,1,_,rfl,rfl,SqT.of e1,at1,_,rfl,_,_,rfl,rfl,⟨b2.mono (by omega),bd.mono (by omega)⟩,_,_,rfl,(by omega),(b2.mul bd).mono (by omega),fun r H2 s2 e2=>?_⟩
 generalize (zDd ws pts).1=t at *
 generalize (zDd ws pts).2=b at *
 obtain ⟨l0,lv⟩:=zKA (t:=t + x * b) (b:=b * z) (by omega)
 have bt:Bd (w + a + d + 5) (t + x * b):=(b1.add ((bx.mul b2).mono (by omega))).mono (by omega)
 have bb:Bd (w + d + 1) (b * z):=(b2.mul bd).mono (by omega)
 refine q r _ _ H2 (s1.trans s2) e2 l0 ?_ (zDz bt) (zDp bb)
 rw [lv,Rat.intCast_add,Rat.intCast_mul,Rat.intCast_mul,ev,Rat.div_def]
 have db:=zBf p0
 have dd:=zBf d0
 have n1:(b:Rat)≠0:=fun y=>by rw [y] at db; exact absurd db Rat.lt_irrefl
 have n2:(z:Rat)≠0:=fun y=>by rw [y] at dd; exact absurd dd Rat.lt_irrefl
 have i1:=Rat.mul_inv_cancel _ n1
 have i2:=Rat.mul_inv_cancel _ n2
 rw [Rat.inv_mul_rev]
 grind
theorem zL7 {k:Nat} {f:Addr} {fd:FuncData} (F:Fun K "holds" "holds" zFA f fd) (B:Bl mg) (aH:Fn P w K mg base "raw_sum" ["numbers","point"] k (zHR K)):FnOk P w K mg base CX0 (k + 1) f fd ["row","point"] (zEM K):=by
 refine F.ok zIr ?_ ?_
 ·rintro vs H Q E ⟨ra,pa,ws,b,pv,pts,w,a,e,d,rfl,_⟩
  rfl
 rintro cdv A outer s H vs Q E hr ⟨ra,pa,ws,b,pv,pts,w,a,e,d,rfl,hra,hpa,hpt,GW,bb,q⟩
 refine ⟨_,(zAD (zAR (i:=2) zIr.nd rfl (Or.inl rfl) (zAG aH hr rfl (zAA (zBP zCI (pvj 0) zCG (zBg (zBU zAu zAE))) (zAA (pvj 1) zAB))))
  (zAH (zAU (zCH (ji0 zKf) (zAX zAO (pvj 2) zAE (fun _ _=>rfl)) (zAK (ji zAd) (zAX zAO (pvj 0) (zBU zAu zAE) (fun _ _=>rfl)) (zAX zAO (pvj 2) zAE (fun _ _=>rfl))) (zAq _))))),?_⟩
 try dsimp only [cxOf,Cx.nox,Cx.wish]
 refine ⟨_,rfl,_,rfl,_,rfl,ra,_,rfl,SqT.of hra,zBV _ _,fun p hp=>?_⟩
 have ec:cutV (rowV ws b) none (some (-1))=ws.map V.int:=zDo _ _
 rw [ec]
 have s1:=zAI hp (HO.tup (ws.map V.int))
 obtain ⟨p0,ev,b1,b2⟩:=zNb GW
 have sz:=GW.sz
 refine ⟨_,rfl,p,pa,ws,pv,pts,w,a,e,d,rfl,.inl (SqT.of zAF),s1.seq hpa,hpt.same s1,GW,fun r1 H1 s2 e1=>?_⟩
 refine ⟨_,rfl,r1,_,0,_,rfl,rfl,SqT.of e1,at0,_,rfl,_,rfl,ra,_,_,_,rfl,rfl,SqT.of (s2 _ _ (s1 _ _ hra)),zCE _ _,_,rfl,r1,_,1,_,rfl,rfl,SqT.of e1,at1,_,_,rfl,rfl,⟨bb.mono,b2.mono (by omega)⟩,_,_,rfl,rfl,?_⟩
 exact q _ H1 (s1.trans s2) (zMH GW b)
theorem zJg {k:Nat} {f:Addr} {fd:FuncData} (F:Fun K "lies_in" "lies_in" zC6 f fd) (B:Bl mg) (cD:Fn P w K mg base "holds" ["row","point"] k (zEM K)):FnOk P w K mg base CX0 (k + 1) f fd ["room","point"] (zEL K):=by
 refine F.ok zJW ?_ ?_
 ·rintro vs H Q E ⟨rm,pa,rv,pv,rows,pts,n,w,a,e,d,rfl,_⟩
  rfl
 rintro cdv A outer s H vs Q E hr ⟨rm,pa,rv,pv,rows,pts,n,w,a,e,d,rfl,hrm,hrv,hpa,hpt,W,r9,lp,n3,PO,nd,sz,q⟩
 refine ⟨_,(zAH (zAU (zAS (zDE rfl) rfl B.all_ zCn (zAA (zAr (own:=["row"]) (caps:=[(1,"point")]) (zBm (S:=zAC zC6) (N:=["room","point"]) ⟨_,rfl⟩) rfl (zBC (pvj 0)) (fun _ _ _ _=>zAJ (i:=0) (show (["row","point"]:List Str).Nodup by decide +kernel) rfl (Or.inl rfl)) (fun _ _ _ _=>(zAG cD hr rfl (zAA (pvj 0) (zAA (pvj 1) zAB))))) zAB)))),?_⟩
 try dsimp only [cxOf,Cx.nox,Cx.wish]
 have lrv:=Paired.length hrv
 refine ⟨_,rfl,rm,rfl,⟨_,hrm⟩,zBQ (K:=K) (a:=rm) (xs:=rv) (fun i ys σ H'=>∃ bs:List Bool,ys=bs.map V.bl/\bs.length=i/\(bs.all id=true ↔ ∀ r∈rows.take i,zCV r (ptQ pts))/\(∃ o,σ=[o,some (.ref pa)])/\Same H H')
  ⟨[],rfl,rfl,⟨(fun _ r hr=>by cases hr),fun _=>rfl⟩,⟨none,rfl⟩,Same.refl _⟩ (fun i ys σ H' hi ⟨bs,e1,l1,_,_,s1⟩=>⟨s1.seq hrm,by rw [e1,List.length_map]; omega⟩) (zAh (by omega)) ?_ ?_⟩
 ·rintro i x ys σ H' hi ⟨bs,rfl,lb,hb,⟨o,rfl⟩,s1⟩
  obtain ⟨r,hr',a9,rfl,ea⟩:=zAc hrv hi
  obtain ⟨w1,w2,w3⟩:=W r (List.mem_of_getElem? hr')
  refine ⟨_,rfl,_,rfl,a9,pa,r.1,r.2,pv,pts,w,a,e,d,rfl,s1 _ _ ea,s1.seq hpa,hpt.same s1,⟨w1.trans lp.symm,by omega,w2,PO,nd,sz⟩,w3,fun y H2 s2 hy=>?_⟩
  refine ⟨bs++[y],(by rw [List.map_append]; rfl),(by rw [List.length_append,lb]; rfl),?_,⟨_,rfl⟩,s1.trans s2⟩
  rw [List.all_append,Bool.and_eq_true,hb,zAa hr']
  constructor
  ·rintro ⟨z1,z2⟩ r' hr2
   rcases List.mem_append.mp hr2 with hr2 | hr2
   ·exact z1 r' hr2
   ·rw [List.mem_singleton.mp hr2]
    refine hy.mp ?_
    cases y with
    | true=>rfl
    | false=>cases z2
  ·intro z
   refine ⟨fun r' hr2=>z r' (List.mem_append_left _ hr2),?_⟩
   have:=hy.mpr (z r (List.mem_append_right _ List.mem_cons_self))
   rw [this]
   rfl
 rintro ys σ H' ⟨bs,rfl,lb,hb,⟨o,rfl⟩,s1⟩ l hl
 rw [List.take_of_length_le (by omega)] at hb
 exact ⟨l,bs,rfl,SqL.of zAF,q _ _ (s1.trans (zAI hl _)) hb⟩
end
structure LowQ (rows:List Row3) (q:Nat->Rat) (x:Rat):Prop where
 all:∀ l∈rows,l.2.1 < 0->dotQ l.1 q - (l.2.2:Rat)<=-(l.2.1:Rat) * x
 one:∃ l∈rows,l.2.1 < 0/\dotQ l.1 q - (l.2.2:Rat) = -(l.2.1:Rat) * x
theorem zFp {H:Hp} {lv:List V} {n:Nat} {bs:List (Int × Int)} {m:MD} {lo hi:Int} {safe:List (List Int × Int)} {k j:Nat} (h:zCT H lv (zFX n bs m lo hi safe k)) (hj:j<=k):∃ a rv,atI lv (j:Int)=some (.ref a)/\H a=some (.lst rv)/\zAk H rv (zCh n bs m lo hi safe j):=by
 have llv:lv.length=k + 1:=(Paired.length h).trans (by unfold zFX; rw [List.length_map,List.length_range])
 obtain ⟨v,hv⟩:∃ v,lv[j]? = some v:=⟨_,List.getElem?_eq_getElem (by omega)⟩
 obtain ⟨rows,hrows,a,rv,rfl,ea,era⟩:=zAc h hv
 have erows:rows=zCh n bs m lo hi safe j:=by
  unfold zFX at hrows
  rw [List.getElem?_map,List.getElem?_range (by omega)] at hrows
  exact (Option.some.inj hrows).symm
 exact ⟨a,rv,zDJ hv,ea,erows ▸ era⟩
theorem okTo.less {n:Nat} {bs:List (Int × Int)} {m:MD} {lo hi:Int} {safe:List (List Int × Int)} {k j:Nat} (h:okTo n bs m lo hi safe k) (hj:j<=k):okTo n bs m lo hi safe j:=fun i hi=>h i (by omega)
theorem zNT:∀ k:Nat,bK k=wK k + 104
 | 0=>rfl
 | k + 1=>by
  have:=zNT k
  show bK k + wK k + 10=2 * wK k + 10 + 104
  omega
theorem zMN (n:Nat) (q:Nat->Rat):dotQ (List.replicate n 0) q=0:=by
 unfold dotQ
 rw [zBG (g:=fun _=>0) fun j hj=>?_,zEW]
 rw [List.length_replicate] at hj
 rw [List.getD_eq_getElem?_getD,List.getElem?_replicate_of_lt hj]
 show ((0:Int):Rat) * q j=0
 have:((0:Int):Rat)=0:=rfl
 rw [this,Rat.zero_mul]
theorem zJA {t b t' b':Int} (hb:0 < b) (hb':0 < b'):t * b' < t' * b ↔ valQ (t,b) < valQ (t',b'):=by
 have d:=zBf hb
 have d':=zBf hb'
 have e:=zCp (p:=(t,b)) hb
 have e':=zCp (p:=(t',b')) hb'
 have dd:=Rat.mul_pos d d'
 dsimp only at e e'
 constructor
 ·intro z
  have z':((t * b':Int):Rat) < ((t' * b:Int):Rat):=by exact_mod_cast z
  rw [Rat.intCast_mul,Rat.intCast_mul,<- e,<- e'] at z'
  refine Rat.lt_of_mul_lt_mul_right (c:=(b:Rat) * (b':Rat)) ?_ (Rat.le_of_lt dd)
  grind
 ·intro z
  have z':=Rat.mul_lt_mul_of_pos_right z dd
  have z2:((t * b':Int):Rat) < ((t' * b:Int):Rat):=by
   rw [Rat.intCast_mul,Rat.intCast_mul,<- e,<- e']
   grind
  exact_mod_cast z2
inductive zFl (C CM:Addr) (K:PySem.W.Frag) (vs:List V) (H:Hp) (Q:VK) (E:XK):Prop
 | mk (o kp km sa pa:Addr) (n k a e d:Nat) (bs:List (Int × Int)) (m:MD) (pv mv sv qv:List V) (lo hi:Int) (safe:List (List Int × Int)) (pts:List (Int × Int)) (lf:Int) (_:vs=[.ref o,.ref sa,.int lo,.int hi,.int lf,.ref pa]) (_:lf=((k + 1:Nat):Int)) (_:zA5 C CM H o n bs [m] pv mv kp km) (_:ThOk n bs [m]) (_:m.rows=[]) (_:zCo n bs m lo hi safe) (_:H sa=some (.lst sv)) (_:zAk H sv safe) (_:k + 1<=6) (_:okTo n bs m lo hi safe (k + 1)) (_:SqL K H pa qv) (_:PtV H qv pts) (_:pts.length=n) (_:(∀ p∈pts,0 < p.2/\Bd a p.1/\Bd e p.2)) (_:e * n<=d) (_:110<=a) (_:wK (k + 1) + a + d + 30<=7000) (_:((¬ ∀ r∈zCh n bs m lo hi safe (k + 1),zCV r (ptQ pts))->∀ H',Same H H'->Q .non H')) (_:((∀ r∈zCh n bs m lo hi safe (k + 1),zCV r (ptQ pts))->∀ r (t b:Int) H',Same H H'->H' r=some (.tup [.int t,.int b])->0 < b->LowQ (zC2 n bs m lo hi (zCh n bs m lo hi safe k)) (ptQ pts) (valQ (t,b))->Bd (wK k + a + d + 10) t->Bd (wK k + d + 6) b->Q (.ref r) H')):zFl C CM K vs H Q E
section
variable {P:Program} {w:World} {K:PySem.W.Frag} {mg:Str->Option Value} {base:Heap} {cM cP:Addr}
abbrev zEA:Stmt:=top 51
theorem zDN:zAP ["thing","safe","low","high","turns","point","rooms","steering","row","bound"] ["thing","safe","low","high","turns","point"] (zAC zEA):=.a
variable {ac ae:Addr} (af:ClsF K mg "Mode" ac) (ah:zCW K ac) (ag:ClsF K mg "Thing" ae) (ai:zBs K ae)
include af ah ag ai
theorem zKs {k:Nat} {f:Addr} {fd:FuncData} (F:Fun K "holder" "holder" zEA f fd) (B:Bl mg) (cE:Fn P w K mg base "held_rooms" ["thing","safe","low","high","turns"] k (zMZ (zFz ae ac cM cP))) (cF:Fn P w K mg base "lies_in" ["room","point"] k (zEL K)) (ax:FnD P w K mg base "fraction" ["top","bottom"] k zCw (.int 1)) (aG:Fn P w K mg base "steering_rows" ["thing","room","low","high"] k (zC3 ae ac)) (cG:Fn P w K mg base "divided_sum" ["numbers","point","add","divisor"] k (zIo K)) (aE:Fn P w K mg base "under" ["one","other"] k zFy):FnOk P w K mg base CX0 (k + 1) f fd ["thing","safe","low","high","turns","point"] (zFl ae ac K):=by
 refine F.ok zDN ?_ ?_
 ·rintro vs H Q E ⟨o,kp,km,sa,pa,n,k,a,e,d,bs,m,pv,mv,sv,qv,lo,hi,safe,pts,lf,rfl,_⟩
  rfl
 rintro cdv A outer s H vs Q E hr ⟨o,kp,km,sa,pa,n,k,a,e,d,bs,m,pv,mv,sv,qv,lo,hi,safe,pts,lf,rfl,elf,TA,TO,r0,G,hsa,hsv,k6,ok,hpa,hpt,lp,PO,nd,a1,sz,qn,q⟩
 refine ⟨_,(zAD (zAR (i:=6) zDN.nd rfl (Or.inl rfl) (zAG cE hr rfl (zAA (pvj 0) (zAA (pvj 1) (zAA (pvj 2) (zAA (pvj 3) (zAA (pvj 4) zAB)))))))
  (zAD (zBc (zB9 (zBF (zAG cF hr rfl (zAA (zAX zAQ (pvj 6) (pvj 4) (fun _ _=>rfl)) (zAA (pvj 5) zAB))))) (zAH (zAU zHZ)) zAj)
  (zAD (zAR (i:=7) zDN.nd rfl (Or.inl rfl) (zDY ax hr rfl (zAA (pvj 2) zAB)))
  (zAD (zBy PassesOwn.never rfl (zBC (zAG aG hr rfl (zAA (pvj 0) (zAA (zAX zAQ (pvj 6) (zAK (ji0 zCR) (pvj 4) zAE) (fun _ _=>rfl)) (zAA (pvj 2) (zAA (pvj 3) zAB)))))) (zAJ (i:=8) zDN.nd rfl (Or.inl rfl)) (zAH (zBc (zAx (ji0 zIA) (zAX zAO (pvj 8) (zBU zAu zAE) (fun _ _=>rfl)) zAE (zAq _)) (zAD (zAR (i:=9) zDN.nd rfl (Or.inl rfl) (zAG cG hr rfl (zAA (zBP zCI (pvj 8) zCG (zBg (zBU zAu zAE))) (zAA (pvj 5) (zAA (zBU zAu (zAX zAO (pvj 8) (zBU zAu zAE) (fun _ _=>rfl))) (zAA (zBU zAu (zAX zAO (pvj 8) (zBU zAu zAE) (fun _ _=>rfl))) zAB))))))
    (zAH (zBc (zBF (zAG aE hr rfl (zAA (pvj 7) (zAA (pvj 9) zAB)))) (zAH (zAR (i:=7) zDN.nd rfl (Or.inl rfl) (pvj 9))) zAj))) zAj)))
  (zAH (zAU (pvj 7))))))),?_⟩
 try dsimp only [cxOf,Cx.nox,Cx.wish]
 subst elf
 have n1:=G.n1
 have n3:=G.n3
 refine ⟨_,rfl,_,rfl,_,rfl,_,rfl,_,rfl,o,kp,km,sa,n,bs,[m],pv,mv,sv,lo,hi,k + 1,safe,rfl,TA,TO,hsa,hsv,.inr ⟨m,rfl,⟨rfl,r0⟩,G,k6,fun rl lv H1 s1 _ erl hlv _=>?_,fun no=>absurd ok no⟩⟩
 have six:=zGb (k:=k) (by omega)
 have six1:=zGb (k:=k + 1) (by omega)
 have wk1:wK (k + 1)=2 * wK k + 10:=rfl
 have bwk:=zNT k
 have bwk1:=zNT (k + 1)
 obtain ⟨a1,rv1,at1',ea1,hr1⟩:=zFp hlv (Nat.le_refl _)
 obtain ⟨a0,rv0,at0',ea0,hr0⟩:=zFp hlv (Nat.le_succ k)
 have HB:=G.held k
 have HB1:=G.held (k + 1)
 have l60:=ok (k + 1) (Nat.le_refl _)
 have l60':=ok k (Nat.le_succ k)
 have SG1:=s1
 refine ⟨_,rfl,_,rfl,rl,_,_,_,rfl,rfl,SqL.of erl,at1',_,rfl,a1,pa,rv1,qv,_,pts,n,wK (k + 1),a,e,d,rfl,SqL.of ea1,hr1,s1.seq hpa,PtV.same s1 hpt,(fun r hr=>⟨(HB1 r hr).1,(HB1 r hr).2.1,(HB1 r hr).2.2.mono (by omega)⟩),(by omega),lp,n3,PO,(by rw [lp]; exact nd),(by omega),fun y H2 s2 hy=>?_⟩
 refine ⟨_,rfl,?_⟩
 by_cases c:∀ r∈zCh n bs m lo hi safe (k + 1),zCV r (ptQ pts)
 case neg=>
  have y0:y=false:=by
   cases y with
   | false=>rfl
   | true=>exact absurd (hy.mp rfl) c
  subst y0
  refine zCU rfl ?_
  exact qn c _ (s1.trans s2)
 have y1:y=true:=hy.mpr c
 subst y1
 refine zB0 rfl ?_
 refine ⟨_,rfl,lo,1,rfl,(by decide),Bd.lit,fun st H3 s3 est=>?_⟩
 have s13:=s1.trans (s2.trans s3)
 have l1:lowB lo 1=1/\lowT lo 1=lo:=by
  have h:=zHf (t:=lo) (b:=1) (by decide)
  have p:=zFt (t:=lo) (b:=1) (by decide)
  have b1:Bd 1 (lowB lo 1):=zDp (n:=1) Bd.lit
  have b2:(lowB lo 1).natAbs < 2 ^ 1:=b1
  have e1:lowB lo 1=1:=by omega
  rw [e1] at h
  exact ⟨e1,by omega⟩
 rw [l1.1,l1.2] at est
 have at0'':atI lv (((k + 1:Nat):Int) - 1)=some (.ref a0):=by rw [show ((k + 1:Nat):Int) - 1=(k:Int) by omega]; exact at0'
 have W3r:=G.three HB (by omega) (by have:=zHM k; omega)
 refine ⟨_,rfl,_,rfl,_,rfl,_,_,rfl,rfl,rl,_,_,_,rfl,rfl,SqL.of ((s2.trans s3) _ _ erl),at0'',_,rfl,_,rfl,o,kp,km,a0,n,bs,m,pv,mv,rv0,lo,hi,_,rfl,zA5.same s13 TA,TO,G.mbd,(fun x hx=>(G.st x hx).mono),(fun b hb=>⟨((G.bb b hb).1).mono,((G.bb b hb).2).mono⟩),(s2.trans s3) _ _ ea0,zAk.same (s2.trans s3) hr0,HB.ok (by omega) (by omega),l60',(fun r hr x hx=>?_),fun l2 lv2 J1 z1 _ el2 hl2=>?_⟩
 ·obtain ⟨j,_,rfl⟩:=List.mem_map.mp hx
  exact (zJJ (HB r hr).2.1 G.pu (by have:=(HB r hr).1; omega) j).mono (by omega)
 rw [zNr n3] at hl2
 have sJ:=s13.trans z1
 have LAST:(List.replicate n 0,-1,-lo)∈zC2 n bs m lo hi (zCh n bs m lo hi safe k):=List.mem_append_right _ (List.mem_cons_of_mem _ List.mem_cons_self)
 have l62:(zC2 n bs m lo hi (zCh n bs m lo hi safe k)).length<=62:=by
  unfold zC2
  rw [List.length_append,List.length_map]
  show (zCh n bs m lo hi safe k).length + 2<=62
  omega
 generalize hA:zC2 n bs m lo hi (zCh n bs m lo hi safe k)=A3 at *
 have lx:lv2.length=A3.length:=(Paired.length hl2).trans (List.length_map _)
 have q0:valQ (lo,1)=(lo:Rat):=zEV (show (0:Int) < 1 by decide) (by show (lo:Rat)=(lo:Rat) * ((1:Int):Rat); have:((1:Int):Rat)=1:=rfl; rw [this,Rat.mul_one])
 refine ⟨l2,rfl,⟨_,SqL.of el2⟩,zED (K:=K) (a:=l2) (xs:=lv2)
  (fun i σ H'=>∃ (sr:Addr) (tt bb:Int) (o8 o9:Option V),σ=[some (.ref o),some (.ref sa),some (.int lo),some (.int hi),some (.int ((k + 1:Nat):Int)),some (.ref pa),some (.ref rl),some (.ref sr),o8,o9]/\Same J1 H'/\H' sr=some (.tup [.int tt,.int bb])/\0 < bb/\Bd (wK k + a + d + 10) tt/\Bd (wK k + d + 6) bb/\(∀ l∈A3.take i,l.2.1 < 0->dotQ l.1 (ptQ pts) - (l.2.2:Rat)<=-(l.2.1:Rat) * valQ (tt,bb))/\(valQ (tt,bb)=(lo:Rat)\/∃ l∈A3.take i,l.2.1 < 0/\dotQ l.1 (ptQ pts) - (l.2.2:Rat) = -(l.2.1:Rat) * valQ (tt,bb)))
  ⟨st,lo,1,none,none,rfl,Same.refl _,z1 _ _ est,by decide,G.lo.mono (by omega),Bd.mono (i:=1) (n:=1) Bd.lit (by omega),(fun l hl=>by cases hl),.inl q0⟩ (fun i σ H' _ ⟨_,_,_,_,_,_,s9,_⟩=>SqL.of (s9 _ _ el2)) ?_ ?_⟩
 ·rintro i x σ M0 hix ⟨sr,tt,bb,o8,o9,rfl,sm,esr,bb0,btt,bbb,hall,hone⟩
  obtain ⟨r,ra,hr3,rfl,er0⟩:=zGl hl2 hix
  have eR:=sm _ _ er0
  obtain ⟨x1,x2,x3,x4⟩:=W3r r (List.mem_of_getElem? hr3)
  refine ⟨_,rfl,_,rfl,ra,_,_,_,rfl,rfl,SqT.of eR,zIg _ _ _,_,_,rfl,rfl,_,rfl,?_⟩
  by_cases cn:r.2.1 < 0
  case neg=>
   refine zB0 (decide_eq_false cn) ?_
   refine ⟨sr,tt,bb,_,_,rfl,sm,esr,bb0,btt,bbb,fun l hl ln=>?_,?_⟩
   ·rw [zAa hr3] at hl
    rcases List.mem_append.mp hl with hl | hl
    ·exact hall l hl ln
    ·rw [List.mem_singleton.mp hl] at ln
     exact absurd ln cn
   ·rcases hone with h | ⟨l,hl,h⟩
    ·exact .inl h
    ·exact .inr ⟨l,by rw [zAa hr3]; exact List.mem_append_left _ hl,h⟩
  refine zCU (decide_eq_true cn) ?_
  refine ⟨_,rfl,_,rfl,_,rfl,ra,_,rfl,SqT.of eR,(zGM _ _ _).2,fun p1 hp1=>?_⟩
  rw [(zGM _ _ _).1]
  obtain ⟨L1,hhL1,yL1,ep1⟩:=zAV (HO.tup (r.1.map V.int)) hp1
  rw [hhL1]
  have SL1:=sm.trans yL1
  replace eR:=(yL1 _ _ eR)
  replace esr:=(yL1 _ _ esr)
  have sM:=sJ.trans SL1
  refine ⟨_,rfl,_,rfl,_,rfl,ra,_,_,_,rfl,rfl,SqT.of eR,zNY _ _ _,_,rfl,_,rfl,_,rfl,ra,_,_,_,rfl,rfl,SqT.of eR,zIg _ _ _,_,rfl,p1,pa,r.1,qv,pts,wK k + 5,a,e,d,-r.2.2,-r.2.1,rfl,.inl (SqT.of ep1),sM.seq hpa,PtV.same sM hpt,⟨x1.trans lp.symm,by omega,x2,PO,by rw [lp]; exact nd,by omega⟩,x4.neg.mono (by omega),(by omega),x3.neg.mono (by omega),fun br t' b' M2 s2' ebr b0' ev bt' bb'=>?_⟩
  have SL2:=SL1.trans s2'
  replace esr:=(s2' _ _ esr)
  refine ⟨_,rfl,_,rfl,sr,br,tt,bb,t',b',rfl,⟨esr,ebr,bb0,b0',btt.mono (by omega),bbb.mono (by omega),bt'.mono (by omega),bb'.mono (by omega)⟩,_,rfl,?_⟩
  have nz:=zHD cn
  have ev':dotQ r.1 (ptQ pts) - (r.2.2:Rat) = -(r.2.1:Rat) * valQ (t',b'):=by
   rw [Rat.intCast_neg,Rat.intCast_neg] at ev
   grind
  by_cases cu:tt * b' < t' * bb
  ·refine zCU (decide_eq_true cu) ?_
   have lt:=(zJA bb0 b0').mp cu
   refine ⟨_,rfl,br,t',b',_,_,rfl,SL2,ebr,b0',bt'.mono (by omega),bb'.mono (by omega),fun l hl ln=>?_,.inr ⟨r,by rw [zAa hr3]; exact List.mem_append_right _ List.mem_cons_self,cn,ev'⟩⟩
   rw [zAa hr3] at hl
   rcases List.mem_append.mp hl with hl | hl
   ·have h:=hall l hl ln
    have ln':=zHD ln
    have:=Rat.mul_le_mul_of_nonneg_left (Rat.le_of_lt lt) (Rat.le_of_lt ln')
    grind
   ·rw [List.mem_singleton.mp hl]
    rw [ev']
    exact Rat.le_refl
  ·refine zB0 (decide_eq_false cu) ?_
   have le:valQ (t',b')<=valQ (tt,bb):=Rat.not_lt.mp fun z=>cu ((zJA bb0 b0').mpr z)
   refine ⟨sr,tt,bb,_,_,rfl,SL2,esr,bb0,btt,bbb,fun l hl ln=>?_,?_⟩
   ·rw [zAa hr3] at hl
    rcases List.mem_append.mp hl with hl | hl
    ·exact hall l hl ln
    ·rw [List.mem_singleton.mp hl,ev']
     exact Rat.mul_le_mul_of_nonneg_left le (Rat.le_of_lt nz)
   ·rcases hone with h | ⟨l,hl,h⟩
    ·exact .inl h
    ·exact .inr ⟨l,by rw [zAa hr3]; exact List.mem_append_left _ hl,h⟩
 rintro σ M0 ⟨sr,tt,bb,o8,o9,rfl,sm,esr,bb0,btt,bbb,hall,hone⟩
 rw [lx,List.take_length] at hall hone
 refine ⟨_,rfl,q c sr tt bb M0 (sJ.trans sm) esr bb0 ⟨hall,?_⟩ btt bbb⟩
 rcases hone with h | h
 ·refine ⟨_,LAST,(show (-1:Int) < 0 by decide),?_⟩
  rw [h,zMN,Rat.intCast_neg,Rat.intCast_neg]
  have:((1:Int):Rat)=1:=rfl
  rw [this]
  grind
 ·exact h
end
theorem zLq {K:PySem.W.Frag} {H H':Hp} {a:Addr} {xs:List V} (s:Same H H') (h:SqE K H a xs):SqE K H' a xs:=h.elim (fun z=>.inl (s.seqT z)) fun z=>.inr (s.seq z)
inductive zHS (vs:List V) (H:Hp) (Q:VK) (E:XK):Prop
 | mk (p q:Addr) (a b c d:Int) (A B C D X:Nat) (_:vs=[.ref p,.ref q]) (_:H p=some (.tup [.int a,.int b])) (_:H q=some (.tup [.int c,.int d])) (_:0 < b) (_:0 < d) (_:Bd A a) (_:Bd B b) (_:Bd C c) (_:Bd D d) (_:A + D < X) (_:C + B < X) (_:A<=7900) (_:C<=7900) (_:B + D<=7900) (_:∀ r (t s:Int) H',Same H H'->H' r=some (.tup [.int t,.int s])->0 < s->valQ (t,s)=valQ (a,b) + valQ (c,d)->Bd X t->Bd (B + D) s->Q (.ref r) H'):zHS vs H Q E
def sumE (e:Nat->Nat):Nat->Nat
 | 0=>0
 | n + 1=>sumE e n + e n
structure GA (ws:List Int) (pts:List (Int × Int)) (c e T:Nat->Nat):Prop where
 len:ws.length=pts.length
 n3:pts.length<=3
 ok:∀ (j:Nat) (wv:Int) (p:Int × Int),ws[j]? = some wv->pts[j]? = some p->0 < p.2/\Bd 7500 wv/\Bd 7500 p.1/\Bd (c j) (wv * p.1)/\Bd (e j) p.2
 st:∀ j,j < pts.length->T j + e j < T (j + 1)/\c j + (sumE e j + 1) < T (j + 1)
 sz:∀ j,j<=pts.length->T j<=7500/\sumE e j<=7500/\c j<=7500
theorem zGd (e:Nat):∀ n:Nat,sumE (fun _=>e) n=e * n
 | 0=>rfl
 | n + 1=>by
  show sumE (fun _=>e) n + e=e * (n + 1)
  rw [zGd e n,Nat.mul_succ]
theorem GQ.ga {ws:List Int} {pts:List (Int × Int)} {w a e d:Nat} (G:GQ ws pts w a e d):GA ws pts (fun _=>w + a) (fun _=>e) (fun i=>w + a + e * i + i + 1):=by
 have n3:=G.n3
 have sz:=G.sz
 have nd:=G.nd
 refine ⟨G.len,G.n3,fun j wv p hw hp=>?_,fun j hj=>?_,fun j hj=>?_⟩
 ·obtain ⟨h1,h2,h3⟩:=G.ok p (List.mem_of_getElem? hp)
  have h4:=G.bw wv (List.mem_of_getElem? hw)
  exact ⟨h1,h4.mono (by omega),h2.mono (by omega),h4.mul h2,h3⟩
 ·rw [zGd]
  have em:e * (j + 1)=e * j + e:=Nat.mul_succ e j
  exact ⟨by show w + a + e * j + j + 1 + e < w + a + e * (j + 1) + (j + 1) + 1; omega,by show w + a + (e * j + 1) < w + a + e * (j + 1) + (j + 1) + 1; omega⟩
 ·rw [zGd]
  have:=Nat.le_trans (Nat.mul_le_mul_left e hj) nd
  exact ⟨by show w + a + e * j + j + 1<=7500; omega,by omega,by omega⟩
inductive zEh (K:PySem.W.Frag) (vs:List V) (H:Hp) (Q:VK) (E:XK):Prop
 | mk (na pa:Addr) (ws:List Int) (pv:List V) (pts:List (Int × Int)) (c e T:Nat->Nat) (_:vs=[.ref na,.ref pa]) (_:SqE K H na (ws.map V.int)) (_:SqL K H pa pv) (_:PtV H pv pts) (_:GA ws pts c e T) (_:∀ r (t s:Int) H',Same H H'->H' r=some (.tup [.int t,.int s])->0 < s->valQ (t,s)=dotQ ws (ptQ pts)->Bd (T pts.length) t->Bd (sumE e pts.length + 1) s->Q (.ref r) H'):zEh K vs H Q E
theorem zMs {a b c d:Int} (hb:0 < b) (hd:0 < d):valQ (a * d + c * b,b * d)=valQ (a,b) + valQ (c,d):=by
 have e:=zCp (p:=(a,b)) hb
 have e':=zCp (p:=(c,d)) hd
 dsimp only at e e'
 refine zEV (Int.mul_pos hb hd) ?_
 show ((a * d + c * b:Int):Rat)=_ * ((b * d:Int):Rat)
 rw [Rat.intCast_add,Rat.intCast_mul,Rat.intCast_mul,Rat.intCast_mul,<- e,<- e']
 grind
theorem zJ9 {w a b:Int} (hb:0 < b):valQ (w * a,b)=(w:Rat) * valQ (a,b):=by
 have e:=zCp (p:=(a,b)) hb
 dsimp only at e
 refine zEV hb ?_
 show ((w * a:Int):Rat)=_ * (b:Rat)
 rw [Rat.intCast_mul,<- e]
 grind
theorem zMq:valQ (0,1)=0:=zEV (by decide) (by
 show ((0:Int):Rat)=0 * ((1:Int):Rat)
 rw [Rat.zero_mul]
 rfl)
theorem zHe {t b:Int} (h:0 < b):0 < lowB t b/\valQ (lowT t b,lowB t b)=valQ (t,b):=by
 obtain ⟨h1,h2⟩:=zKA (t:=t) (b:=b) (by omega)
 exact ⟨h1,h2⟩
theorem zKB {ws:List Int} {q:Nat->Rat} {t s b:Int} (h:0 < s) (e:valQ (t,s)=dotQ ws q):decide (t<=b * s)=true ↔ zCV (ws,b) q:=by
 have d:=zBf h
 have m:=zCp (p:=(t,s)) h
 dsimp only at m
 rw [e] at m
 rw [decide_eq_true_iff]
 unfold zCV
 constructor
 ·intro z
  have z':(t:Rat)<=((b * s:Int):Rat):=by exact_mod_cast z
  rw [<- m,Rat.intCast_mul] at z'
  exact Rat.le_of_mul_le_mul_right z' d
 ·intro z
  have z':=Rat.mul_le_mul_of_nonneg_right z (Rat.le_of_lt d)
  rw [m,<- Rat.intCast_mul] at z'
  exact_mod_cast z'
section
variable {P:Program} {w:World} {K:PySem.W.Frag} {mg:Str->Option Value} {base:Heap} {cM cP:Addr}
abbrev zCZ:Stmt:=top 55
theorem zFK:zAP ["_law_one","_law_other"] ["_law_one","_law_other"] (zAC zCZ):=.a
abbrev zCz:Stmt:=top 56
theorem zF2:zAP ["_law_top","_law_bottom","_law_share"] ["_law_top","_law_bottom"] (zAC zCz):=.a
abbrev zD7:Stmt:=top 57
theorem zKR:zAP ["_law_one","_law_other"] ["_law_one","_law_other"] (zAC zD7):=.a
abbrev zDT:Stmt:=top 58
theorem zDM:zAP ["_law_numbers","_law_values","_law_found","_law_number_here","_law_value"] ["_law_numbers","_law_values"] (zAC zDT):=.a
abbrev zDS:Stmt:=top 59
theorem zGg:zAP ["_law_row","_law_point_here","_law_value"] ["_law_row","_law_point_here"] (zAC zDS):=.a
abbrev zDm:Stmt:=top 60
theorem zKS:zAP ["_law_room","_law_point_here"] ["_law_room","_law_point_here"] (zAC zDm):=.a
variable {ac ae:Addr} (af:ClsF K mg "Mode" ac) (ah:zCW K ac) (ag:ClsF K mg "Thing" ae) (ai:zBs K ae)
include af ah ag ai
theorem zHb {k:Nat} {f:Addr} {fd:FuncData} (F:Fun K "_law_divisor" "_law_divisor" zCZ f fd) (B:Bl mg):FnOk P w K mg base CX0 (k + 1) f fd ["_law_one","_law_other"] zGz:=by
 refine F.ok zFK ?_ ?_
 ·rintro vs H Q E ⟨a,b,rfl,_⟩
  rfl
 rintro cdv A outer s H vs Q E hr ⟨a,b,rfl,q⟩
 refine ⟨_,(zAD (zIv PassesOwn.never (zAx zH9 (pvj 1) zAE (zAq _)) (zAH (zNz (i:=0) (j:=1) rfl zFK.nd rfl rfl (by decide) rfl rfl (zAA (pvj 1) (zAA (zAK (ji zAz) (pvj 0) (pvj 1)) zAB)) rfl)))
  (zAH (zAU (zAS zJG rfl B.abs_ zHt (zAA (pvj 0) zAB))))),?_⟩
 try dsimp only [cxOf,Cx.nox,Cx.wish]
 refine zIi (fun σ H'=>∃ c r:Int,σ=[some (.int c),some (.int r)]/\H'=H/\Int.gcd c r=Int.gcd a b) (fun σ _=>match σ with | [_,some (.int r)]=>r.natAbs | _=>0) ⟨a,b,rfl,rfl,rfl⟩ ?_ ?_
 ·rintro σ H' ⟨c,r,rfl,rfl,hg⟩
  refine ⟨_,rfl,rfl,_,rfl,?_⟩
  by_cases z0:r=0
  ·subst z0
   refine zNF rfl ?_
   refine ⟨_,rfl,c,rfl,?_⟩
   rw [zOX]
   rw [Int.gcd_zero_right] at hg
   rw [hg]
   exact q
  ·have ne:¬ (V.int r=V.int 0):=fun e=>z0 (by injection e)
   refine zCU (zF8 z0) ?_
   refine ⟨_,rfl,_,rfl,_,rfl,_,_,rfl,rfl,z0,_,_,rfl,?_⟩
   exact ⟨⟨r,c.fmod r,rfl,rfl,by rw [zI6]; exact hg⟩,zLJ z0⟩
 ·rintro σ H' Q1 Q2 h ⟨v,e,sc,k,ek,q1⟩
  exact ⟨v,e,sc,k,ek,h _ _ q1⟩
theorem zIE {k:Nat} {f:Addr} {fd:FuncData} (F:Fun K "_law_lowest" "_law_lowest" zCz f fd) (B:Bl mg) (cH:Fn P w K mg base "_law_divisor" ["_law_one","_law_other"] k zGz):FnOk P w K mg base CX0 (k + 1) f fd ["_law_top","_law_bottom"] zDh:=by
 refine F.ok zF2 ?_ ?_
 ·rintro vs H Q E ⟨t,b,rfl,_⟩
  rfl
 rintro cdv A outer s H vs Q E hr ⟨t,b,rfl,b0,bb,q⟩
 refine ⟨_,(zAD (zAR (i:=2) zF2.nd rfl (Or.inl rfl) (zAG cH hr rfl (zAA (pvj 0) (zAA (pvj 1) zAB))))
  (zAH (zAU (zCA (zAA (zAK (ji zBh) (pvj 0) (pvj 2)) (zAA (zAK (ji zBh) (pvj 1) (pvj 2)) zAB)))))),?_⟩
 try dsimp only [cxOf,Cx.nox,Cx.wish]
 refine ⟨_,rfl,_,rfl,_,_,rfl,?_⟩
 have nb:b≠0:=by omega
 have ec:(Int.gcd t b:Int)=cm t b:=(zEz b0).symm
 rw [ec]
 refine ⟨_,rfl,_,rfl,_,_,rfl,rfl,⟨zNS nb,zNW bb nb⟩,_,rfl,_,rfl,_,_,rfl,rfl,⟨zNS nb,zNW bb nb⟩,sz2,fun r hr'=>?_⟩
 exact q r _ (zAI hr' _) zAF
theorem zKl {k:Nat} {f:Addr} {fd:FuncData} (F:Fun K "_law_plus" "_law_plus" zD7 f fd) (B:Bl mg) (au:Fn P w K mg base "_law_lowest" ["_law_top","_law_bottom"] k zDh):FnOk P w K mg base CX0 (k + 1) f fd ["_law_one","_law_other"] zHS:=by
 refine F.ok zKR ?_ ?_
 ·rintro vs H Q E ⟨p,q,a,b,c,d,A,B,C,D,X,rfl,_⟩
  rfl
 rintro cdv A outer s H vs Q E hr ⟨p,q,a,b,c,d,A,B,C,D,X,rfl,ep,eq,b0,d0,ba,bb,bc,bd,x1,x2,sA,sC,sz,qq⟩
 refine ⟨_,(zAH (zAU (zAG au hr rfl (zAA (zAK (ji0 zAt) (zAK (ji zAd) (zAX zAO (pvj 0) zAE (fun _ _=>rfl)) (zAX zAO (pvj 1) zAE (fun _ _=>rfl))) (zAK (ji zAd) (zAX zAO (pvj 1) zAE (fun _ _=>rfl)) (zAX zAO (pvj 0) zAE (fun _ _=>rfl)))) (zAA (zAK (ji zAd) (zAX zAO (pvj 0) zAE (fun _ _=>rfl)) (zAX zAO (pvj 1) zAE (fun _ _=>rfl))) zAB))))),?_⟩
 try dsimp only [cxOf,Cx.nox,Cx.wish]
 have bt:Bd X (a * d + c * b):=((((ba.mul bd).mono (m:=X - 1) (by omega)).add ((bc.mul bb).mono (by omega)))).mono (by omega)
 have bs:Bd (B + D) (b * d):=bb.mul bd
 refine ⟨_,rfl,p,_,0,_,rfl,rfl,SqT.of ep,at0,_,rfl,q,_,1,_,rfl,rfl,SqT.of eq,at1,_,_,rfl,rfl,⟨ba.mono (by omega),bd.mono (by omega)⟩,_,rfl,q,_,0,_,rfl,rfl,SqT.of eq,at0,_,rfl,p,_,1,_,rfl,rfl,SqT.of ep,at1,_,_,rfl,rfl,⟨bc.mono (by omega),bb.mono (by omega)⟩,_,_,rfl,rfl,_,rfl,p,_,1,_,rfl,rfl,SqT.of ep,at1,_,rfl,q,_,1,_,rfl,rfl,SqT.of eq,at1,_,_,rfl,rfl,⟨bb.mono (by omega),bd.mono (by omega)⟩,_,_,rfl,Int.mul_pos b0 d0,bs.mono (by omega),fun r H1 s1 e1=>?_⟩
 obtain ⟨l0,lv⟩:=zHe (t:=a * d + c * b) (Int.mul_pos b0 d0)
 exact qq r _ _ H1 s1 e1 l0 (lv.trans (zMs b0 d0)) (zDz bt) (zDp bs)
theorem zJl {k:Nat} {f:Addr} {fd:FuncData} (F:Fun K "_law_along" "_law_along" zDT f fd) (B:Bl mg) (aB:Fn P w K mg base "_law_plus" ["_law_one","_law_other"] k zHS):FnOk P w K mg base CX0 (k + 1) f fd ["_law_numbers","_law_values"] (zEh K):=by
 refine F.ok zDM ?_ ?_
 ·rintro vs H Q E ⟨na,pa,ws,pv,pts,cc,e,TT,rfl,_⟩
  rfl
 rintro cdv A outer s H vs Q E hr ⟨na,pa,ws,pv,pts,cc,e,TT,rfl,hna,hpa,hpt,GW,q⟩
 refine ⟨_,(zAD (zAR (i:=2) zDM.nd rfl (Or.inl rfl) (zCA (zAA zAE (zAA zAE zAB))))
  (zAD (zBy PassesOwn.never rfl (zFB rfl B.zip_ (zAA (pvj 0) (zAA (pvj 1) zAB))) (zDD rfl (zAY (zAJ (i:=3) zDM.nd rfl (Or.inl rfl)) (zAY (zAJ (i:=4) zDM.nd rfl (Or.inl rfl)) zCQ))) (zAH (zAR (i:=2) zDM.nd rfl (Or.inl rfl) (zAG aB hr rfl (zAA (pvj 2) (zAA (zCA (zAA (zAK (ji zAd) (pvj 3) (zAX zAO (pvj 4) zAE (fun _ _=>rfl))) (zAA (zAX zAO (pvj 4) zAE (fun _ _=>rfl)) zAB))) zAB))))))
  (zAH (zAU (pvj 2))))),?_⟩
 try dsimp only [cxOf,Cx.nox,Cx.wish]
 have lp:pv.length=pts.length:=Paired.length hpt
 have n3:=GW.n3
 have hlen:(ws.map V.int).length<=pv.length:=by rw [List.length_map,GW.len,lp]; exact Nat.le_refl _
 refine ⟨sz2,fun f0 hf0=>?_⟩
 obtain ⟨J,hh0,y0,ef0⟩:=zAV (HO.tup [V.int 0,V.int 1]) hf0
 rw [hh0]
 refine ⟨_,rfl,_,rfl,na,pa,rfl,zI9 (xs:=ws.map V.int) (ys:=pv) (zLq y0 hna) (y0.seq hpa)
  (fun i σ H2=>∃ (fr:Addr) (t s:Int) (n1 p1:Option V),σ=[some (.ref na),some (.ref pa),some (.ref fr),n1,p1]/\Same J H2/\H2 fr=some (.tup [.int t,.int s])/\0 < s/\valQ (t,s)=sumR i (fun j=>(ws.getD j 0:Rat) * ptQ pts j)/\Bd (TT i) t/\Bd (sumE e i + 1) s)
  ⟨f0,0,1,none,none,rfl,Same.refl _,ef0,by decide,zMq,zDx _,(show Bd 1 1 from Bd.lit)⟩ (fun i σ H2 _ ⟨_,_,_,_,_,_,sm,_⟩=>sm) hlen ?_ ?_⟩
 ·rintro i x y T σ H2 hx hy hT ⟨fr,t,s,n1,p1,rfl,sm,ef,s0,ev,bt,bs⟩
  obtain ⟨wv,hw,rfl⟩:=zBW hx
  obtain ⟨pr,hpr,r,rfl,er⟩:=zAc hpt hy
  obtain ⟨z1,z2,z3,zc,z4⟩:=GW.ok i wv pr hw hpr
  have hil:i < pts.length:=(List.getElem?_eq_some_iff.mp hpr).1
  obtain ⟨M,hhT,zn,eT⟩:=zAV (HO.tup [V.int wv,V.ref r]) hT
  rw [hhT]
  have er2:=(y0.trans (sm.trans zn)) _ _ er
  obtain ⟨st1,st2⟩:=GW.st i hil
  obtain ⟨q1,q2,q3⟩:=GW.sz i (by omega)
  have q4:=(GW.sz (i + 1) (by omega)).2.1
  have em:sumE e (i + 1)=sumE e i + e i:=rfl
  refine ⟨T,_,rfl,SqT.of eT,rfl,_,_,rfl,_,_,rfl,rfl,?_⟩
  refine ⟨_,rfl,_,rfl,_,rfl,r,_,0,_,rfl,rfl,SqT.of er2,at0,_,_,rfl,rfl,⟨z2.mono,z3.mono⟩,_,rfl,r,_,1,_,rfl,rfl,SqT.of er2,at1,sz2,fun g hg=>?_⟩
  have zg:=zAI hg (HO.tup [V.int (wv * pr.1),V.int pr.2])
  refine ⟨fr,g,t,s,wv * pr.1,pr.2,TT i,sumE e i + 1,cc i,e i,TT (i + 1),rfl,zg _ _ (zn _ _ ef),zAF,s0,z1,bt,bs,zc,z4,by omega,by omega,by omega,by omega,by omega,fun r2 t' s' H3 s3 e3 s0' ev' bt' bs'=>?_⟩
  refine ⟨r2,t',s',_,_,rfl,sm.trans (zn.trans (zg.trans s3)),e3,s0',?_,bt',bs'.mono (by omega)⟩
  rw [ev',ev,zJ9 z1]
  show _=sumR i (fun j=>(ws.getD j 0:Rat) * ptQ pts j) + (ws.getD i 0:Rat) * ptQ pts i
  unfold ptQ
  rw [zFH hw,zFH hpr]
 ·rintro σ H2 ⟨fr,t,s,n1,p1,rfl,sm,ef,s0,ev,bt,bs⟩
  rw [List.length_map,GW.len] at ev bt bs
  refine ⟨_,rfl,q fr t s H2 (y0.trans sm) ef s0 ?_ bt bs⟩
  unfold dotQ
  rw [GW.len]
  exact ev
theorem zJk {k:Nat} {f:Addr} {fd:FuncData} (F:Fun K "_law_holds" "_law_holds" zDS f fd) (B:Bl mg) (az:Fn P w K mg base "_law_along" ["_law_numbers","_law_values"] k (zEh K)):FnOk P w K mg base CX0 (k + 1) f fd ["_law_row","_law_point_here"] (zEM K):=by
 refine F.ok zGg ?_ ?_
 ·rintro vs H Q E ⟨ra,pa,ws,b,pv,pts,w,a,e,d,rfl,_⟩
  rfl
 rintro cdv A outer s H vs Q E hr ⟨ra,pa,ws,b,pv,pts,w,a,e,d,rfl,hra,hpa,hpt,GW,bb,q⟩
 refine ⟨_,(zAD (zAR (i:=2) zGg.nd rfl (Or.inl rfl) (zAG az hr rfl (zAA (zBP zCI (pvj 0) zCG (zBg (zBU zAu zAE))) (zAA (pvj 1) zAB))))
  (zAH (zAU (zCH (ji0 zKf) (zAX zAO (pvj 2) zAE (fun _ _=>rfl)) (zAK (ji zAd) (zAX zAO (pvj 0) (zBU zAu zAE) (fun _ _=>rfl)) (zAX zAO (pvj 2) zAE (fun _ _=>rfl))) (zAq _))))),?_⟩
 try dsimp only [cxOf,Cx.nox,Cx.wish]
 refine ⟨_,rfl,_,rfl,_,rfl,ra,_,rfl,SqT.of hra,zBV _ _,fun p hp=>?_⟩
 have ec:cutV (rowV ws b) none (some (-1))=ws.map V.int:=zDo _ _
 rw [ec]
 have s1:=zAI hp (HO.tup (ws.map V.int))
 have sz:=GW.sz
 refine ⟨_,rfl,p,pa,ws,pv,pts,_,_,_,rfl,.inl (SqT.of zAF),s1.seq hpa,hpt.same s1,GW.ga,fun r1 t s H1 s2 e1 s0 ev bt bs=>?_⟩
 rw [zGd] at bs
 have nd:=GW.nd
 refine ⟨_,rfl,r1,_,0,_,rfl,rfl,SqT.of e1,at0,_,rfl,_,rfl,ra,_,_,_,rfl,rfl,SqT.of (s2 _ _ (s1 _ _ hra)),zCE _ _,_,rfl,r1,_,1,_,rfl,rfl,SqT.of e1,at1,_,_,rfl,rfl,⟨bb.mono,bs.mono (by omega)⟩,_,_,rfl,rfl,?_⟩
 exact q _ H1 (s1.trans s2) (zKB s0 ev)
theorem zKp {k:Nat} {f:Addr} {fd:FuncData} (F:Fun K "_law_lies" "_law_lies" zDm f fd) (B:Bl mg) (cI:Fn P w K mg base "_law_holds" ["_law_row","_law_point_here"] k (zEM K)):FnOk P w K mg base CX0 (k + 1) f fd ["_law_room","_law_point_here"] (zEL K):=by
 refine F.ok zKS ?_ ?_
 ·rintro vs H Q E ⟨rm,pa,rv,pv,rows,pts,n,w,a,e,d,rfl,_⟩
  rfl
 rintro cdv A outer s H vs Q E hr ⟨rm,pa,rv,pv,rows,pts,n,w,a,e,d,rfl,hrm,hrv,hpa,hpt,W,r9,lp,n3,PO,nd,sz,q⟩
 refine ⟨_,(zAH (zAU (zAS (zDE rfl) rfl B.all_ zCn (zAA (zAr (own:=["_law_row"]) (caps:=[(1,"_law_point_here")]) (zBm (S:=zAC zDm) (N:=["_law_room","_law_point_here"]) ⟨_,rfl⟩) rfl (zBC (pvj 0)) (fun _ _ _ _=>zAJ (i:=0) (show (["_law_row","_law_point_here"]:List Str).Nodup by decide +kernel) rfl (Or.inl rfl)) (fun _ _ _ _=>(zAG cI hr rfl (zAA (pvj 0) (zAA (pvj 1) zAB))))) zAB)))),?_⟩
 try dsimp only [cxOf,Cx.nox,Cx.wish]
 have lrv:=Paired.length hrv
 refine ⟨_,rfl,rm,rfl,⟨_,hrm⟩,zBQ (K:=K) (a:=rm) (xs:=rv) (fun i ys σ H'=>∃ bs:List Bool,ys=bs.map V.bl/\bs.length=i/\(bs.all id=true ↔ ∀ r∈rows.take i,zCV r (ptQ pts))/\(∃ o,σ=[o,some (.ref pa)])/\Same H H')
  ⟨[],rfl,rfl,⟨(fun _ r hr=>by cases hr),fun _=>rfl⟩,⟨none,rfl⟩,Same.refl _⟩ (fun i ys σ H' hi ⟨bs,e1,l1,_,_,s1⟩=>⟨s1.seq hrm,by rw [e1,List.length_map]; omega⟩) (zAh (by omega)) ?_ ?_⟩
 ·rintro i x ys σ H' hi ⟨bs,rfl,lb,hb,⟨o,rfl⟩,s1⟩
  obtain ⟨r,hr',a9,rfl,ea⟩:=zAc hrv hi
  obtain ⟨w1,w2,w3⟩:=W r (List.mem_of_getElem? hr')
  refine ⟨_,rfl,_,rfl,a9,pa,r.1,r.2,pv,pts,w,a,e,d,rfl,s1 _ _ ea,s1.seq hpa,hpt.same s1,⟨w1.trans lp.symm,by omega,w2,PO,nd,sz⟩,w3,fun y H2 s2 hy=>?_⟩
  refine ⟨bs++[y],(by rw [List.map_append]; rfl),(by rw [List.length_append,lb]; rfl),?_,⟨_,rfl⟩,s1.trans s2⟩
  rw [List.all_append,Bool.and_eq_true,hb,zAa hr']
  constructor
  ·rintro ⟨z1,z2⟩ r' hr2
   rcases List.mem_append.mp hr2 with hr2 | hr2
   ·exact z1 r' hr2
   ·rw [List.mem_singleton.mp hr2]
    refine hy.mp ?_
    cases y with
    | true=>rfl
    | false=>cases z2
  ·intro z
   refine ⟨fun r' hr2=>z r' (List.mem_append_left _ hr2),?_⟩
   have:=hy.mpr (z r (List.mem_append_right _ List.mem_cons_self))
   rw [this]
   rfl
 rintro ys σ H' ⟨bs,rfl,lb,hb,⟨o,rfl⟩,s1⟩ l hl
 rw [List.take_of_length_le (by omega)] at hb
 exact ⟨l,bs,rfl,SqL.of zAF,q _ _ (s1.trans (zAI hl _)) hb⟩
end
theorem zOU {xs:List Int} {k:Nat} (h:xs.length=k + 1):atI (xs.map V.int) (-1)=some (.int (xs.getD k 0)):=by
 have hk:xs[k]? = some (xs.getD k 0):=by rw [List.getD_eq_getElem?_getD,List.getElem?_eq_getElem (show k < xs.length by omega)]; rfl
 have e:xs.map V.int=(xs.take k).map V.int++[V.int (xs.getD k 0)]:=by
  rw [<- List.map_singleton,<- List.map_append,<- zAa hk,List.take_of_length_le (by omega)]
 rw [e]
 exact zCE _ _
theorem zMT {t b c:Int} (hb:0 < b):t<=c * b ↔ valQ (t,b)<=(c:Rat):=by
 have d:=zBf hb
 have e:=zCp (p:=(t,b)) hb
 dsimp only at e
 constructor
 ·intro z
  have z':(t:Rat)<=((c * b:Int):Rat):=by exact_mod_cast z
  rw [Rat.intCast_mul,<- e] at z'
  exact Rat.le_of_mul_le_mul_right z' d
 ·intro z
  have z':=Rat.mul_le_mul_of_nonneg_right z (Rat.le_of_lt d)
  rw [e,<- Rat.intCast_mul] at z'
  exact_mod_cast z'
theorem zMg {t b c:Int} (hb:0 < b):c * b<=t ↔ (c:Rat)<=valQ (t,b):=by
 have d:=zBf hb
 have e:=zCp (p:=(t,b)) hb
 dsimp only at e
 constructor
 ·intro z
  have z':((c * b:Int):Rat)<=(t:Rat):=by exact_mod_cast z
  rw [Rat.intCast_mul,<- e] at z'
  exact Rat.le_of_mul_le_mul_right z' d
 ·intro z
  have z':=Rat.mul_le_mul_of_nonneg_right z (Rat.le_of_lt d)
  rw [e,<- Rat.intCast_mul] at z'
  exact_mod_cast z'
theorem zNV {L U P s:Int} (P0:0 < P) (s0:0<=s) (s1:s<=P) (h:L<=U):(L:Rat)<=valQ (L * (P - s) + U * s,P)/\valQ (L * (P - s) + U * s,P)<=(U:Rat):=by
 have h1:=Int.mul_le_mul_of_nonneg_right h s0
 have h2:=Int.mul_le_mul_of_nonneg_right h (show 0<=P - s by omega)
 have e1:L * (P - s) + L * s=L * P:=by grind
 have e2:U * (P - s) + U * s=U * P:=by grind
 exact ⟨(zMg P0).mp (by omega),(zMT P0).mp (by omega)⟩
theorem zN4 {P x g:Int} (P0:0 < P) (g0:0<=g) (g3:g < 3):∃ s:Int,atI [V.int 0,V.int P,V.int (x.fmod (P + 1))] g=some (.int s)/\0<=s/\s<=P:=by
 have h1:=Int.fmod_nonneg_of_pos x (show 0 < P + 1 by omega)
 have h2:=Int.fmod_lt_of_pos x (show 0 < P + 1 by omega)
 rcases (show g=0\/g=1\/g=2 by omega) with e | e | e
 ·exact ⟨0,by rw [e]; rfl,by omega,by omega⟩
 ·exact ⟨P,by rw [e]; rfl,by omega,by omega⟩
 ·exact ⟨x.fmod (P + 1),by rw [e]; rfl,by omega,by omega⟩
def PtB (pts:List (Int × Int)) (a e:Nat):Prop:=∀ p∈pts,0 < p.2/\Bd a p.1/\Bd e p.2
theorem zNy {pts:List (Int × Int)} {j:Nat} {p:Int × Int} (h:pts[j]? = some p):ptQ pts j=valQ p:=by
 unfold ptQ
 rw [zFH h]
theorem zKX {pts:List (Int × Int)} {p:Int × Int} {j:Nat} (h:j < pts.length):ptQ (pts++[p]) j=ptQ pts j:=by
 unfold ptQ
 rw [List.getD_eq_getElem?_getD,List.getElem?_append_left h,List.getD_eq_getElem?_getD]
theorem zKW {pts:List (Int × Int)} {p:Int × Int} {j:Nat} (h:pts.length=j):ptQ (pts++[p]) j=valQ p:=zNy (by rw [<- h]; simp)
inductive zEc (vs:List V) (H:Hp) (Q:VK) (E:XK):Prop
 | mk (c:Int) (ba:Addr) (bv:List V) (bs:List (Int × Int)) (_:vs=[.int c,.ref ba]) (_:H ba=some (.lst bv)) (_:Paired (PuV H) bv bs) (_:bs.length<=2) (_:BsOk bs) (_:∀ l pv pts H',Same H H'->H' l=some (.lst pv)->PtV H' pv pts->pts.length=bs.length->PtB pts 106 3->(∀ j b,bs[j]? = some b->(b.1:Rat)<=ptQ pts j/\ptQ pts j<=(b.2:Rat))->Q (.ref l) H'):zEc vs H Q E
section
variable {P:Program} {w:World} {K:PySem.W.Frag} {mg:Str->Option Value} {base:Heap} {cM cP:Addr}
abbrev zDR:Stmt:=top 67
theorem zCK:zAP ["_law_cell","_law_box_here","_law_xs","_law_parts","_law_point_here","_law_k","_law_low","_law_high","_law_share"] ["_law_cell","_law_box_here"] (zAC zDR):=.a
variable {ac ae:Addr} (af:ClsF K mg "Mode" ac) (ah:zCW K ac) (ag:ClsF K mg "Thing" ae) (ai:zBs K ae)
include af ah ag ai
theorem zJj {k:Nat} {f:Addr} {fd:FuncData} (F:Fun K "_law_point" "_law_point" zDR f fd) (B:Bl mg) (aq:Fn P w K mg base "_law_stream" ["_law_cell","_law_many"] k zCu) (au:Fn P w K mg base "_law_lowest" ["_law_top","_law_bottom"] k zDh):FnOk P w K mg base CX0 (k + 1) f fd ["_law_cell","_law_box_here"] zEc:=by
 refine F.ok zCK ?_ ?_
 ·rintro vs H Q E ⟨c,ba,bv,bs,rfl,_⟩
  rfl
 rintro cdv A outer s H vs Q E hr ⟨c,ba,bv,bs,rfl,hba,hbv,b2,OB,q⟩
 refine ⟨_,(zAD (zAR (i:=2) zCK.nd rfl (Or.inl rfl) (zAG aq hr rfl (zAA (pvj 0) (zAA (zAK (ji0 zAt) (zAS jlen rfl B.len_ zAv (zAA (pvj 1) zAB)) zAE) zAB))))
  (zAD (zAR (i:=3) zCK.nd rfl (Or.inl rfl) (zAK (ji0 zAt) zAE (zAK (ji zAz) (zAX zAQ (pvj 2) (zBU zAu zAE) (fun _ _=>rfl)) zAE)))
  (zAD (zAR (i:=4) zCK.nd rfl (Or.inl rfl) (zA7 zAB))
  (zAD (zBy PassesOwn.never rfl (zAs rfl B.range_ (zAA (zAS jlen rfl B.len_ zAv (zAA (pvj 1) zAB)) zAB)) (zAJ (i:=5) zCK.nd rfl (Or.inl rfl)) (zAD (zGi (zAX zAQ (pvj 1) (pvj 5) (fun _ _=>rfl)) (zDD rfl (zAY (zAJ (i:=6) zCK.nd rfl (Or.inl rfl)) (zAY (zAJ (i:=7) zCK.nd rfl (Or.inl rfl)) zCQ))))
   (zAD (zAR (i:=8) zCK.nd rfl (Or.inl rfl) (zAX zAQ (zA7 (zAA zAE (zAA (pvj 3) (zAA (zAK (ji zAz) (zAX zAQ (pvj 2) (pvj 5) (fun _ _=>rfl)) (zAK (ji0 zAt) (pvj 3) zAE)) zAB)))) (zAK (ji zAz) (zAK (ji zBh) (zAX zAQ (pvj 2) (pvj 5) (fun _ _=>rfl)) zAE) zAE) (fun _ _=>rfl)))
   (zAH (zBe (zDs PySem.F.plainAttrs_list PySem.F.slot_list_append PySem.F.type_list_append japp (pvj 4) (zAA (zAG au hr rfl (zAA (zAK (ji0 zAt) (zAK (ji zAd) (pvj 6) (zAK (ji0 zCR) (pvj 3) (pvj 8))) (zAK (ji zAd) (pvj 7) (pvj 8))) (zAA (pvj 3) zAB))) zAB)))))))
  (zAH (zAU (pvj 4))))))),?_⟩
 try dsimp only [cxOf,Cx.nox,Cx.wish]
 have lbv:=Paired.length hbv
 refine ⟨_,rfl,_,rfl,ba,_,rfl,.inl (SqL.of hba),_,_,rfl,rfl,_,((bv.length:Int) + 1),rfl,(by omega),(by omega),fun xa J1 xs y1 _ ex lx bx0=>?_⟩
 have lx1:xs.length=bv.length + 1:=by omega
 have px:∀ k,0<=xs.getD k 0:=fun k=>by
  rw [List.getD_eq_getElem?_getD]
  cases e:xs[k]? with
  | none=>exact Int.le_refl 0
  | some x=>exact (bx0 x (List.mem_of_getElem? e)).1
 have bx:∀ k,Bd 150 (xs.getD k 0):=fun k=>zDI (fun x hx=>bd45 (bx0 x hx)) k
 have d0:=Int.fmod_nonneg_of_pos (xs.getD bv.length 0) (show (0:Int) < 4 by decide)
 have d4:=Int.fmod_lt_of_pos (xs.getD bv.length 0) (show (0:Int) < 4 by decide)
 have P0:0 < (1 + (xs.getD bv.length 0).fmod 4):=by omega
 have bP:Bd 3 (1 + (xs.getD bv.length 0).fmod 4):=zCB (f:=4) Bd.lit (by omega) (by omega)
 refine ⟨_,rfl,_,rfl,xa,_,_,_,rfl,rfl,SqL.of ex,zOU lx1,_,_,rfl,rfl,(show (4:Int)≠0 by decide),_,_,rfl,rfl,?_⟩
 refine ⟨sz0,fun pl hpl=>?_⟩
 obtain ⟨J2,hhJ2,y2,epl⟩:=zAV (HO.lst ([]:List V)) hpl
 rw [hhJ2]
 have s3:=zCD hpl y2
 have hba1:=y1 _ _ hba
 have hbv1:=zA0 y1 hbv
 refine ⟨_,rfl,ba,_,rfl,.inl (SqL.of (y2 _ _ hba1)),_,rfl,(by omega),(by omega),zBd (lo:=0) (n:=((bv.length:Nat):Int).toNat)
  (fun i σ H'=>∃ (pv:List V) (pts:List (Int × Int)) (o5 o6 o7 o8:Option V),σ=[some (.int c),some (.ref ba),some (.ref xa),some (.int (1 + (xs.getD bv.length 0).fmod 4)),some (.ref pl),o5,o6,o7,o8]/\Same J1 (hide [pl] H')/\H' pl=some (.lst pv)/\PtV (hide [pl] H') pv pts/\pts.length=i/\PtB pts 106 3/\(∀ j b,j < i->bs[j]? = some b->(b.1:Rat)<=ptQ pts j/\ptQ pts j<=(b.2:Rat)))
  ⟨[],[],none,none,none,none,rfl,s3,epl,.nil,rfl,(fun p hp=>by cases hp),fun j b hj=>absurd hj (Nat.not_lt_zero j)⟩ ?_ ?_⟩
 ·rintro i σ L0 hi ⟨pv,pts,o5,o6,o7,o8,rfl,sm,epl,hpv,lp,PO,IB⟩
  have sj:=sm.trans zAZ
  have exL:=sj _ _ ex
  have i2:i < bv.length:=by omega
  obtain ⟨xv,hxv⟩:∃ x,bv[i]? = some x:=⟨_,List.getElem?_eq_getElem i2⟩
  obtain ⟨bb,hbb,p,rfl,ep⟩:=zAc hbv1 hxv
  obtain ⟨le,B1,B2⟩:=OB bb (List.mem_of_getElem? hbb)
  have lpv:=Paired.length hpv
  refine ⟨_,rfl,_,rfl,ba,_,_,_,rfl,rfl,SqL.of (sj _ _ hba1),zIf hxv,p,_,rfl,SqT.of (sj _ _ ep),rfl,_,_,rfl,_,_,rfl,rfl,?_⟩
  obtain ⟨s,es,s0,s1⟩:=zN4 (x:=xs.getD i 0) P0 (Int.fmod_nonneg_of_pos ((xs.getD i 0).fdiv 8) (show (0:Int) < 3 by decide)) (Int.fmod_lt_of_pos ((xs.getD i 0).fdiv 8) (show (0:Int) < 3 by decide))
  refine ⟨_,rfl,_,rfl,_,rfl,xa,_,_,_,rfl,rfl,SqL.of exL,zBS (xs:=xs) (k:=i) (by omega) (by omega),_,rfl,_,_,rfl,rfl,_,_,rfl,rfl,(show (1 + (xs.getD bv.length 0).fmod 4) + 1≠0 by omega),sz3,fun l3 hl3=>?_⟩
  obtain ⟨M,hhM,zl,el3⟩:=zAV (HO.lst [V.int 0,V.int (1 + (xs.getD bv.length 0).fmod 4),V.int ((xs.getD i 0).fmod ((1 + (xs.getD bv.length 0).fmod 4) + 1))]) hl3
  rw [hhM]
  refine ⟨_,rfl,_,rfl,xa,_,_,_,rfl,rfl,SqL.of (zl _ _ exL),zBS (xs:=xs) (k:=i) (by omega) (by omega),_,_,rfl,rfl,⟨(show (8:Int)≠0 by decide),(Bd.lit (i:=8) (n:=4)).mono⟩,_,_,rfl,rfl,(show (3:Int)≠0 by decide),l3,_,_,_,rfl,rfl,SqL.of el3,es,?_⟩
  have bs3:Bd 3 s:=zCB (f:=4) Bd.lit (by omega) (by omega)
  have bs4:Bd 3 ((1 + (xs.getD bv.length 0).fmod 4) - s):=zCB (f:=4) Bd.lit (by omega) (by omega)
  refine ⟨_,rfl,.inl ⟨rfl,_,SqL.of (zl _ _ epl)⟩,_,rfl,_,rfl,_,rfl,_,_,rfl,rfl,_,_,rfl,rfl,⟨B1.mono,bs4.mono⟩,_,rfl,_,rfl,_,_,rfl,rfl,⟨B2.mono,bs3.mono⟩,_,_,rfl,rfl,_,rfl,_,_,rfl,P0,bP.mono,fun r H1 s2 e1=>?_⟩
  have bt:Bd 106 (bb.1 * ((1 + (xs.getD bv.length 0).fmod 4) - s) + bb.2 * s):=(B1.mul bs4).add (B2.mul bs3)
  obtain ⟨l0,lv⟩:=zHe (t:=bb.1 * ((1 + (xs.getD bv.length 0).fmod 4) - s) + bb.2 * s) P0
  have btw:=zNV P0 s0 s1 le
  rw [<- lv] at btw
  have zz:=zl.trans s2
  have epl2:=zz _ _ epl
  refine ⟨pl,pv,_,rfl,rfl,epl2,zAp (by omega),?_⟩
  have h5:=zBA (x:=pl) (H:=H1) (HO.lst (pv++[V.ref r]))
  have h4:=(zAf (B:=[pl]) zz).trans h5
  refine ⟨pv++[V.ref r],pts++[(lowT (bb.1 * ((1 + (xs.getD bv.length 0).fmod 4) - s) + bb.2 * s) (1 + (xs.getD bv.length 0).fmod 4),lowB (bb.1 * ((1 + (xs.getD bv.length 0).fmod 4) - s) + bb.2 * s) (1 + (xs.getD bv.length 0).fmod 4))],_,_,_,_,rfl,sm.trans h4,zAF,?_,(by rw [List.length_append,lp]; rfl),zBX PO ⟨l0,zDz bt,zDp bP⟩,fun j b hj hb=>?_⟩
  ·exact zAb (R:=FrV _) (y:=(lowT (bb.1 * ((1 + (xs.getD bv.length 0).fmod 4) - s) + bb.2 * s) (1 + (xs.getD bv.length 0).fmod 4),lowB (bb.1 * ((1 + (xs.getD bv.length 0).fmod 4) - s) + bb.2 * s) (1 + (xs.getD bv.length 0).fmod 4))) ⟨r,rfl,h5 _ _ (zDG epl2 e1)⟩ (PtV.same h4 hpv)
  by_cases cj:j=i
  ·rw [cj] at hb
   rw [hbb] at hb
   cases hb
   rw [zKW (lp.trans cj.symm)]
   exact btw
  ·rw [zKX (by omega)]
   exact IB j b (by omega) hb
 rintro σ L0 ⟨pv,pts,o5,o6,o7,o8,rfl,sm,epl,hpv,lp,PO,IB⟩
 refine ⟨_,rfl,q pl pv pts L0 (y1.trans (sm.trans zAZ)) epl (PtV.same zAZ hpv) (by omega) PO fun j b hb=>IB j b ?_ hb⟩
 have:=(List.getElem?_eq_some_iff.mp hb).1
 omega
end
theorem zMW {H:Hp} {tv:List V} {T:List (List Int)} {i:Nat} (h:TabV H tv T) (hi:i < T.length):∃ a,atI tv (i:Int)=some (.ref a)/\H a=some (.lst ((T.getD i []).map V.int))/\T.getD i []∈T:=by
 have l:tv.length=T.length:=Paired.length h
 have hv:tv[i]? = some (tv[i]'(by omega)):=List.getElem?_eq_getElem _
 obtain ⟨r,hr,a,e1,ea⟩:=zAc h hv
 have e:T.getD i []=r:=by rw [List.getD_eq_getElem?_getD,hr]; rfl
 rw [e]
 exact ⟨a,zDJ (hv.trans (by rw [e1])),ea,List.mem_of_getElem? hr⟩
theorem zMr {t s c:Int} (hs:0 < s) (hc:0 < c):valQ (t,s * c)=valQ (t,s) / (c:Rat):=by
 have d:=zBf hc
 have ne:(c:Rat)≠0:=fun z=>by rw [z] at d; exact absurd d Rat.lt_irrefl
 have e:=zCp (p:=(t,s)) hs
 dsimp only at e
 refine zEV (Int.mul_pos hs hc) ?_
 show (t:Rat)=_ * ((s * c:Int):Rat)
 rw [Rat.intCast_mul,<- e,Rat.div_def]
 have i:=Rat.mul_inv_cancel _ ne
 grind
theorem zNP (x y:Int) (q:Nat->Rat):dotQ [x,y] q=(x:Rat) * q 0 + (y:Rat) * q 1:=by
 show (0:Rat) + (x:Rat) * q 0 + (y:Rat) * q 1=_
 rw [Rat.zero_add]
theorem zNg {x y t b:Int} {A B:Nat} (hx:Bd 2 x) (hy:Bd 102 y) (b0:0 < b) (bt:Bd A t) (bb:Bd B b) (sB:B + 110<=A) (sA:A<=7000):GA [x,y] [(t,b),(1,1)] (fun j=>if j=0 then 2 + A else 103) (fun j=>if j=0 then B else 1) (fun j=>if j=0 then 0 else if j=1 then A + 4 else A + 6):=by
 refine ⟨rfl,(show 2<=3 by decide),fun j wv p hw hp=>?_,fun j hj=>?_,fun j hj=>?_⟩
 ·match j,hw,hp with
  | 0,hw,hp=>
   cases hw
   cases hp
   exact ⟨b0,hx.mono,bt.mono (by omega),hx.mul bt,bb⟩
  | 1,hw,hp=>
   cases hw
   cases hp
   exact ⟨by decide,hy.mono,Bd.mono (i:=1) (n:=1) Bd.lit (by decide),hy.mul (Bd.lit (i:=1) (n:=1)),(show Bd 1 1 from Bd.lit)⟩
  | j + 2,hw,_=>cases hw
 ·have hj':j < 2:=hj
  rcases (show j=0\/j=1 by omega) with rfl | rfl
  ·exact ⟨by show 0 + B < A + 4; omega,by show 2 + A + (0 + 1) < A + 4; omega⟩
  ·exact ⟨by show A + 4 + 1 < A + 6; omega,by show 103 + (0 + B + 1) < A + 6; omega⟩
 ·have hj':j<=2:=hj
  rcases (show j=0\/j=1\/j=2 by omega) with rfl | rfl | rfl
  ·exact ⟨by show 0<=7500; omega,by show 0<=7500; omega,by show 2 + A<=7500; omega⟩
  ·exact ⟨by show A + 4<=7500; omega,by show 0 + B<=7500; omega,by show 103<=7500; omega⟩
  ·exact ⟨by show A + 6<=7500; omega,by show 0 + B + 1<=7500; omega,by show 103<=7500; omega⟩
inductive zFo (K:PySem.W.Frag) (vs:List V) (H:Hp) (Q:VK) (E:XK):Prop
 | mk (tt pa sr da:Addr) (n a e d A B X:Nat) (bs:List (Int × Int)) (m:MD) (lo hi t b:Int) (safe:List (List Int × Int)) (qv dv:List V) (pts vts:List (Int × Int)) (_:vs=[.ref tt,.ref pa,.ref sr,.ref da]) (_:MTV H (.ref tt) m) (_:MDOk m n bs.length) (_:zCo n bs m lo hi safe) (_:H pa=some (.lst qv)) (_:PtV H qv pts) (_:pts.length=n) (_:PtB pts a e) (_:e * n<=d) (_:H sr=some (.tup [.int t,.int b])) (_:0 < b) (_:Bd A t) (_:Bd B b) (_:H da=some (.lst dv)) (_:PtV H dv vts) (_:vts.length=bs.length) (_:PtB vts 106 3) (_:B + 110<=A) (_:A<=7000) (_:a + d + B + 140<=7000) (_:a + d + B + 123 < X) (_:A + d + 14 < X) (_:∀ l pv' pts' H',Same H H'->H' l=some (.lst pv')->PtV H' pv' pts'->pts'.length=n->PtB pts' X (d + B + 13)->(∀ i,i < n->ptQ pts' i=zIO n bs.length m (ptQ pts) (ptQ vts) (valQ (t,b)) i)->Q (.ref l) H'):zFo K vs H Q E
section
variable {P:Program} {w:World} {K:PySem.W.Frag} {mg:Str->Option Value} {base:Heap} {cM cP:Addr}
abbrev zBp:Stmt:=top 68
theorem zBH:zAP nl1 nl6 (zAC zBp):=.a
variable {ac ae:Addr} (af:ClsF K mg "Mode" ac) (ah:zCW K ac) (ag:ClsF K mg "Thing" ae) (ai:zBs K ae)
include af ah ag ai
theorem zIF {k:Nat} {f:Addr} {fd:FuncData} (F:Fun K "_law_behind" "_law_behind" zBp f fd) (B:Bl mg) (aB:Fn P w K mg base "_law_plus" ["_law_one","_law_other"] k zHS) (az:Fn P w K mg base "_law_along" ["_law_numbers","_law_values"] k (zEh K)) (au:Fn P w K mg base "_law_lowest" ["_law_top","_law_bottom"] k zDh):FnOk P w K mg base CX0 (k + 1) f fd nl6 (zFo K):=by
 refine F.ok zBH ?_ ?_
 ·rintro vs H Q E ⟨tt,pa,sr,da,n,a,e,d,Ab,Bb,X,bs,m,lo,hi,t,b,safe,qv,dv,pts,vts,rfl,_⟩
  rfl
 rintro cdv A outer s H vs Q E hr ⟨tt,pa,sr,da,n,a,e,d,Ab,Bb,X,bs,m,lo,hi,t,b,safe,qv,dv,pts,vts,rfl,MT,MO,G,hpa,hpt,lp,PO,nd,esr,b0,bt,bb,hda,hvt,lv,PV,sB,sA,sz,x1,x2,q⟩
 obtain ⟨u_2,E_2,U_2⟩:=L2.zCJ (p:=fun t=>PSs (cxOf CX0 P w K mg base nl1 "_law_behind" (zAC zBp) f cdv A outer s H E).nox ((zAL zBp).drop 2) t) (zAD (zBy PassesOwn.never rfl (zAs rfl B.range_ (zAA (zAS jlen rfl B.len_ zAv (zAA (pvj 1) zAB)) zAB)) (zAJ (i:=11) zBH.nd rfl (Or.inl rfl)) (zAD (zAR (i:=12) zBH.nd rfl (Or.inl rfl) (zAG aB hr rfl (zAA (zAG az hr rfl (zAA (zAX zAQ (pvj 5) (pvj 11) (fun _ _=>rfl)) (zAA (pvj 1) zAB))) (zAA (zAG az hr rfl (zAA (zAX zAQ (pvj 7) (pvj 11) (fun _ _=>rfl)) (zAA (pvj 3) zAB))) zAB))))
  (zAD (zAR (i:=12) zBH.nd rfl (Or.inl rfl) (zAG aB hr rfl (zAA (pvj 12) (zAA (zAG az hr rfl (zAA (zA7 (zAA (zAX zAQ (pvj 6) (pvj 11) (fun _ _=>rfl)) (zAA (zAX zAQ (pvj 8) (pvj 11) (fun _ _=>rfl)) zAB))) (zAA (zA7 (zAA (pvj 2) (zAA (zCA (zAA zAE (zAA zAE zAB))) zAB))) zAB))) zAB))))
  (zAH (zBe (zDs PySem.F.plainAttrs_list PySem.F.slot_list_append PySem.F.type_list_append japp (pvj 10) (zAA (zAG au hr rfl (zAA (zAX zAO (pvj 12) zAE (fun _ _=>rfl)) (zAA (zAK (ji zAd) (zAX zAO (pvj 12) zAE (fun _ _=>rfl)) (pvj 9)) zAB))) zAB)))))))
 (zAH (zAU (pvj 10))))
 obtain ⟨u_1,E_1,U_1⟩:=L2.zCJ (p:=fun t=>PSs (cxOf CX0 P w K mg base nl1 "_law_behind" (zAC zBp) f cdv A outer s H E).nox ((zAL zBp).drop 1) t) (zAD (zAR (i:=10) zBH.nd rfl (Or.inl rfl) (zA7 zAB))
 U_2)
 refine ⟨_,(zAD (zGi (pvj 0) (zDD rfl (zAY (zAJ (i:=4) zBH.nd rfl (Or.inl rfl)) (zAY (zAJ (i:=5) zBH.nd rfl (Or.inl rfl)) (zAY (zAJ (i:=6) zBH.nd rfl (Or.inl rfl)) (zAY (zAJ (i:=7) zBH.nd rfl (Or.inl rfl)) (zAY (zAJ (i:=8) zBH.nd rfl (Or.inl rfl)) (zAY (zAJ (i:=9) zBH.nd rfl (Or.inl rfl)) zCQ))))))))
 U_1),?_⟩
 try dsimp only [cxOf,Cx.nox,Cx.wish]
 obtain ⟨tt',rl,na,sa,ua,aa,rv,nv,wv,ztt,ett,erl,hrv,ena,hnv,esa,eua,huv,eaa⟩:=MT
 cases ztt
 have n3:=G.n3
 have b2:=G.b2
 have lnx:=MO.nexts.1
 have lnr:=MO.nexts.2
 have lpx:=MO.push.1
 have lpr:=MO.push.2
 have lst:=MO.steer
 have lad:=MO.add
 have lqv:=Paired.length hpt
 have div0:0 < m.div:=by have:=MO.div; omega
 have nd':e * pts.length<=d:=by rw [lp]; exact nd
 refine ⟨_,rfl,tt,_,rfl,SqT.of ett,rfl,_,_,rfl,_,_,rfl,_,_,rfl,_,_,rfl,_,_,rfl,_,_,rfl,rfl,?_⟩
 show u_1 _ [some (.ref tt),some (.ref pa),some (.ref sr),some (.ref da),some (.ref rl),some (.ref na),some (.ref sa),some (.ref ua),some (.ref aa),some (.int m.div),none,none,none] _
 rw [E_1]
 try dsimp only [cxOf,Cx.nox,Cx.wish]
 refine ⟨sz0,fun fl hfl=>?_⟩
 obtain ⟨J2,hhJ2,y2,efl⟩:=zAV (HO.lst ([]:List V)) hfl
 rw [hhJ2]
 have s3:=zCD hfl y2
 show u_2 _ [some (.ref tt),some (.ref pa),some (.ref sr),some (.ref da),some (.ref rl),some (.ref na),some (.ref sa),some (.ref ua),some (.ref aa),some (.int m.div),some (.ref fl),none,none] _
 rw [E_2]
 try dsimp only [cxOf,Cx.nox,Cx.wish]
 refine ⟨_,rfl,pa,_,rfl,.inl (SqL.of (y2 _ _ hpa)),_,rfl,(by omega),(by omega),zBd (lo:=0) (n:=((qv.length:Nat):Int).toNat)
  (fun i σ H'=>∃ (pv':List V) (pts':List (Int × Int)) (o11 o12:Option V),σ=[some (.ref tt),some (.ref pa),some (.ref sr),some (.ref da),some (.ref rl),some (.ref na),some (.ref sa),some (.ref ua),some (.ref aa),some (.int m.div),some (.ref fl),o11,o12]/\Same H (hide [fl] H')/\H' fl=some (.lst pv')/\PtV (hide [fl] H') pv' pts'/\pts'.length=i/\PtB pts' X (d + Bb + 13)/\(∀ j,j < i->ptQ pts' j=zIO n bs.length m (ptQ pts) (ptQ vts) (valQ (t,b)) j))
  ⟨[],[],none,none,rfl,s3,efl,.nil,rfl,(fun p hp=>by cases hp),fun j hj=>absurd hj (Nat.not_lt_zero j)⟩ ?_ ?_⟩
 ·rintro i σ L0 hi' ⟨pv',pts',o11,o12,rfl,sm,efl,hpv',lp',PO',IB⟩
  have sj:=sm.trans zAZ
  have i3:i < n:=by omega
  have lpv':=Paired.length hpv'
  obtain ⟨c1,ac1,ec1,mc1⟩:=zMW (i:=i) (TabV.same sj hnv) (by omega)
  obtain ⟨c2,ac2,ec2,mc2⟩:=zMW (i:=i) (TabV.same sj huv) (by omega)
  have a1:atI nv (0 + (i:Int))=some (.ref c1):=by rw [Int.zero_add]; exact ac1
  have a2:atI wv (0 + (i:Int))=some (.ref c2):=by rw [Int.zero_add]; exact ac2
  have lc1:=lnr _ mc1
  have lc2:=lpr _ mc2
  have G1:GQ (m.nexts.getD i []) pts 3 a e d:=⟨lc1.trans lp.symm,by omega,G.nx _ mc1,PO,nd',by omega⟩
  have G2:GQ (m.push.getD i []) vts 2 106 3 6:=⟨lc2.trans lv.symm,by omega,G.pu _ mc2,PV,by omega,by decide⟩
  refine ⟨_,rfl,_,rfl,na,_,_,_,rfl,rfl,SqL.of (sj _ _ ena),a1,_,rfl,c1,pa,_,qv,pts,_,_,_,rfl,.inr (SqL.of ec1),SqL.of (sj _ _ hpa),PtV.same sj hpt,G1.ga,fun r1 t1 s1 H1 z1 e1 p1 v1 b1 d1=>?_⟩
  rw [zGd] at d1
  replace b1:Bd (a + d + 11) t1:=b1.mono (by show 3 + a + e * pts.length + pts.length + 1<=a + d + 11; omega)
  replace d1:Bd (d + 1) s1:=d1.mono (by omega)
  have SL1:=sj.trans z1
  replace efl:=(z1 _ _ efl)
  replace ec2:=(z1 _ _ ec2)
  refine ⟨_,rfl,_,rfl,ua,_,_,_,rfl,rfl,SqL.of (SL1 _ _ eua),a2,_,rfl,c2,da,_,dv,vts,_,_,_,rfl,.inr (SqL.of ec2),SqL.of (SL1 _ _ hda),PtV.same SL1 hvt,G2.ga,fun r2 t2 s2 H2 z2 e2 p2 v2 b2' d2=>?_⟩
  rw [zGd] at d2
  replace b2':Bd 119 t2:=b2'.mono (by show 2 + 106 + 3 * vts.length + vts.length + 1<=119; omega)
  replace d2:Bd 7 s2:=d2.mono (by omega)
  have SL2:=SL1.trans z2
  replace efl:=(z2 _ _ efl)
  replace e1:=(z2 _ _ e1)
  refine ⟨r1,r2,t1,s1,t2,s2,a + d + 11,d + 1,119,7,a + d + 121,rfl,e1,e2,p1,p2,b1,d1,b2',d2,by omega,by omega,by omega,by omega,by omega,fun r3 t3 s3' H3 z3 e3 p3 v3 b3 d3=>?_⟩
  have SL3:=SL2.trans z3
  replace efl:=(z3 _ _ efl)
  have bx1:=zDI G.st i
  have bx2:=zDI G.ad i
  refine ⟨_,rfl,_,rfl,_,rfl,sa,_,_,_,rfl,rfl,SqL.of (SL3 _ _ esa),zBS (xs:=m.steer) (k:=i) (by omega) (by omega),_,rfl,_,rfl,aa,_,_,_,rfl,rfl,SqL.of (SL3 _ _ eaa),zBS (xs:=m.add) (k:=i) (by omega) (by omega),sz2,fun l1 hl1=>?_⟩
  obtain ⟨L4,hhL4,yL4,el1⟩:=zAV (HO.lst [V.int (m.steer.getD i 0),V.int (m.add.getD i 0)]) hl1
  rw [hhL4]
  have SL4:=SL3.trans yL4
  replace efl:=(yL4 _ _ efl)
  replace e3:=(yL4 _ _ e3)
  refine ⟨_,rfl,sz2,fun o1 ho1=>?_⟩
  obtain ⟨L5,hhL5,yL5,eo1⟩:=zAV (HO.tup [V.int 1,V.int 1]) ho1
  rw [hhL5]
  have SL5:=SL4.trans yL5
  replace efl:=(yL5 _ _ efl)
  replace e3:=(yL5 _ _ e3)
  replace el1:=(yL5 _ _ el1)
  refine ⟨sz2,fun l2 hl2=>?_⟩
  obtain ⟨L6,hhL6,yL6,el2⟩:=zAV (HO.lst [V.ref sr,V.ref o1]) hl2
  rw [hhL6]
  have SL6:=SL5.trans yL6
  replace efl:=(yL6 _ _ efl)
  replace e3:=(yL6 _ _ e3)
  replace el1:=(yL6 _ _ el1)
  replace eo1:=(yL6 _ _ eo1)
  refine ⟨l1,l2,[m.steer.getD i 0,m.add.getD i 0],[V.ref sr,V.ref o1],[(t,b),(1,1)],_,_,_,rfl,.inr (SqL.of el1),SqL.of el2,.cons ⟨sr,rfl,(SL6 _ _ esr)⟩ (.cons ⟨o1,rfl,eo1⟩ .nil),zNg bx1 bx2 b0 bt bb sB sA,fun r4 t4 s4 H4 z4 e4 p4 v4 b4 d4=>?_⟩
  replace b4:Bd (Ab + 6) t4:=b4
  replace d4:Bd (Bb + 2) s4:=d4.mono (by show 0 + Bb + 1 + 1<=Bb + 2; omega)
  have SL7:=SL6.trans z4
  replace efl:=(z4 _ _ efl)
  replace e3:=(z4 _ _ e3)
  refine ⟨r3,r4,t3,s3',t4,s4,a + d + 121,d + 1 + 7,Ab + 6,Bb + 2,X,rfl,e3,e4,p3,p4,b3,d3,b4,d4,by omega,by omega,by omega,by omega,by omega,fun r5 t5 s5 H5 z5 e5 p5 v5 b5 d5=>?_⟩
  have SL8:=SL7.trans z5
  replace efl:=(z5 _ _ efl)
  refine ⟨_,rfl,.inl ⟨rfl,_,SqL.of efl⟩,_,rfl,r5,_,0,_,rfl,rfl,SqT.of e5,at0,_,rfl,r5,_,1,_,rfl,rfl,SqT.of e5,at1,_,rfl,_,_,rfl,rfl,⟨d5.mono (by omega),G.dv.mono⟩,_,_,rfl,Int.mul_pos p5 div0,((d5.mul G.dv).mono (by omega)),fun r6 H6 z6 e6=>?_⟩
  obtain ⟨l0,lw⟩:=zHe (t:=t5) (Int.mul_pos p5 div0)
  have bd6:Bd (d + Bb + 13) (s5 * m.div):=(d5.mul G.dv).mono (by omega)
  have zz:Same L0 H6:=z1.trans (z2.trans (z3.trans (yL4.trans (yL5.trans (yL6.trans (z4.trans (z5.trans z6)))))))
  have efl6:=z6 _ _ efl
  refine ⟨fl,pv',_,rfl,rfl,efl6,zAp (by omega),?_⟩
  have h5:=zBA (x:=fl) (H:=H6) (HO.lst (pv'++[V.ref r6]))
  have h4:=(zAf (B:=[fl]) zz).trans h5
  refine ⟨pv'++[V.ref r6],pts'++[(lowT t5 (s5 * m.div),lowB t5 (s5 * m.div))],_,_,rfl,sm.trans h4,zAF,?_,(by rw [List.length_append,lp']; rfl),zBX PO' ⟨l0,zDz b5,zDp bd6⟩,fun j hj=>?_⟩
  ·exact zAb (R:=FrV _) (y:=(lowT t5 (s5 * m.div),lowB t5 (s5 * m.div))) ⟨r6,rfl,h5 _ _ (zDG efl6 e6)⟩ (PtV.same h4 hpv')
  by_cases cj:j=i
  ·rw [zKW (lp'.trans cj.symm),lw,zMr p5 div0,v5,v3,v1,v2,v4,zNP,cj]
   unfold zIO dotQ
   rw [lc1,lc2]
   have q0:ptQ [(t,b),(1,1)] 0=valQ (t,b):=rfl
   have q1:ptQ [(t,b),(1,1)] 1=1:=by
    show valQ (1,1)=1
    refine zEV (by decide) ?_
    show ((1:Int):Rat)=1 * ((1:Int):Rat)
    rw [Rat.one_mul]
   rw [q0,q1,Rat.mul_one]
  ·rw [zKX (by omega)]
   exact IB j (by omega)
 rintro σ L0 ⟨pv',pts',o11,o12,rfl,sm,efl,hpv',lp',PO',IB⟩
 exact ⟨_,rfl,q fl pv' pts' L0 (sm.trans zAZ) efl (PtV.same zAZ hpv') (by omega) PO' fun j hj=>IB j (by omega)⟩
end
theorem zLZ {ws:List Int} {b:Int} {k:Nat} (h:k < ws.length):atI (rowV ws b) (0 + (k:Int))=some (.int (ws.getD k 0)):=by
 rw [Int.zero_add]
 refine zDJ ?_
 unfold rowV
 rw [List.getElem?_append_left (by rw [List.length_map]; exact h),List.getElem?_map,List.getElem?_eq_getElem h,List.getD_eq_getElem?_getD,List.getElem?_eq_getElem h]
 rfl
def nzR (i:Nat) (safe:List (List Int × Int)):List (List Int × Int):=safe.filter fun r=>decide (r.1.getD i 0≠0)
theorem zMd {u g:Int} (u0:0 < u) (bu:Bd 100 u) (g0:0<=g) (g3:g < 3):∃ s:Int,atI [V.int 0,V.int 1,V.int u] g=some (.int s)/\Bd 100 s:=by
 rcases (show g=0\/g=1\/g=2 by omega) with e | e | e
 ·exact ⟨0,by rw [e]; rfl,zDx _⟩
 ·exact ⟨1,by rw [e]; rfl,Bd.mono (i:=1) (n:=1) Bd.lit (by decide)⟩
 ·exact ⟨u,by rw [e]; rfl,bu⟩
inductive zIn (vs:List V) (H:Hp) (Q:VK) (E:XK):Prop
 | mk (st sa:Addr) (x y:V) (c u:Int) (n:Nat) (sv:List V) (safe:List (List Int × Int)) (_:vs=[.ref st,.ref sa,.int c]) (_:H st=some (.tup [.int (n:Int),x,y,.int u])) (_:1<=n) (_:n<=3) (_:0 < u) (_:Bd 100 u) (_:H sa=some (.lst sv)) (_:zAk H sv safe) (_:WB safe n 2 106) (_:safe.length<=8) (_:∀ l pv pts H',Same H H'->H' l=some (.lst pv)->PtV H' pv pts->pts.length=n->PtB pts 110 3->Q (.ref l) H'):zIn vs H Q E
inductive zDu (C CM:Addr) (vs:List V) (H:Hp) (Q:VK) (E:XK):Prop
 | mk (o kp km sa:Addr) (n k:Nat) (bs:List (Int × Int)) (m:MD) (pv mv sv:List V) (lo hi:Int) (safe:List (List Int × Int)) (_:vs=[.ref o,.ref sa,.int lo,.int hi,.int (k:Int)]) (_:zA5 C CM H o n bs [m] pv mv kp km) (_:ThOk n bs [m]) (_:m.rows=[]) (_:zCo n bs m lo hi safe) (_:H sa=some (.lst sv)) (_:zAk H sv safe) (_:k<=6) (_:(okTo n bs m lo hi safe k->∀ l lv H',Same H H'->H' l=some (.lst lv)->zCT H' lv (zFX n bs m lo hi safe k)->Q (.ref l) H')) (_:(¬ okTo n bs m lo hi safe k->∀ H',Same H H'->Q .non H')):zDu C CM vs H Q E
inductive zEa (vs:List V) (H:Hp) (Q:VK) (E:XK):Prop
 | mk (sr:Addr) (t b lo hi:Int) (_:vs=[.ref sr,.int lo,.int hi]) (_:H sr=some (.tup [.int t,.int b])) (_:0 < b) (_:lo * b<=t) (_:t<=hi * b) (_:Bd 7000 b) (_:Bd 106 lo) (_:Bd 106 hi) (_:Q (.bl true) H):zEa vs H Q E
section
variable {P:Program} {w:World} {K:PySem.W.Frag} {mg:Str->Option Value} {base:Heap} {cM cP:Addr}
abbrev zDQ:Stmt:=top 72
theorem zD3:zAP ["_law_thing_here","_law_safe_here","_law_low","_law_high","_law_turns","_law_found"] nl5 (zAC zDQ):=.a
abbrev zA9:Stmt:=top 73
theorem zC5:zAP ["_law_found","_law_low","_law_high","_law_part"] ["_law_found","_law_low","_law_high"] (zAC zA9):=.a
abbrev zDC:Stmt:=top 71
theorem zCC:zAP nl4 ["_law_spec","_law_safe_here","_law_cell"] (zAC zDC):=.a
variable {ac ae:Addr} (af:ClsF K mg "Mode" ac) (ah:zCW K ac) (ag:ClsF K mg "Thing" ae) (ai:zBs K ae)
include af ah ag ai
theorem zJi {k:Nat} {f:Addr} {fd:FuncData} (Z:Er K mg cM cP) (F:Fun K "_law_rooms" "_law_rooms" zDQ f fd) (B:Bl mg) (x_held_rooms:FnX P w K mg base "held_rooms" ["thing","safe","low","high","turns"] k (zFz ae ac cM cP)):FnOk P w K mg base CX0 (k + 1) f fd nl5 (zDu ae ac):=by
 refine F.ok zD3 ?_ ?_
 ·rintro vs H Q E ⟨o,kp,km,sa,n,k,bs,m,pv,mv,sv,lo,hi,safe,rfl,_⟩
  rfl
 rintro cdv A outer s H vs Q E hr ⟨o,kp,km,sa,n,k,bs,m,pv,mv,sv,lo,hi,safe,rfl,TA,TO,r0,G,hsa,hsv,k6,q,qx⟩
 refine ⟨_,(zAD (zAR (i:=5) zD3.nd rfl (Or.inl rfl) zHZ)
  (zAD (zM2 rfl Z.mgM rfl rfl rfl (zKY (zM1 (i:=5) zD3.nd rfl (Or.inl rfl) (zKa x_held_rooms hr rfl (zAA (pvj 0) (zAA (zAi zAy rfl B.list_ zAm (zAA (pvj 1) zAB)) (zAA (pvj 2) (zAA (pvj 3) (zAA (pvj 4) zAB))))))) zLw) (fun _=>(zAH (zAR (i:=5) zD3.nd rfl (Or.inl rfl) zHZ))))
  (zAH (zAU (pvj 5))))),?_⟩
 try dsimp only [cxOf,Cx.nox,Cx.wish]
 refine ⟨_,rfl,_,rfl,sa,_,rfl,.inl (SqL.of hsa),fun s2 hs2=>?_⟩
 have y2:=zAI hs2 (HO.lst sv)
 refine ⟨_,rfl,_,rfl,_,rfl,o,kp,km,s2,n,bs,[m],pv,mv,sv,lo,hi,k,safe,rfl,zA5.same y2 TA,TO,zAF,zAk.same y2 hsv,.inr ⟨m,rfl,⟨rfl,r0⟩,G,k6,fun l lv H1 s1 _ el hl ok=>⟨_,rfl,q ok l lv H1 (y2.trans s1) el hl⟩,fun no H1 s1=>⟨cM,rfl,Z.mm,fun e he=>?_⟩⟩⟩
 exact ⟨_,rfl,qx no _ (y2.trans (s1.trans (zAI he _)))⟩
theorem zEQ {k:Nat} {f:Addr} {fd:FuncData} (F:Fun K "_law_right_steering" "_law_right_steering" zA9 f fd) (B:Bl mg):FnOk P w K mg base CX0 (k + 1) f fd ["_law_found","_law_low","_law_high"] zEa:=by
 refine F.ok zC5 ?_ ?_
 ·rintro vs H Q E ⟨sr,t,b,lo,hi,rfl,_⟩
  rfl
 rintro cdv A outer s H vs Q E hr ⟨sr,t,b,lo,hi,rfl,esr,b0,h1,h2,bb,bl,bh,q⟩
 refine ⟨_,(zAD (zBc (PW.pt (zEk (zB9 (zBF (zAS zDt rfl B.isinstance_ zAT (zAA (pvj 0) (zAA (zBr (v:=.ty "tuple") (u:=.type "tuple") rfl B.tuple_ zAn rfl) zAB))))) (zDX (zAx zH9 (zAS jlen rfl B.len_ zAv (zAA (pvj 0) zAB)) zAE (zAq _))))) (zAH (zAU zFU)) zAj)
  (zAD (zBy PassesOwn.never rfl (zFO (pvj 0)) (zAJ (i:=3) zC5.nd rfl (Or.inl rfl)) (zAH (zBc (PW.pt (zEk (zB9 (zBF (zAS zDt rfl B.isinstance_ zAT (zAA (pvj 3) (zAA (zBr (v:=.ty "int") (u:=.type "int") rfl B.int_ zE2 rfl) zAB))))) (zDX (zBF (zAS zDt rfl B.isinstance_ zAT (zAA (pvj 3) (zAA (zBr (v:=.ty "bool") (u:=.type "bool") rfl B.bool_ zGo rfl) zAB))))))) (zAH (zAU zFU)) zAj)))
  (zAH (zAU (zDZ (zCH (ji0 zHa) (zAX zAO (pvj 0) zAE (fun _ _=>rfl)) zAE (zAq _)) (zEn (zL1 zKf zKf (zAK (ji zAd) (pvj 1) (zAX zAO (pvj 0) zAE (fun _ _=>rfl))) (zAX zAO (pvj 0) zAE (fun _ _=>rfl)) (zAK (ji zAd) (pvj 2) (zAX zAO (pvj 0) zAE (fun _ _=>rfl)))))))))),?_⟩
 try dsimp only [cxOf,Cx.nox,Cx.wish]
 refine ⟨_,rfl,_,_,_,_,rfl,.tup esr,zBz _,_,rfl,iteF ?_⟩
 refine ⟨_,rfl,sr,_,rfl,.inr (SqT.of esr),rfl,_,rfl,zB0 (zFs rfl) ?_⟩
 refine ⟨_,rfl,sr,rfl,⟨_,SqT.of esr⟩,zLG (K:=K) (a:=sr) (xs:=[t,b].map V.int) (fun i σ H2=>∃ o3:Option V,σ=[some (.ref sr),some (.int lo),some (.int hi),o3]/\H2=H) ⟨none,rfl,rfl⟩ (fun i σ H2 _ ⟨_,_,e⟩=>e ▸ SqT.of esr) ?_ ?_⟩
 ·rintro i x σ H2 hi' ⟨o3,rfl,rfl⟩
  obtain ⟨z,hz,rfl⟩:=zBW hi'
  refine ⟨_,rfl,_,_,_,_,rfl,.int _,zGF _,_,rfl,iteF ?_⟩
  refine ⟨_,rfl,_,_,_,_,rfl,.int _,zFQ _,_,rfl,iteF ?_⟩
  exact ⟨_,rfl,rfl⟩
 rintro σ H2 ⟨o3,rfl,rfl⟩
 refine ⟨_,rfl,sr,_,1,_,rfl,rfl,SqT.of esr,at1,_,_,rfl,rfl,_,rfl,?_⟩
 rw [decide_eq_true (show b > 0 from b0)]
 refine iteT ?_
 refine ⟨_,rfl,_,rfl,sr,_,1,_,rfl,rfl,SqT.of esr,at1,_,_,rfl,rfl,⟨bl.mono,bb.mono⟩,_,rfl,sr,_,0,_,rfl,rfl,SqT.of esr,at0,_,_,rfl,rfl,_,rfl,?_⟩
 refine zCU (decide_eq_true h1) ?_
 refine ⟨_,rfl,_,rfl,sr,_,1,_,rfl,rfl,SqT.of esr,at1,_,_,rfl,rfl,⟨bh.mono,bb.mono⟩,_,_,rfl,rfl,?_⟩
 show Q (.bl (decide (t<=hi * b))) H2
 rw [decide_eq_true h2]
 exact q
theorem zKm {k:Nat} {f:Addr} {fd:FuncData} (F:Fun K "_law_near" "_law_near" zDC f fd) (B:Bl mg) (aq:Fn P w K mg base "_law_stream" ["_law_cell","_law_many"] k zCu) (ak:Fn P w K mg base "_law_number" ["_law_x","_law_far"] k zDv) (au:Fn P w K mg base "_law_lowest" ["_law_top","_law_bottom"] k zDh):FnOk P w K mg base CX0 (k + 1) f fd ["_law_spec","_law_safe_here","_law_cell"] zIn:=by
 refine F.ok zCC ?_ ?_
 ·rintro vs H Q E ⟨st,sa,x,y,c,u,n,sv,safe,rfl,_⟩
  rfl
 rintro cdv A outer s H vs Q E hr ⟨st,sa,x,y,c,u,n,sv,safe,rfl,est,n1,n3,u0,bu,hsa,hsv,WS,s8,q⟩
 refine ⟨_,(zAD (zAR (i:=3) zCC.nd rfl (Or.inl rfl) (zAG aq hr rfl (zAA (pvj 2) (zAA zAE zAB))))
  (zAD (zAR (i:=4) zCC.nd rfl (Or.inl rfl) (zAK (ji0 zAt) zAE (zAK (ji zAz) (zAX zAQ (pvj 3) zAE (fun _ _=>rfl)) zAE)))
  (zAD (zAR (i:=5) zCC.nd rfl (Or.inl rfl) (zA7 zAB))
  (zAD (zBy PassesOwn.never rfl (zAs rfl B.range_ (zAA (zAX zAO (pvj 0) zAE (fun _ _=>rfl)) zAB)) (zAJ (i:=6) zCC.nd rfl (Or.inr rfl)) (zAD (zEm (i:=7) zCC.nd rfl rfl (own:=["_law_row"]) (caps:=[(6,"_law_i")]) (zBm (S:=zAC zDC) (N:=nl4) ⟨_,rfl⟩) rfl (zBC (pvj 1)) (fun _ _ _ _=>zAJ (i:=0) (show (["_law_row","_law_i"]:List Str).Nodup by decide +kernel) rfl (Or.inl rfl)) (fun _ _ _ _=>(zAx zH9 (zAX (show IxR _ (JIx (SqT K)) from zAO) (pvj 0) (pvj 1) (fun _ _=>rfl)) zAE (zAq _))) (fun _ _ _ _=>(zAX (show IxR _ (JIx (SqT K)) from zAO) (pvj 0) (zBU zAu zAE) (fun _ _=>rfl))) rfl)
   (zAD (zAR (i:=8) zCC.nd rfl (Or.inl rfl) zAE)
   (zAD (zBc (zAx (zN9 hr.units) (pvj 7) (zA7 zAB) (zAq _)) (zAD (zAR (i:=9) zCC.nd rfl (Or.inl rfl) (zAX zAQ (zKc (own:=["_law_row"]) (caps:=[(6,"_law_i")]) (zBm (S:=zAC zDC) (N:=nl4) ⟨_,rfl⟩) rfl (zBC (pvj 1)) (fun _ _ _ _=>zAJ (i:=0) (show (["_law_row","_law_i"]:List Str).Nodup by decide +kernel) rfl (Or.inl rfl)) (fun _ _ _ _=>(zAx zH9 (zAX (show IxR _ (JIx (SqT K)) from zAO) (pvj 0) (pvj 1) (fun _ _=>rfl)) zAE (zAq _))) (fun _ _ _ _=>(pvj 0))) (zAK (ji zAz) (zAX zAQ (pvj 3) (zAK (ji0 zAt) zAE (pvj 6)) (fun _ _=>rfl)) (zAS jlen rfl B.len_ zAv (zAA (pvj 7) zAB))) (fun _ _=>rfl)))
    (zAH (zAR (i:=8) zCC.nd rfl (Or.inl rfl) (zAK (ji zBh) (zAX zAO (pvj 9) (zBU zAu zAE) (fun _ _=>rfl)) (zAX zAO (pvj 9) (pvj 6) (fun _ _=>rfl)))))) zAj)
   (zAD (zAR (i:=10) zCC.nd rfl (Or.inl rfl) (zAK (ji zAd) (zAG ak hr rfl (zAA (zAX zAQ (pvj 3) (zAK (ji0 zAt) zAE (pvj 6)) (fun _ _=>rfl)) (zAA (zAK (ji zAd) zAE (pvj 4)) zAB))) (zAX zAQ (zA7 (zAA zAE (zAA zAE (zAA (zAX zAO (pvj 0) zAE (fun _ _=>rfl)) zAB)))) (zAK (ji zAz) (zAX zAQ (pvj 3) zAE (fun _ _=>rfl)) zAE) (fun _ _=>rfl))))
   (zAH (zBe (zDs PySem.F.plainAttrs_list PySem.F.slot_list_append PySem.F.type_list_append japp (pvj 5) (zAA (zAG au hr rfl (zAA (zAK (ji0 zAt) (zAK (ji zAd) (pvj 8) (pvj 4)) (pvj 10)) (zAA (pvj 4) zAB))) zAB)))))))))
  (zAH (zAU (pvj 5))))))),?_⟩
 try dsimp only [cxOf,Cx.nox,Cx.wish]
 refine ⟨_,rfl,_,9,rfl,(by decide),(by decide),fun xa J1 xs y1 _ ex lx bx0=>?_⟩
 have lx9:xs.length=9:=lx
 have px:∀ k,0<=xs.getD k 0:=fun k=>by
  rw [List.getD_eq_getElem?_getD]
  cases e:xs[k]? with
  | none=>exact Int.le_refl 0
  | some x=>exact (bx0 x (List.mem_of_getElem? e)).1
 have bx:∀ k,Bd 150 (xs.getD k 0):=fun k=>zDI (fun x hx=>bd45 (bx0 x hx)) k
 have d0:=Int.fmod_nonneg_of_pos (xs.getD 0 0) (show (0:Int) < 4 by decide)
 have d4:=Int.fmod_lt_of_pos (xs.getD 0 0) (show (0:Int) < 4 by decide)
 have P0:0 < (1 + (xs.getD 0 0).fmod 4):=by omega
 have bP:Bd 3 (1 + (xs.getD 0 0).fmod 4):=zCB (f:=4) Bd.lit (by omega) (by omega)
 have est1:=y1 _ _ est
 have hsa1:=y1 _ _ hsa
 have hsv1:=zAk.same y1 hsv
 have lsv:=Paired.length hsv
 refine ⟨_,rfl,xa,_,_,_,rfl,rfl,SqL.of ex,zBS (xs:=xs) (k:=0) (by omega) (by omega),_,_,rfl,rfl,(show (4:Int)≠0 by decide),_,_,rfl,rfl,?_⟩
 refine ⟨sz0,fun pl hpl=>?_⟩
 obtain ⟨J2,hhJ2,y2,epl⟩:=zAV (HO.lst ([]:List V)) hpl
 rw [hhJ2]
 have s3:=zCD hpl y2
 refine ⟨_,rfl,st,_,_,_,rfl,rfl,SqT.of (y2 _ _ est1),(show atI [V.int (n:Int),x,y,V.int u] 0=some (.int (n:Int)) from rfl),_,rfl,(by omega),(by omega),zBd (lo:=0) (n:=((n:Nat):Int).toNat)
  (fun i σ H'=>∃ (pv:List V) (pts:List (Int × Int)) (o6 o7 o8 o9 oa:Option V),σ=[some (.ref st),some (.ref sa),some (.int c),some (.ref xa),some (.int (1 + (xs.getD 0 0).fmod 4)),some (.ref pl),o6,o7,o8,o9,oa]/\Same J1 (hide [pl] H')/\H' pl=some (.lst pv)/\PtV (hide [pl] H') pv pts/\pts.length=i/\PtB pts 110 3)
  ⟨[],[],none,none,none,none,none,rfl,s3,epl,.nil,rfl,(fun p hp=>by cases hp)⟩ ?_ ?_⟩
 ·rintro i σ L0 hi ⟨pv,pts,o6,o7,o8,o9,oa,rfl,sm,epl,hpv,lp,PO⟩
  have sj:=sm.trans zAZ
  have exL:=sj _ _ ex
  have estL:=sj _ _ est1
  have hsaL:=sj _ _ hsa1
  have i3:i < n:=by omega
  have lpv:=Paired.length hpv
  refine ⟨_,rfl,sa,rfl,⟨_,SqL.of hsaL⟩,zDc (K:=K) (a:=sa) (xs:=sv) (fun j ys σ H'=>ys=((nzR i (safe.take j)).map (·.2)).map V.int/\(∃ o,σ=[o,some (.int (0 + (i:Int)))])/\H'=L0)
   ⟨rfl,⟨none,rfl⟩,rfl⟩ (fun j ys σ H' hj ⟨e1,_,e3⟩=>⟨by rw [e3]; exact SqL.of hsaL,by have h2:=List.length_filter_le (fun r:List Int × Int=>decide (r.1.getD i 0≠0)) (safe.take j); rw [List.length_take] at h2; rw [e1,List.length_map,List.length_map]; show (nzR i (safe.take j)).length<=_; unfold nzR; omega⟩) (zAh (by omega)) ?_ ?_⟩
  ·rintro j x ys σ H' hj ⟨hys,⟨o,rfl⟩,rfl⟩
   obtain ⟨r,hr',a9,rfl,ea⟩:=zAc hsv1 hj
   obtain ⟨w1,w2,w3⟩:=WS r (List.mem_of_getElem? hr')
   have eA:=sj _ _ ea
   refine ⟨_,rfl,_,rfl,a9,_,_,_,rfl,rfl,SqT.of eA,zLZ (k:=i) (by omega),rfl,_,rfl,?_⟩
   by_cases cz:r.1.getD i 0=0
   ·refine zB0 (zFs cz) ?_
    refine ⟨?_,⟨_,rfl⟩,rfl⟩
    unfold nzR at hys |-
    rw [zGL (p:=fun r:List Int × Int=>decide (r.1.getD i 0≠0)) hr' (decide_eq_false fun z=>z cz)]
    exact hys
   ·refine zCU (zF8 cz) ?_
    refine ⟨_,rfl,_,rfl,a9,_,_,_,rfl,rfl,SqT.of eA,zCE _ _,?_,⟨_,rfl⟩,rfl⟩
    unfold nzR at hys |-
    rw [zEw (p:=fun r:List Int × Int=>decide (r.1.getD i 0≠0)) hr' (decide_eq_true cz)]
    rw [hys,List.map_append,List.map_append]
    rfl
  rintro ysen σ H' ⟨hysen,⟨o,rfl⟩,hZ⟩ en hen
  rw [hZ] at hen |-
  clear hZ
  rw [List.take_of_length_le (by omega)] at hysen
  obtain ⟨N1,hhN,zN,een⟩:=zAV (HO.lst ysen) hen
  rw [hhN]
  refine ⟨_,rfl,sz0,fun e0 he0=>?_⟩
  obtain ⟨E1,hhE,z0,ee0⟩:=zAV (HO.lst ([]:List V)) he0
  rw [hhE]
  have zE:=zN.trans z0
  have lnz:(nzR i safe).length<=8:=Nat.le_trans (List.length_filter_le _ _) s8
  refine ⟨.list (((nzR i safe).map (·.2)).map PyData.int),.list [],.lst (SqL.of (z0 _ _ een)) (by rw [hysen]; exact zLK _),.lst (SqL.of ee0) .nil,zOE _,rfl,(by show PyData.depthAll _ + 1<=60; rw [zOR]; decide),(by decide),_,rfl,?_⟩
  cases hnz:nzR i safe with
  | nil=>
   refine zB0 rfl ?_
   refine ⟨_,rfl,_,rfl,_,_,rfl,rfl,xa,_,_,_,rfl,rfl,SqL.of (zE _ _ exL),zBS (xs:=xs) (k:=(4 + i)) (by omega) (by omega),_,rfl,_,_,rfl,rfl,⟨Bd.mono (i:=2) (n:=2) Bd.lit (by decide),bP.mono⟩,_,(2 * (1 + (xs.getD 0 0).fmod 4)),rfl,(by omega),(zCB (f:=8) (n:=100) (Bd.mono (n:=4) Bd.lit (by decide)) (by omega) (by omega)),fun yo v1 v2=>?_⟩
   have byo:Bd 4 yo:=zCB (f:=8) Bd.lit (by omega) (by omega)
   refine ⟨_,rfl,st,_,_,_,rfl,rfl,SqT.of (zE _ _ estL),(show atI [V.int (n:Int),x,y,V.int u] 3=some (.int u) from rfl),sz3,fun lo3 hlo3=>?_⟩
   obtain ⟨O1,hhO,zO,elo3⟩:=zAV (HO.lst [V.int 0,V.int 1,V.int u]) hlo3
   rw [hhO]
   obtain ⟨so,eso,bso⟩:=zMd u0 bu (Int.fmod_nonneg_of_pos (xs.getD 7 0) (show (0:Int) < 3 by decide)) (Int.fmod_lt_of_pos (xs.getD 7 0) (show (0:Int) < 3 by decide))
   refine ⟨_,rfl,xa,_,_,_,rfl,rfl,SqL.of ((zE.trans zO) _ _ exL),zBS (xs:=xs) (k:=7) (by omega) (by omega),_,_,rfl,rfl,(show (3:Int)≠0 by decide),lo3,_,_,_,rfl,rfl,SqL.of elo3,eso,_,_,rfl,rfl,⟨byo.mono,bso.mono⟩,?_⟩
   have zA:=zE.trans zO
   refine ⟨_,rfl,.inl ⟨rfl,_,SqL.of (zA _ _ epl)⟩,_,rfl,_,rfl,_,_,rfl,rfl,⟨(zDx 106).mono,bP.mono⟩,_,rfl,_,_,rfl,rfl,_,rfl,_,_,rfl,P0,bP.mono,fun r H9 s9 e9=>?_⟩
   have bt:Bd 110 (0 * (1 + (xs.getD 0 0).fmod 4) + yo * so):=Bd.add (n:=109) (((zDx 106).mul bP).mono) ((byo.mul bso).mono)
   obtain ⟨l0,lv⟩:=zHe (t:=0 * (1 + (xs.getD 0 0).fmod 4) + yo * so) P0
   have zz:=zA.trans s9
   have epl2:=zz _ _ epl
   refine ⟨pl,pv,_,rfl,rfl,epl2,zAp (by omega),?_⟩
   have h5:=zBA (x:=pl) (H:=H9) (HO.lst (pv++[V.ref r]))
   have h4:=(zAf (B:=[pl]) zz).trans h5
   refine ⟨pv++[V.ref r],pts++[(lowT (0 * (1 + (xs.getD 0 0).fmod 4) + yo * so) (1 + (xs.getD 0 0).fmod 4),lowB (0 * (1 + (xs.getD 0 0).fmod 4) + yo * so) (1 + (xs.getD 0 0).fmod 4))],_,_,_,_,_,rfl,sm.trans h4,zAF,?_,(by rw [List.length_append,lp]; rfl),zBX PO ⟨l0,zDz bt,zDp bP⟩⟩
   exact zAb (R:=FrV _) (y:=(lowT (0 * (1 + (xs.getD 0 0).fmod 4) + yo * so) (1 + (xs.getD 0 0).fmod 4),lowB (0 * (1 + (xs.getD 0 0).fmod 4) + yo * so) (1 + (xs.getD 0 0).fmod 4))) ⟨r,rfl,h5 _ _ (zDG epl2 e9)⟩ (PtV.same h4 hpv)
  | cons rr0 rrs=>
   refine zCU rfl ?_
   refine ⟨_,rfl,sa,rfl,⟨_,SqL.of (zE _ _ hsaL)⟩,zDc (K:=K) (a:=sa) (xs:=sv) (fun j ys σ H'=>zAk H' ys (nzR i (safe.take j))/\(∃ o,σ=[o,some (.int (0 + (i:Int)))])/\H'=E1)
    ⟨.nil,⟨none,rfl⟩,rfl⟩ (fun j ys σ H' hj ⟨e1,_,e3⟩=>⟨by rw [e3]; exact SqL.of (zE _ _ hsaL),by have h2:=List.length_filter_le (fun r:List Int × Int=>decide (r.1.getD i 0≠0)) (safe.take j); rw [List.length_take] at h2; have h3:=Paired.length e1; unfold nzR at h3; omega⟩) (zAh (by omega)) ?_ ?_⟩
   ·rintro j x ys σ H' hj ⟨hys,⟨o,rfl⟩,rfl⟩
    obtain ⟨r,hr',a9,rfl,ea⟩:=zAc hsv1 hj
    obtain ⟨w1,w2,w3⟩:=WS r (List.mem_of_getElem? hr')
    have eA:=(sj.trans zE) _ _ ea
    refine ⟨_,rfl,_,rfl,a9,_,_,_,rfl,rfl,SqT.of eA,zLZ (k:=i) (by omega),rfl,_,rfl,?_⟩
    by_cases cz:r.1.getD i 0=0
    ·refine zB0 (zFs cz) ?_
     refine ⟨?_,⟨_,rfl⟩,rfl⟩
     unfold nzR at hys |-
     rw [zGL (p:=fun r:List Int × Int=>decide (r.1.getD i 0≠0)) hr' (decide_eq_false fun z=>z cz)]
     exact hys
    ·refine zCU (zF8 cz) ?_
     refine ⟨_,rfl,?_,⟨_,rfl⟩,rfl⟩
     unfold nzR at hys |-
     rw [zEw (p:=fun r:List Int × Int=>decide (r.1.getD i 0≠0)) hr' (decide_eq_true cz)]
     exact zAb (R:=RwV _) ⟨a9,rfl,eA⟩ hys
   rintro ysrn σ H' ⟨hysrn,⟨o,rfl⟩,hZ⟩ rn hrn
   rw [hZ] at hrn hysrn |-
   clear hZ
   rw [List.take_of_length_le (by omega)] at hysrn
   obtain ⟨R1,hhR,zR0,ern⟩:=zAV (HO.lst ysrn) hrn
   rw [hhR]
   have zR:=zE.trans zR0
   have lrn:=Paired.length hysrn
   have len1:ysen.length=(nzR i safe).length:=by rw [hysen,List.length_map,List.length_map]
   have ln0:0 < (nzR i safe).length:=by rw [hnz]; exact Nat.succ_pos _
   have f0:=Int.fmod_nonneg_of_pos (xs.getD (1 + i) 0) (show (0:Int) < (ysen.length:Int) by omega)
   have f1:=Int.fmod_lt_of_pos (xs.getD (1 + i) 0) (show (0:Int) < (ysen.length:Int) by omega)
   obtain ⟨jj,hjj⟩:∃ jj:Nat,(xs.getD (1 + i) 0).fmod (ysen.length:Int)=(jj:Int):=⟨((xs.getD (1 + i) 0).fmod (ysen.length:Int)).toNat,by omega⟩
   obtain ⟨vj,hvj⟩:∃ v,ysrn[jj]? = some v:=⟨_,List.getElem?_eq_getElem (by omega)⟩
   obtain ⟨rj,hrj,aj,rfl,eaj⟩:=zAc hysrn hvj
   have atj:atI ysrn ((xs.getD (1 + i) 0).fmod (ysen.length:Int))=some (.ref aj):=by rw [hjj]; exact zDJ hvj
   have mrj:rj∈safe/\rj.1.getD i 0≠0:=by
    have:=List.mem_filter.mp (List.mem_of_getElem? hrj)
    exact ⟨this.1,of_decide_eq_true this.2⟩
   obtain ⟨w1,w2,w3⟩:=WS rj mrj.1
   have eaj2:=zR0 _ _ eaj
   refine ⟨_,rfl,_,rfl,_,_,rfl,rfl,xa,_,_,_,rfl,rfl,SqL.of (zR _ _ exL),zBS (xs:=xs) (k:=(1 + i)) (by omega) (by omega),_,rfl,en,_,rfl,.inl (SqL.of ((z0.trans zR0) _ _ een)),_,_,rfl,rfl,(show (ysen.length:Int)≠0 by omega),rn,_,_,_,rfl,rfl,SqL.of ern,atj,?_⟩
   refine ⟨_,rfl,_,rfl,aj,_,_,_,rfl,rfl,SqT.of eaj2,zCE _ _,_,rfl,_,rfl,aj,_,_,_,rfl,rfl,SqT.of eaj2,zLZ (k:=i) (by omega),_,_,rfl,rfl,⟨mrj.2,(zDI w2 i).mono⟩,?_⟩
   have bmid:Bd 106 (rj.2.fdiv (rj.1.getD i 0)):=w3.fdiv _
   refine ⟨_,rfl,_,rfl,_,_,rfl,rfl,xa,_,_,_,rfl,rfl,SqL.of (zR _ _ exL),zBS (xs:=xs) (k:=(4 + i)) (by omega) (by omega),_,rfl,_,_,rfl,rfl,⟨Bd.mono (i:=2) (n:=2) Bd.lit (by decide),bP.mono⟩,_,(2 * (1 + (xs.getD 0 0).fmod 4)),rfl,(by omega),(zCB (f:=8) (n:=100) (Bd.mono (n:=4) Bd.lit (by decide)) (by omega) (by omega)),fun yo v1 v2=>?_⟩
   have byo:Bd 4 yo:=zCB (f:=8) Bd.lit (by omega) (by omega)
   refine ⟨_,rfl,st,_,_,_,rfl,rfl,SqT.of (zR _ _ estL),(show atI [V.int (n:Int),x,y,V.int u] 3=some (.int u) from rfl),sz3,fun lo3 hlo3=>?_⟩
   obtain ⟨O1,hhO,zO,elo3⟩:=zAV (HO.lst [V.int 0,V.int 1,V.int u]) hlo3
   rw [hhO]
   obtain ⟨so,eso,bso⟩:=zMd u0 bu (Int.fmod_nonneg_of_pos (xs.getD 7 0) (show (0:Int) < 3 by decide)) (Int.fmod_lt_of_pos (xs.getD 7 0) (show (0:Int) < 3 by decide))
   refine ⟨_,rfl,xa,_,_,_,rfl,rfl,SqL.of ((zR.trans zO) _ _ exL),zBS (xs:=xs) (k:=7) (by omega) (by omega),_,_,rfl,rfl,(show (3:Int)≠0 by decide),lo3,_,_,_,rfl,rfl,SqL.of elo3,eso,_,_,rfl,rfl,⟨byo.mono,bso.mono⟩,?_⟩
   have zA:=zR.trans zO
   refine ⟨_,rfl,.inl ⟨rfl,_,SqL.of (zA _ _ epl)⟩,_,rfl,_,rfl,_,_,rfl,rfl,⟨bmid.mono,bP.mono⟩,_,rfl,_,_,rfl,rfl,_,rfl,_,_,rfl,P0,bP.mono,fun r H9 s9 e9=>?_⟩
   have bt:Bd 110 ((rj.2.fdiv (rj.1.getD i 0)) * (1 + (xs.getD 0 0).fmod 4) + yo * so):=Bd.add (n:=109) ((bmid.mul bP).mono) ((byo.mul bso).mono)
   obtain ⟨l0,lv⟩:=zHe (t:=(rj.2.fdiv (rj.1.getD i 0)) * (1 + (xs.getD 0 0).fmod 4) + yo * so) P0
   have zz:=zA.trans s9
   have epl2:=zz _ _ epl
   refine ⟨pl,pv,_,rfl,rfl,epl2,zAp (by omega),?_⟩
   have h5:=zBA (x:=pl) (H:=H9) (HO.lst (pv++[V.ref r]))
   have h4:=(zAf (B:=[pl]) zz).trans h5
   refine ⟨pv++[V.ref r],pts++[(lowT ((rj.2.fdiv (rj.1.getD i 0)) * (1 + (xs.getD 0 0).fmod 4) + yo * so) (1 + (xs.getD 0 0).fmod 4),lowB ((rj.2.fdiv (rj.1.getD i 0)) * (1 + (xs.getD 0 0).fmod 4) + yo * so) (1 + (xs.getD 0 0).fmod 4))],_,_,_,_,_,rfl,sm.trans h4,zAF,?_,(by rw [List.length_append,lp]; rfl),zBX PO ⟨l0,zDz bt,zDp bP⟩⟩
   exact zAb (R:=FrV _) (y:=(lowT ((rj.2.fdiv (rj.1.getD i 0)) * (1 + (xs.getD 0 0).fmod 4) + yo * so) (1 + (xs.getD 0 0).fmod 4),lowB ((rj.2.fdiv (rj.1.getD i 0)) * (1 + (xs.getD 0 0).fmod 4) + yo * so) (1 + (xs.getD 0 0).fmod 4))) ⟨r,rfl,h5 _ _ (zDG epl2 e9)⟩ (PtV.same h4 hpv)
 rintro σ L0 ⟨pv,pts,o6,o7,o8,o9,oa,rfl,sm,epl,hpv,lp,PO⟩
 exact ⟨_,rfl,q pl pv pts L0 (y1.trans (sm.trans zAZ)) epl (PtV.same zAZ hpv) (by omega) PO⟩
end
def szP (n k:Nat):Nat->Nat × Nat
 | 0=>(110,3)
 | i + 1=>((szP n k i).1 + 2 * ((szP n k i).2 * n) + wK (k - (i + 1)) + 130,2 * ((szP n k i).2 * n) + wK (k - (i + 1)) + 19)
theorem zNq:∀ k,k < 5->∀ i,i < k + 1->wK (k - i) + (szP 1 k i).1 + 2 * ((szP 1 k i).2 * 1) + 400<=7000/\110<=(szP 1 k i).1:=by decide
theorem zNp:∀ k,k < 3->∀ i,i < k + 1->wK (k - i) + (szP 2 k i).1 + 2 * ((szP 2 k i).2 * 2) + 400<=7000/\110<=(szP 2 k i).1:=by decide
theorem zNo:∀ k,k < 2->∀ i,i < k + 1->wK (k - i) + (szP 3 k i).1 + 2 * ((szP 3 k i).2 * 3) + 400<=7000/\110<=(szP 3 k i).1:=by decide
theorem zLp {n k i:Nat} (h:(n=1/\k<=4)\/(n=2/\k<=2)\/(n=3/\k<=1)) (hi:i<=k):wK (k - i) + (szP n k i).1 + 2 * ((szP n k i).2 * n) + 400<=7000/\110<=(szP n k i).1:=by
 rcases h with ⟨rfl,h⟩ | ⟨rfl,h⟩ | ⟨rfl,h⟩
 ·exact zNq k (by omega) i (by omega)
 ·exact zNp k (by omega) i (by omega)
 ·exact zNo k (by omega) i (by omega)
inductive RV (H:Hp) (n:Nat) (bs:List (Int × Int)) (m:MD) (lo hi:Int) (safe:List (List Int × Int)) (k:Nat) (v:V):Prop
 | yes (ok:okTo n bs m lo hi safe k) (l:Addr) (lv:List V) (e:v=.ref l) (h:H l=some (.lst lv)) (r:zCT H lv (zFX n bs m lo hi safe k)):RV H n bs m lo hi safe k v
 | non (e:v=.non):RV H n bs m lo hi safe k v
theorem zJc {C CM:Addr} {H:Hp} {Q:VK} {E:XK} {o kp km sa:Addr} {n k:Nat} {bs:List (Int × Int)} {m:MD} {lo hi:Int} {pv mv sv:List V} {safe:List (List Int × Int)} (TA:zA5 C CM H o n bs [m] pv mv kp km) (TO:ThOk n bs [m]) (r0:m.rows=[]) (G:zCo n bs m lo hi safe) (hsa:H sa=some (.lst sv)) (hsv:zAk H sv safe) (k6:k<=6) (h:∀ d H',Same H H'->RV H' n bs m lo hi safe k d->Q d H'):zDu C CM [.ref o,.ref sa,.int lo,.int hi,.int (k:Int)] H Q E:=
 ⟨o,kp,km,sa,n,k,bs,m,pv,mv,sv,lo,hi,safe,rfl,TA,TO,r0,G,hsa,hsv,k6,fun ok l lv H' s e r=>h _ _ s (.yes ok l lv rfl e r),fun _ H' s=>h _ _ s (.non rfl)⟩
theorem zGu {rows:List (List Int × Int)} {n w b b':Nat} (h:WB rows n w b) (k:b<=b'):WB rows n w b':=fun r hr=>⟨(h r hr).1,(h r hr).2.1,(h r hr).2.2.mono k⟩
section
variable {P:Program} {w:World} {K:PySem.W.Frag} {mg:Str->Option Value} {base:Heap} {cM cP:Addr}
abbrev zDF:Stmt:=top 74
theorem zDB:zAP nl2 ["_law_script"] (zAC zDF):=.a
variable {ac ae:Addr} (af:ClsF K mg "Mode" ac) (ah:zCW K ac) (ag:ClsF K mg "Thing" ae) (ai:zBs K ae)
include af ah ag ai
theorem zOC {k:Nat} {f:Addr} {fd:FuncData} (F:Fun K "law" "law" zDF f fd) (B:Bl mg) (cJ:Fn P w K mg base "_law_game" ["_law_script"] k (zFm K)) (cK:Fn P w K mg base "_law_made" ["_law_spec"] k (zFh ae ac)) (cL:Fn P w K mg base "_law_rooms" nl5 k (zDu ae ac)) (cN:Fn P w K mg base "_law_near" ["_law_spec","_law_safe_here","_law_cell"] k zIn) (ar:Fn P w K mg base "_law_cell_at" ["_law_script","_law_k"] k (zGe K)) (aD:Fn P w K mg base "_law_lies" ["_law_room","_law_point_here"] k (zEL K)) (bQ:Fn P w K mg base "holder" ["thing","safe","low","high","turns","point"] k (zFl ae ac K)) (cO:Fn P w K mg base "_law_right_steering" ["_law_found","_law_low","_law_high"] k zEa) (cQ:Fn P w K mg base "_law_point" ["_law_cell","_law_box_here"] k zEc) (cR:Fn P w K mg base "_law_behind" nl6 k (zFo K)):FnOk P w K mg base CX0 (k + 1) f fd ["_law_script"] (zKM K):=by
 refine F.ok zDB ?_ ?_
 ·rintro vs H Q E ⟨a,ns,rfl,_⟩
  rfl
 rintro cdv A outer s H vs Q E hr ⟨a,ns,rfl,hS,lns,q⟩
 obtain ⟨u_6,E_6,U_6⟩:=L2.zCJ (p:=fun t=>PSs (cxOf CX0 P w K mg base nl2 "law" (zAC zDF) f cdv A outer s H E).nox ((zAL zDF).drop 6) t) (zAD (zBy PassesOwn.never rfl (zAs rfl B.range_ (zAA (pvj 5) zAB)) (zAJ (i:=9) zDB.nd rfl (Or.inl rfl)) (zAD (zAR (i:=10) zDB.nd rfl (Or.inl rfl) (zAK (ji0 zCR) (pvj 5) (pvj 9)))
  (zAD (zAR (i:=11) zDB.nd rfl (Or.inl rfl) (zAG bQ hr rfl (zAA (pvj 6) (zAA (zAi zAy rfl B.list_ zAm (zAA (pvj 2) zAB)) (zAA (pvj 3) (zAA (pvj 4) (zAA (pvj 10) (zAA (zAi zAy rfl B.list_ zAm (zAA (pvj 8) zAB)) zAB))))))))
  (zAD (zBc (PW.pt (zEk (zB9 (zBF (zAG cO hr rfl (zAA (pvj 11) (zAA (pvj 3) (zAA (pvj 4) zAB)))))) (zDX (zB9 (zBF (zAG aD hr rfl (zAA (pvj 2) (zAA (pvj 8) zAB)))))))) (zAH (zAU zFU)) zAj)
  (zAD (zAR (i:=12) zDB.nd rfl (Or.inl rfl) (zAG cQ hr rfl (zAA (zAK (ji0 zAt) (zAG ar hr rfl (zAA (pvj 0) (zAA (zAK (ji0 zAt) zAE (pvj 9)) zAB))) (pvj 9)) (zAA (zAX zAO (pvj 1) zAE (fun _ _=>rfl)) zAB))))
  (zAD (zAR (i:=8) zDB.nd rfl (Or.inl rfl) (zAG cR hr rfl (zAA (zAX zAQ (zAX zAO (pvj 1) zAE (fun _ _=>rfl)) zAE (fun _ _=>rfl)) (zAA (pvj 8) (zAA (pvj 11) (zAA (pvj 12) zAB))))))
  (zAH (zBc (zB9 (zBF (zAG aD hr rfl (zAA (zAX zAQ (pvj 7) (zAK (ji0 zCR) (pvj 10) zAE) (fun _ _=>rfl)) (zAA (pvj 8) zAB))))) (zAH (zAU zFU)) zAj))))))))
 (zAH (zAU (zAG aD hr rfl (zAA (pvj 2) (zAA (pvj 8) zAB))))))
 obtain ⟨u_5,E_5,U_5⟩:=L2.zCJ (p:=fun t=>PSs (cxOf CX0 P w K mg base nl2 "law" (zAC zDF) f cdv A outer s H E).nox ((zAL zDF).drop 5) t) (zAD (zBc (zB9 (zBF (zAG aD hr rfl (zAA (zAX zAQ (pvj 7) (pvj 5) (fun _ _=>rfl)) (zAA (pvj 8) zAB))))) (zAH (zAU (zCH zMf (zAG bQ hr rfl (zAA (pvj 6) (zAA (pvj 2) (zAA (pvj 3) (zAA (pvj 4) (zAA (pvj 5) (zAA (pvj 8) zAB))))))) zHZ (zAq _)))) zAj)
 U_6)
 obtain ⟨u_4,E_4,U_4⟩:=L2.zCJ (p:=fun t=>PSs (cxOf CX0 P w K mg base nl2 "law" (zAC zDF) f cdv A outer s H E).nox ((zAL zDF).drop 4) t) (zAD (zAR (i:=8) zDB.nd rfl (Or.inl rfl) (zAG cN hr rfl (zAA (pvj 1) (zAA (pvj 2) (zAA (zAG ar hr rfl (zAA (pvj 0) (zAA zAE zAB))) zAB)))))
 U_5)
 obtain ⟨u_3,E_3,U_3⟩:=L2.zCJ (p:=fun t=>PSs (cxOf CX0 P w K mg base nl2 "law" (zAC zDF) f cdv A outer s H E).nox ((zAL zDF).drop 3) t) (zAD (zBc (zAx zMf (pvj 7) zHZ (zAq _)) (zAH (zAU zFU)) zAj)
 U_4)
 obtain ⟨u_2,E_2,U_2⟩:=L2.zCJ (p:=fun t=>PSs (cxOf CX0 P w K mg base nl2 "law" (zAC zDF) f cdv A outer s H E).nox ((zAL zDF).drop 2) t) (zAD (zAR (i:=7) zDB.nd rfl (Or.inl rfl) (zAG cL hr rfl (zAA (pvj 6) (zAA (pvj 2) (zAA (pvj 3) (zAA (pvj 4) (zAA (pvj 5) zAB)))))))
 U_3)
 obtain ⟨u_1,E_1,U_1⟩:=L2.zCJ (p:=fun t=>PSs (cxOf CX0 P w K mg base nl2 "law" (zAC zDF) f cdv A outer s H E).nox ((zAL zDF).drop 1) t) (zAD (zAR (i:=6) zDB.nd rfl (Or.inl rfl) (zAG cK hr rfl (zAA (pvj 1) zAB)))
 U_2)
 refine ⟨_,(zAD (zGi (zAG cJ hr rfl (zAA (pvj 0) zAB)) (zDD rfl (zAY (zAJ (i:=1) zDB.nd rfl (Or.inl rfl)) (zAY (zAJ (i:=2) zDB.nd rfl (Or.inl rfl)) (zAY (zAJ (i:=3) zDB.nd rfl (Or.inl rfl)) (zAY (zAJ (i:=4) zDB.nd rfl (Or.inl rfl)) (zAY (zAJ (i:=5) zDB.nd rfl (Or.inl rfl)) zCQ)))))))
 U_1),?_⟩
 try dsimp only [cxOf,Cx.nox,Cx.wish]
 refine ⟨_,rfl,a,ns,rfl,hS,fun v J0 y0 GV=>?_⟩
 obtain ⟨gt,st,sa,n,k,bs,m,u,lo,hi,sv,safe,rfl,egt,SV,esa,hsv,G,TO,r0,k1,kn,u0,bu⟩:=GV
 have n1:=G.n1
 have n3:=G.n3
 have b2:=G.b2
 have s8:=G.s8
 have k4:k<=4:=by omega
 have MO:=TO.mok m List.mem_cons_self
 have OB:BsOk bs:=fun b hb=>⟨TO.bok b hb,(G.bb b hb).1,(G.bb b hb).2⟩
 refine ⟨gt,_,rfl,SqT.of egt,rfl,_,_,rfl,_,_,rfl,_,_,rfl,_,_,rfl,_,_,rfl,rfl,?_⟩
 show u_1 _ [some (.ref a),some (.ref st),some (.ref sa),some (.int lo),some (.int hi),some (.int (k:Int)),none,none,none,none,none,none,none] _
 rw [E_1]
 try dsimp only [cxOf,Cx.nox,Cx.wish]
 have SG1:=y0
 refine ⟨_,rfl,.ref st,n,bs,[m],u,rfl,SV,TO,fun o kp km pv mv J1 y1 TA=>?_⟩
 have SG2:=SG1.trans y1
 replace esa:=(y1 _ _ esa)
 replace hsv:=(zAk.same y1 hsv)
 replace SV:=(zFY.same y1 SV)
 show u_2 _ [some (.ref a),some (.ref st),some (.ref sa),some (.int lo),some (.int hi),some (.int (k:Int)),some (.ref o),none,none,none,none,none,none] _
 rw [E_2]
 try dsimp only [cxOf,Cx.nox,Cx.wish]
 refine ⟨_,rfl,_,rfl,_,rfl,_,rfl,_,rfl,zJc TA TO r0 G esa hsv (by omega) (fun dV J2 y2 hd=>?_)⟩
 have SG3:=SG2.trans y2
 replace esa:=(y2 _ _ esa)
 replace hsv:=(zAk.same y2 hsv)
 replace SV:=(zFY.same y2 SV)
 replace TA:=(zA5.same y2 TA)
 show u_3 _ [some (.ref a),some (.ref st),some (.ref sa),some (.int lo),some (.int hi),some (.int (k:Int)),some (.ref o),some dV,none,none,none,none,none] _
 rw [E_3]
 try dsimp only [cxOf,Cx.nox,Cx.wish]
 cases hd with
 | non e=>
  cases e
  refine ⟨_,rfl,rfl,_,rfl,zCU rfl ?_⟩
  exact q _
 | yes ok rl lv e erl hlv=>
 cases e
 refine ⟨_,rfl,rfl,_,rfl,zB0 rfl ?_⟩
 show u_4 _ [some (.ref a),some (.ref st),some (.ref sa),some (.int lo),some (.int hi),some (.int (k:Int)),some (.ref o),some (.ref rl),none,none,none,none,none] _
 rw [E_4]
 try dsimp only [cxOf,Cx.nox,Cx.wish]
 obtain ⟨st',pa,ma,pv0,mv0,zst,est,epa,hpv,ema,hmv⟩:=SV
 cases zst
 cases hmv with
 | cons MT rest=>
 cases rest
 rename_i v0
 obtain ⟨tt,e0,na,sb,qa,aa,rv,nv,wv,rfl,MT2⟩:∃ tt e0 na sb qa aa rv nv wv,v0=.ref tt/\(MTV J2 (.ref tt) m/\e0=e0/\na=na/\sb=sb/\qa=qa/\aa=aa/\rv=rv/\nv=nv/\wv=wv):=by
  obtain ⟨tt,e0,na,sb,qa,aa,rv,nv,wv,rfl,h1,h2,h3,h4,h5,h6,h7,h8,h9⟩:=MT
  exact ⟨tt,e0,na,sb,qa,aa,rv,nv,wv,rfl,⟨tt,e0,na,sb,qa,aa,rv,nv,wv,rfl,h1,h2,h3,h4,h5,h6,h7,h8,h9⟩,rfl,rfl,rfl,rfl,rfl,rfl,rfl,rfl⟩
 have MT:=MT2.1
 clear MT2
 refine ⟨_,rfl,_,rfl,_,rfl,a,ns,7,rfl,SG3.seq hS,(by decide),st,sa,_,_,_,u,n,sv,safe,rfl,est,n1,n3,u0,bu,esa,hsv,G.sf,s8,fun pa0 qv0 pts0 J3 y3 epa0 hqv0 lp0 PO0=>?_⟩
 have SG4:=SG3.trans y3
 replace esa:=(y3 _ _ esa)
 replace hsv:=(zAk.same y3 hsv)
 replace TA:=(zA5.same y3 TA)
 replace erl:=(y3 _ _ erl)
 replace hlv:=(zCT.same y3 hlv)
 replace est:=(y3 _ _ est)
 replace epa:=(y3 _ _ epa)
 replace hpv:=(zA0 y3 hpv)
 replace ema:=(y3 _ _ ema)
 replace MT:=(MTV.same y3 MT)
 show u_5 _ [some (.ref a),some (.ref st),some (.ref sa),some (.int lo),some (.int hi),some (.int (k:Int)),some (.ref o),some (.ref rl),some (.ref pa0),none,none,none,none] _
 rw [E_5]
 try dsimp only [cxOf,Cx.nox,Cx.wish]
 obtain ⟨kk,ek⟩:∃ kk:Nat,k=kk + 1:=⟨k - 1,by omega⟩
 obtain ⟨a1,rv1,at1',ea1,hr1⟩:=zFp hlv (Nat.le_refl k)
 have six:=zGb (k:=k) (by omega)
 have HBk:=G.held k
 have szz:=zLp (i:=0) kn (Nat.zero_le _)
 have szv:szP n k 0=(110,3):=rfl
 rw [szv] at szz
 dsimp only at szz
 rw [Nat.sub_zero] at szz
 have okk:=ok k (Nat.le_refl _)
 refine ⟨_,rfl,_,rfl,rl,_,_,_,rfl,rfl,SqL.of erl,at1',_,rfl,a1,pa0,rv1,qv0,_,pts0,n,wK k,110,3,3 * n,rfl,SqL.of ea1,hr1,SqL.of epa0,hqv0,zGu HBk (by omega),(by omega),lp0,n3,PO0,(by rw [lp0]; exact Nat.le_refl _),(by omega),fun y J4 y4 hy=>?_⟩
 refine ⟨_,rfl,?_⟩
 have SG5:=SG4.trans y4
 replace esa:=(y4 _ _ esa)
 replace hsv:=(zAk.same y4 hsv)
 replace TA:=(zA5.same y4 TA)
 replace erl:=(y4 _ _ erl)
 replace hlv:=(zCT.same y4 hlv)
 replace est:=(y4 _ _ est)
 replace epa:=(y4 _ _ epa)
 replace hpv:=(zA0 y4 hpv)
 replace ema:=(y4 _ _ ema)
 replace MT:=(MTV.same y4 MT)
 replace epa0:=(y4 _ _ epa0)
 replace hqv0:=(PtV.same y4 hqv0)
 by_cases c:∀ r∈zCh n bs m lo hi safe k,zCV r (ptQ pts0)
 case neg=>
  have y0':y=false:=by
   cases y with
   | false=>rfl
   | true=>exact absurd (hy.mp rfl) c
  subst y0'
  refine zCU rfl ?_
  refine ⟨_,rfl,_,rfl,_,rfl,_,rfl,_,rfl,_,rfl,o,kp,km,sa,pa0,n,kk,110,3,3 * n,bs,m,pv,mv,sv,qv0,lo,hi,safe,pts0,_,rfl,(by omega),TA,TO,r0,G,esa,hsv,(by omega),ek ▸ ok,SqL.of epa0,hqv0,lp0,PO0,Nat.le_refl _,(by decide),(by rw [<- ek]; omega),fun _ H' s'=>?_,fun c'=>absurd (ek ▸ c') c⟩
  exact ⟨rfl,q _⟩
 have y1':y=true:=hy.mpr c
 subst y1'
 refine zB0 rfl ?_
 show u_6 _ [some (.ref a),some (.ref st),some (.ref sa),some (.int lo),some (.int hi),some (.int (k:Int)),some (.ref o),some (.ref rl),some (.ref pa0),none,none,none,none] _
 rw [E_6]
 try dsimp only [cxOf,Cx.nox,Cx.wish]
 refine ⟨_,rfl,_,rfl,(by omega),(by omega),zBd (lo:=0) (n:=((k:Nat):Int).toNat)
  (fun i σ H'=>∃ (pa2:Addr) (qv:List V) (pts:List (Int × Int)) (o9 o10 o11 o12:Option V),σ=[some (.ref a),some (.ref st),some (.ref sa),some (.int lo),some (.int hi),some (.int (k:Int)),some (.ref o),some (.ref rl),some (.ref pa2),o9,o10,o11,o12]/\Same J4 H'/\H' pa2=some (.lst qv)/\PtV H' qv pts/\pts.length=n/\PtB pts (szP n k i).1 (szP n k i).2/\∀ r∈zCh n bs m lo hi safe (k - i),zCV r (ptQ pts))
  ⟨pa0,qv0,pts0,none,none,none,none,rfl,Same.refl _,epa0,hqv0,lp0,PO0,c⟩ ?_ ?_⟩
 ·rintro i σ L0 hik ⟨pa2,qv,pts,o9,o10,o11,o12,rfl,sm,epa2,hqv,lp,PO,HH⟩
  have ik:i < k:=by omega
  obtain ⟨j,ej⟩:∃ j:Nat,k - i=j + 1:=⟨k - i - 1,by omega⟩
  rw [ej] at HH
  obtain ⟨z1,z2⟩:=zLp kn (Nat.le_of_lt ik)
  obtain ⟨z3,z4⟩:=zLp (i:=i + 1) kn ik
  have e1:k - (i + 1)=j:=by omega
  have es:szP n k (i + 1)=((szP n k i).1 + 2 * ((szP n k i).2 * n) + wK j + 130,2 * ((szP n k i).2 * n) + wK j + 19):=by rw [<- e1]; rfl
  rw [ej] at z1
  generalize hA:(szP n k i).1=A1 at *
  generalize hE:(szP n k i).2=E1 at *
  generalize hD:E1 * n=D1 at *
  have sixj:=zGb (k:=j) (by omega)
  have wj:wK (j + 1)=2 * wK j + 10:=rfl
  have esa:=sm _ _ esa
  have hsv:=zAk.same sm hsv
  have TA:=zA5.same sm TA
  have erl:=sm _ _ erl
  have hlv:=zCT.same sm hlv
  have est:=sm _ _ est
  have epa:=sm _ _ epa
  have hpv:=zA0 sm hpv
  have ema:=sm _ _ ema
  have MT:=MTV.same sm MT
  refine ⟨_,rfl,_,rfl,_,_,rfl,rfl,?_⟩
  refine ⟨_,rfl,_,rfl,sa,_,rfl,.inl (SqL.of esa),fun s2 hs2=>?_⟩
  obtain ⟨L1,hhL1,yL1,es2⟩:=zAV (HO.lst sv) hs2
  rw [hhL1]
  have SL1:=sm.trans yL1
  replace epa2:=(yL1 _ _ epa2)
  replace hqv:=(PtV.same yL1 hqv)
  replace esa:=(yL1 _ _ esa)
  replace hsv:=(zAk.same yL1 hsv)
  replace TA:=(zA5.same yL1 TA)
  replace erl:=(yL1 _ _ erl)
  replace hlv:=(zCT.same yL1 hlv)
  replace est:=(yL1 _ _ est)
  replace epa:=(yL1 _ _ epa)
  replace hpv:=(zA0 yL1 hpv)
  replace ema:=(yL1 _ _ ema)
  replace MT:=(MTV.same yL1 MT)
  refine ⟨_,rfl,_,rfl,_,rfl,_,rfl,pa2,_,rfl,.inl (SqL.of epa2),fun p2 hp2=>?_⟩
  obtain ⟨L2,hhL2,yL2,ep2⟩:=zAV (HO.lst qv) hp2
  rw [hhL2]
  have SL2:=SL1.trans yL2
  replace epa2:=(yL2 _ _ epa2)
  replace hqv:=(PtV.same yL2 hqv)
  replace esa:=(yL2 _ _ esa)
  replace hsv:=(zAk.same yL2 hsv)
  replace TA:=(zA5.same yL2 TA)
  replace erl:=(yL2 _ _ erl)
  replace hlv:=(zCT.same yL2 hlv)
  replace est:=(yL2 _ _ est)
  replace epa:=(yL2 _ _ epa)
  replace hpv:=(zA0 yL2 hpv)
  replace ema:=(yL2 _ _ ema)
  replace MT:=(MTV.same yL2 MT)
  replace es2:=(yL2 _ _ es2)
  refine ⟨o,kp,km,s2,p2,n,j,A1,E1,D1,bs,m,pv,mv,sv,qv,lo,hi,safe,pts,_,rfl,(by omega),TA,TO,r0,G,es2,hsv,(by omega),ok.less (by omega),SqL.of ep2,hqv,lp,PO,(by omega),z2,(by omega),fun c'=>absurd HH c',fun _ sr tS bS J9 y9 esr bS0 LW btS bbS=>?_⟩
  have SL3:=SL2.trans y9
  replace epa2:=(y9 _ _ epa2)
  replace hqv:=(PtV.same y9 hqv)
  replace esa:=(y9 _ _ esa)
  replace hsv:=(zAk.same y9 hsv)
  replace erl:=(y9 _ _ erl)
  replace hlv:=(zCT.same y9 hlv)
  replace est:=(y9 _ _ est)
  replace epa:=(y9 _ _ epa)
  replace hpv:=(zA0 y9 hpv)
  replace ema:=(y9 _ _ ema)
  replace MT:=(MTV.same y9 MT)
  have hold1:=fun v hv=>zLE (v:=v) G MO HH hv LW.all LW.one
  have inb:∀ (jj:Nat) (b:Int × Int),bs[jj]? = some b->((b.1:Int):Rat)<=((b.1:Int):Rat)/\((b.1:Int):Rat)<=((b.2:Int):Rat):=fun jj b hb=>⟨Rat.le_refl,by exact_mod_cast TO.bok b (List.mem_of_getElem? hb)⟩
  have lohi:=(hold1 (fun jj=>((bs.getD jj (0,0)).1:Rat)) (fun jj b hb=>by rw [zFH hb]; exact inb jj b hb)).2
  have lb:lo * bS<=tS:=(zMg bS0).mpr lohi.1
  have hb:tS<=hi * bS:=(zMT bS0).mpr lohi.2
  refine ⟨_,rfl,_,rfl,_,rfl,sr,tS,bS,lo,hi,rfl,esr,bS0,lb,hb,bbS.mono (by omega),G.lo,G.hi,_,rfl,iteF ?_⟩
  refine ⟨_,rfl,_,rfl,sa,pa2,sv,qv,safe,pts,n,2,A1,E1,D1,rfl,SqL.of esa,hsv,SqL.of epa2,hqv,zGu G.sf (by decide),(by omega),lp,n3,PO,(by rw [lp]; omega),(by omega),fun y2 J10 y10 hy2=>?_⟩
  have y2t:y2=true:=hy2.mpr (zHl G HH)
  subst y2t
  refine ⟨_,rfl,iteF ?_⟩
  have SL4:=SL3.trans y10
  replace epa2:=(y10 _ _ epa2)
  replace hqv:=(PtV.same y10 hqv)
  replace esa:=(y10 _ _ esa)
  replace hsv:=(zAk.same y10 hsv)
  replace erl:=(y10 _ _ erl)
  replace hlv:=(zCT.same y10 hlv)
  replace est:=(y10 _ _ est)
  replace epa:=(y10 _ _ epa)
  replace hpv:=(zA0 y10 hpv)
  replace ema:=(y10 _ _ ema)
  replace MT:=(MTV.same y10 MT)
  replace esr:=(y10 _ _ esr)
  refine ⟨_,rfl,_,rfl,_,_,rfl,rfl,a,ns,_,rfl,(SG5.trans SL4).seq hS,(by omega),_,rfl,_,_,rfl,rfl,_,rfl,st,_,_,_,rfl,rfl,SqT.of est,(show atI [V.int (n:Int),V.ref pa,V.ref ma,V.int u] 1=some (.ref pa) from rfl),_,pa,pv0,bs,rfl,epa,hpv,b2,OB,fun dl dv vts J11 y11 edl hdv ldv PV IB=>?_⟩
  have SL5:=SL4.trans y11
  replace epa2:=(y11 _ _ epa2)
  replace hqv:=(PtV.same y11 hqv)
  replace esa:=(y11 _ _ esa)
  replace hsv:=(zAk.same y11 hsv)
  replace erl:=(y11 _ _ erl)
  replace hlv:=(zCT.same y11 hlv)
  replace est:=(y11 _ _ est)
  replace ema:=(y11 _ _ ema)
  replace MT:=(MTV.same y11 MT)
  replace esr:=(y11 _ _ esr)
  refine ⟨_,rfl,st,_,_,_,rfl,rfl,SqT.of est,(show atI [V.int (n:Int),V.ref pa,V.ref ma,V.int u] 2=some (.ref ma) from rfl),ma,_,_,_,rfl,rfl,SqL.of ema,(show atI [V.ref tt] 0=some (.ref tt) from rfl),_,rfl,_,rfl,_,rfl,tt,pa2,sr,dl,n,A1,E1,D1,wK j + A1 + D1 + 10,wK j + D1 + 6,A1 + 2 * D1 + wK j + 130,bs,m,lo,hi,tS,bS,safe,qv,dv,pts,vts,rfl,MT,MO,G,epa2,hqv,lp,PO,(by omega),esr,bS0,btS,bbS,edl,hdv,ldv,PV,(by omega),(by omega),(by omega),(by omega),(by omega),fun np nqv npts J12 y12 enp hnp lnp NPO NQ=>?_⟩
  have SL6:=SL5.trans y12
  replace epa2:=(y12 _ _ epa2)
  replace hqv:=(PtV.same y12 hqv)
  replace esa:=(y12 _ _ esa)
  replace hsv:=(zAk.same y12 hsv)
  replace erl:=(y12 _ _ erl)
  replace hlv:=(zCT.same y12 hlv)
  obtain ⟨a0,rv0,at0',ea0,hr0⟩:=zFp (j:=j) hlv (by omega)
  have at0'':atI lv ((k:Int) - (0 + (i:Int)) - 1)=some (.ref a0):=by rw [show (k:Int) - (0 + (i:Int)) - 1=(j:Int) by omega]; exact at0'
  have HBj:=G.held j
  have okj:=ok j (by omega)
  have NH:=(hold1 (ptQ vts) IB).1
  have NHp:∀ r∈zCh n bs m lo hi safe j,zCV r (ptQ npts):=fun r hr=>by
   have h:=NH r hr
   unfold zCV dotQ at h |-
   rw [zBG fun jj hjj=>by rw [NQ jj (by have:=(HBj r hr).1; omega)]]
   exact h
  have NPO':PtB npts (szP n k (i + 1)).1 (szP n k (i + 1)).2:=by
   rw [es]
   exact fun p hp=>⟨(NPO p hp).1,(NPO p hp).2.1,(NPO p hp).2.2.mono (by omega)⟩
  rw [es] at z3
  dsimp only at z3
  refine ⟨_,rfl,_,rfl,_,_,rfl,rfl,rl,_,_,_,rfl,rfl,SqL.of erl,at0'',_,rfl,a0,np,rv0,nqv,_,npts,n,wK j,A1 + 2 * D1 + wK j + 130,2 * D1 + wK j + 19,(2 * D1 + wK j + 19) * n,rfl,SqL.of ea0,hr0,SqL.of enp,hnp,zGu HBj (by omega),(by omega),lnp,n3,(fun p hp=>⟨(NPO p hp).1,(NPO p hp).2.1,(NPO p hp).2.2.mono (by omega)⟩),(by rw [lnp]; exact Nat.le_refl _),(by rw [e1] at z3; omega),fun y3 J13 y13 hy3=>?_⟩
  have y3t:y3=true:=hy3.mpr NHp
  subst y3t
  refine ⟨_,rfl,iteF ?_⟩
  have SL7:=SL6.trans y13
  replace epa2:=(y13 _ _ epa2)
  replace hqv:=(PtV.same y13 hqv)
  replace esa:=(y13 _ _ esa)
  replace hsv:=(zAk.same y13 hsv)
  replace enp:=(y13 _ _ enp)
  replace hnp:=(PtV.same y13 hnp)
  refine ⟨np,nqv,npts,_,_,_,_,rfl,SL7,enp,hnp,lnp,NPO',?_⟩
  rw [e1]
  exact NHp
 rintro σ L0 ⟨pa2,qv,pts,o9,o10,o11,o12,rfl,sm,epa2,hqv,lp,PO,HH⟩
 rw [show ((k:Nat):Int).toNat=k by omega] at PO HH
 rw [Nat.sub_self] at HH
 obtain ⟨z1,z2⟩:=zLp (i:=k) kn (Nat.le_refl k)
 refine ⟨_,rfl,_,rfl,sa,pa2,sv,qv,safe,pts,n,2,(szP n k k).1,(szP n k k).2,(szP n k k).2 * n,rfl,SqL.of (sm _ _ esa),zAk.same sm hsv,SqL.of epa2,hqv,zGu G.sf (by decide),(by omega),lp,n3,PO,(by rw [lp]; exact Nat.le_refl _),(by omega),fun y2 J10 y10 hy2=>?_⟩
 have y2t:y2=true:=hy2.mpr (zHl G HH)
 subst y2t
 exact q _
end
end K82
namespace L2
theorem zCs {α:Type} {P:List α->Prop} (h:∀ x0:α,P [x0]):∀ us:List α,us.length=1->P us
 | [x0],_=>h x0
theorem zBu {α:Type} {P:List α->Prop} (h:∀ x0 x1:α,P [x0,x1]):∀ us:List α,us.length=2->P us
 | [x0,x1],_=>h x0 x1
theorem zE3 {α:Type} {P:List α->Prop} (h:∀ x0 x1 x2:α,P [x0,x1,x2]):∀ us:List α,us.length=3->P us
 | [x0,x1,x2],_=>h x0 x1 x2
theorem zGp {α:Type} {P:List α->Prop} (h:∀ x0 x1 x2 x3:α,P [x0,x1,x2,x3]):∀ us:List α,us.length=4->P us
 | [x0,x1,x2,x3],_=>h x0 x1 x2 x3
theorem zLb {α:Type} {P:List α->Prop} (h:∀ x0 x1 x2 x3 x4:α,P [x0,x1,x2,x3,x4]):∀ us:List α,us.length=5->P us
 | [x0,x1,x2,x3,x4],_=>h x0 x1 x2 x3 x4
theorem zOW {α:Type} {P:List α->Prop} (h:∀ x0 x1 x2 x3 x4 x5:α,P [x0,x1,x2,x3,x4,x5]):∀ us:List α,us.length=6->P us
 | [x0,x1,x2,x3,x4,x5],_=>h x0 x1 x2 x3 x4 x5
theorem zOV {α:Type} {P:List α->Prop} (h:∀ x0 x1 x2 x3 x4 x5 x6:α,P [x0,x1,x2,x3,x4,x5,x6]):∀ us:List α,us.length=7->P us
 | [x0,x1,x2,x3,x4,x5,x6],_=>h x0 x1 x2 x3 x4 x5 x6
end L2
namespace K82
open PySem L2 Sh
theorem all_mk {l:W.OpenLaw} {w:World} {K:W.Frag} {h:Heap} {mg:Str->Option Value} {fa f0 f1 f2 f3 f4 f5 f6 f7 f8 f9 f10 f11 f12 f13 f14 f15 f16 f17 f18 f19 f20 f21 f22 f23 f24 f25 f26 f27 f28 f29 f30 f31 f32 f33 f34 f35 f36 f37 f38 f39 f40 f41 f42 f43 f44 f45 f46 f47 f48 f49 f50 f51 f52 f53 f54 f55 f56 f57 f58 f59:Addr} (X:K.In h) (G:h.Ns mainGlobals mg) (hfa:mg "law" = some (.ref fa))
  {od0 an0 od1 an1 od2 an2 od3 an3 od4 an4 od5 an5 od6 an6 od7 an7 od8 an8 od9 an9 od10 an10 od11 an11 od12 an12 od13 an13 od14 an14 od15 an15 od16 an16 od17 an17 od18 an18 od19 an19 od20 an20 od21 an21 od22 an22 od23 an23 od24 an24 od25 an25 od26 an26 od27 an27 od28 an28 od29 an29 od30 an30 od31 an31 od32 an32 od33 an33 od34 an34 od35 an35 od36 an36 od37 an37 od38 an38 od39 an39 od40 an40 od41 an41 od42 an42 od43 an43 od44 an44 od45 an45 od46 an46 od47 an47 od48 an48 od49 an49 od50 an50 od51 an51 od52 an52 od53 an53 od54 an54 od55 an55 od56 an56 od57 an57 od58 an58 od59 an59:Option Addr} {sl0 sl1 sl2 sl3 sl4 sl5 sl6 sl7 sl8 sl9 sl10 sl11 sl12 sl13 sl14 sl15 sl16 sl17 sl18 sl19 sl20 sl21 sl22 sl23 sl24 sl25 sl26 sl27 sl28 sl29 sl30 sl31 sl32 sl33 sl34 sl35 sl36 sl37 sl38 sl39 sl40 sl41 sl42 sl43 sl44 sl45 sl46 sl47 sl48 sl49 sl50 sl51 sl52 sl53 sl54 sl55 sl56 sl57 sl58 sl59:Array (Option Value)} {oc0 kV0 dc0 pm0 cd0 ct0 oc1 kV1 dc1 pm1 cd1 ct1 oc2 kV2 dc2 pm2 cd2 ct2 oc3 kV3 dc3 pm3 cd3 ct3 oc4 kV4 dc4 pm4 cd4 ct4 oc5 kV5 dc5 pm5 cd5 ct5 oc6 kV6 dc6 pm6 cd6 ct6 oc7 kV7 dc7 pm7 cd7 ct7 oc8 kV8 dc8 pm8 cd8 ct8 oc9 kV9 dc9 pm9 cd9 ct9 oc10 kV10 dc10 pm10 cd10 ct10 oc11 kV11 dc11 pm11 cd11 ct11 oc12 kV12 dc12 pm12 cd12 ct12 oc13 kV13 dc13 pm13 cd13 ct13 oc14 kV14 dc14 pm14 cd14 ct14 oc15 kV15 dc15 pm15 cd15 ct15 oc16 kV16 dc16 pm16 cd16 ct16 oc17 kV17 dc17 pm17 cd17 ct17 oc18 kV18 dc18 pm18 cd18 ct18 oc19 kV19 dc19 pm19 cd19 ct19 oc20 kV20 dc20 pm20 cd20 ct20 oc21 kV21 dc21 pm21 cd21 ct21 oc22 kV22 dc22 pm22 cd22 ct22 oc23 kV23 dc23 pm23 cd23 ct23 oc24 kV24 dc24 pm24 cd24 ct24 oc25 kV25 dc25 pm25 cd25 ct25 oc26 kV26 dc26 pm26 cd26 ct26 oc27 kV27 dc27 pm27 cd27 ct27 oc28 kV28 dc28 pm28 cd28 ct28 oc29 kV29 dc29 pm29 cd29 ct29 oc30 kV30 dc30 pm30 cd30 ct30 oc31 kV31 dc31 pm31 cd31 ct31 oc32 kV32 dc32 pm32 cd32 ct32 oc33 kV33 dc33 pm33 cd33 ct33 oc34 kV34 dc34 pm34 cd34 ct34 oc35 kV35 dc35 pm35 cd35 ct35 oc36 kV36 dc36 pm36 cd36 ct36 oc37 kV37 dc37 pm37 cd37 ct37 oc38 kV38 dc38 pm38 cd38 ct38 oc39 kV39 dc39 pm39 cd39 ct39 oc40 kV40 dc40 pm40 cd40 ct40 oc41 kV41 dc41 pm41 cd41 ct41 oc42 kV42 dc42 pm42 cd42 ct42 oc43 kV43 dc43 pm43 cd43 ct43 oc44 kV44 dc44 pm44 cd44 ct44 oc45 kV45 dc45 pm45 cd45 ct45 oc46 kV46 dc46 pm46 cd46 ct46 oc47 kV47 dc47 pm47 cd47 ct47 oc48 kV48 dc48 pm48 cd48 ct48 oc49 kV49 dc49 pm49 cd49 ct49 oc50 kV50 dc50 pm50 cd50 ct50 oc51 kV51 dc51 pm51 cd51 ct51 oc52 kV52 dc52 pm52 cd52 ct52 oc53 kV53 dc53 pm53 cd53 ct53 oc54 kV54 dc54 pm54 cd54 ct54 oc55 kV55 dc55 pm55 cd55 ct55 oc56 kV56 dc56 pm56 cd56 ct56 oc57 kV57 dc57 pm57 cd57 ct57 oc58 kV58 dc58 pm58 cd58 ct58 oc59 kV59 dc59 pm59 cd59 ct59:Value}
  {ac ae:Addr}
  (aI:W.nsIn K mainGlobals "Mode" = some (some (.ref ac)))
  (aJ:W.plainGet K ac Str.empty=true)
  (aK:W.hasDictIn K ac=true)
  (aL:W.plainOver K ac=true)
  (aN:W.findIn K (.ref ac) "__setattr__" = some (some (.builtin "object.__setattr__")))
  (aO:W.makesIn K ac=true)
  (aQ:W.keepIn K (.ref ac)=true)
  (aR:W.findIn K (.ref ac) "__class__" = some (some (.builtin "object.__class__")))
  (aS:W.specialIn K (.builtin "object.__class__") "__get__" = some (some (.builtin "getset_descriptor.__get__")))
  (aT:W.takesIn K (.builtin "object.__class__")=some true)
  (aU:W.mroIn K ac (.type "object")=some true)
  (aV:W.findIn K (.ref ac) "rows" = some none)
  (aW:W.findIn K (.ref ac) "nexts" = some none)
  (aX:W.findIn K (.ref ac) "steer" = some none)
  (aY:W.findIn K (.ref ac) "push" = some none)
  (aZ:W.findIn K (.ref ac) "add" = some none)
  (be:W.findIn K (.ref ac) "divisor" = some none)
  (bi:W.nsIn K mainGlobals "Thing" = some (some (.ref ae)))
  (bj:W.plainGet K ae Str.empty=true)
  (bp:W.hasDictIn K ae=true)
  (bq:W.plainOver K ae=true)
  (bA:W.findIn K (.ref ae) "__setattr__" = some (some (.builtin "object.__setattr__")))
  (bB:W.makesIn K ae=true)
  (bC:W.keepIn K (.ref ae)=true)
  (bD:W.findIn K (.ref ae) "__class__" = some (some (.builtin "object.__class__")))
  (bE:W.specialIn K (.builtin "object.__class__") "__get__" = some (some (.builtin "getset_descriptor.__get__")))
  (bF:W.takesIn K (.builtin "object.__class__")=some true)
  (bG:W.mroIn K ae (.type "object")=some true)
  (bH:W.findIn K (.ref ae) "many" = some none)
  (bI:W.findIn K (.ref ae) "kept_pushes" = some none)
  (bJ:W.findIn K (.ref ae) "kept_modes" = some none)
  {T2:Addr} {ocT2:Value} {odT2:Option Addr} {nT2:Nat} {slT2:Array (Option Value)} {tk2:Tok}
  {T7:Addr} {ocT7:Value} {odT7:Option Addr} {nT7:Nat} {slT7:Array (Option Value)} {tk7:Tok}
  {T20:Addr} {ocT20:Value} {odT20:Option Addr} {nT20:Nat} {slT20:Array (Option Value)} {tk20:Tok}
  (a0:W.nsIn K mainGlobals "is_whole" = some (some (.ref f0))) (l0:K.lookup f0=some ⟨oc0,od0,.func (W.fnOf "is_whole" "is_whole" (zAN zC0) (zAL zC0) (zAC zC0) .none kV0 dc0 pm0 an0 cd0 ct0),sl0⟩) (c0:W.codeIn K cd0 "is_whole" = true) (k0:W.keepIn K (.ref f0)=true)
  (a1:W.nsIn K mainGlobals "common_divisor" = some (some (.ref f1))) (l1:K.lookup f1=some ⟨oc1,od1,.func (W.fnOf "common_divisor" "common_divisor" (zAN zBL) (zAL zBL) (zAC zBL) .none kV1 dc1 pm1 an1 cd1 ct1),sl1⟩) (c1:W.codeIn K cd1 "common_divisor" = true) (k1:W.keepIn K (.ref f1)=true)
  (a2:W.nsIn K mainGlobals "fraction" = some (some (.ref f2))) (l2:K.lookup f2=some ⟨oc2,od2,.func (W.fnOf "fraction" "fraction" (zAN zC1) (zAL zC1) (zAC zC1) (.ref T2) kV2 dc2 pm2 an2 cd2 ct2),sl2⟩) (c2:W.codeIn K cd2 "fraction" = true) (k2:W.keepIn K (.ref f2)=true)
  (t2:K.lookup T2=some ⟨ocT2,odT2,.seq #[.int 1 tk2] nT2,slT2⟩)
  (a3:W.nsIn K mainGlobals "under" = some (some (.ref f3))) (l3:K.lookup f3=some ⟨oc3,od3,.func (W.fnOf "under" "under" (zAN zE7) (zAL zE7) (zAC zE7) .none kV3 dc3 pm3 an3 cd3 ct3),sl3⟩) (c3:W.codeIn K cd3 "under" = true) (k3:W.keepIn K (.ref f3)=true)
  (a4:W.nsIn K mainGlobals "direction" = some (some (.ref f4))) (l4:K.lookup f4=some ⟨oc4,od4,.func (W.fnOf "direction" "direction" (zAN zCF) (zAL zCF) (zAC zCF) .none kV4 dc4 pm4 an4 cd4 ct4),sl4⟩) (c4:W.codeIn K cd4 "direction" = true) (k4:W.keepIn K (.ref f4)=true)
  (a5:W.nsIn K mainGlobals "bounded" = some (some (.ref f5))) (l5:K.lookup f5=some ⟨oc5,od5,.func (W.fnOf "bounded" "bounded" (zAN zC8) (zAL zC8) (zAC zC8) .none kV5 dc5 pm5 an5 cd5 ct5),sl5⟩) (c5:W.codeIn K cd5 "bounded" = true) (k5:W.keepIn K (.ref f5)=true)
  (a6:W.nsIn K mainGlobals "tidied" = some (some (.ref f6))) (l6:K.lookup f6=some ⟨oc6,od6,.func (W.fnOf "tidied" "tidied" (zAN zD4) (zAL zD4) (zAC zD4) .none kV6 dc6 pm6 an6 cd6 ct6),sl6⟩) (c6:W.codeIn K cd6 "tidied" = true) (k6:W.keepIn K (.ref f6)=true)
  (a7:W.nsIn K mainGlobals "copied" = some (some (.ref f7))) (l7:K.lookup f7=some ⟨oc7,od7,.func (W.fnOf "copied" "copied" (zAN zBt) (zAL zBt) (zAC zBt) (.ref T7) kV7 dc7 pm7 an7 cd7 ct7),sl7⟩) (c7:W.codeIn K cd7 "copied" = true) (k7:W.keepIn K (.ref f7)=true)
  (t7:K.lookup T7=some ⟨ocT7,odT7,.seq #[.int 5 tk7] nT7,slT7⟩)
  (a8:W.nsIn K mainGlobals "is_numbers" = some (some (.ref f8))) (l8:K.lookup f8=some ⟨oc8,od8,.func (W.fnOf "is_numbers" "is_numbers" (zAN zCL) (zAL zCL) (zAC zCL) .none kV8 dc8 pm8 an8 cd8 ct8),sl8⟩) (c8:W.codeIn K cd8 "is_numbers" = true) (k8:W.keepIn K (.ref f8)=true)
  (a9:W.nsIn K mainGlobals "is_table" = some (some (.ref f9))) (l9:K.lookup f9=some ⟨oc9,od9,.func (W.fnOf "is_table" "is_table" (zAN zCb) (zAL zCb) (zAC zCb) .none kV9 dc9 pm9 an9 cd9 ct9),sl9⟩) (c9:W.codeIn K cd9 "is_table" = true) (k9:W.keepIn K (.ref f9)=true)
  (a10:W.nsIn K mainGlobals "is_row" = some (some (.ref f10))) (l10:K.lookup f10=some ⟨oc10,od10,.func (W.fnOf "is_row" "is_row" (zAN zD9) (zAL zD9) (zAC zD9) .none kV10 dc10 pm10 an10 cd10 ct10),sl10⟩) (c10:W.codeIn K cd10 "is_row" = true) (k10:W.keepIn K (.ref f10)=true)
  (a11:W.nsIn K mainGlobals "is_room" = some (some (.ref f11))) (l11:K.lookup f11=some ⟨oc11,od11,.func (W.fnOf "is_room" "is_room" (zAN zC7) (zAL zC7) (zAC zC7) .none kV11 dc11 pm11 an11 cd11 ct11),sl11⟩) (c11:W.codeIn K cd11 "is_room" = true) (k11:W.keepIn K (.ref f11)=true)
  (a12:W.nsIn K mainGlobals "is_push" = some (some (.ref f12))) (l12:K.lookup f12=some ⟨oc12,od12,.func (W.fnOf "is_push" "is_push" (zAN zDU) (zAL zDU) (zAC zDU) .none kV12 dc12 pm12 an12 cd12 ct12),sl12⟩) (c12:W.codeIn K cd12 "is_push" = true) (k12:W.keepIn K (.ref f12)=true)
  (a13:W.findIn K (.ref ac) "__init__" = some (some (.ref f13))) (i13:W.isFn K (.ref f13)=true) (l13:K.lookup f13=some ⟨oc13,od13,.func (W.fnOf "__init__" "Mode.__init__" (zAN zBb) (zAL zBb) (zAC zBb) .none kV13 dc13 pm13 an13 cd13 ct13),sl13⟩) (c13:W.codeIn K cd13 "Mode.__init__" = true) (k13:W.keepIn K (.ref f13)=true)
  (a14:W.nsIn K mainGlobals "is_mode" = some (some (.ref f14))) (l14:K.lookup f14=some ⟨oc14,od14,.func (W.fnOf "is_mode" "is_mode" (zAN zDV) (zAL zDV) (zAC zDV) .none kV14 dc14 pm14 an14 cd14 ct14),sl14⟩) (c14:W.codeIn K cd14 "is_mode" = true) (k14:W.keepIn K (.ref f14)=true)
  (a15:W.nsIn K mainGlobals "is_sound" = some (some (.ref f15))) (l15:K.lookup f15=some ⟨oc15,od15,.func (W.fnOf "is_sound" "is_sound" (zAN zCc) (zAL zCc) (zAC zCc) .none kV15 dc15 pm15 an15 cd15 ct15),sl15⟩) (c15:W.codeIn K cd15 "is_sound" = true) (k15:W.keepIn K (.ref f15)=true)
  (a16:W.findIn K (.ref ae) "__init__" = some (some (.ref f16))) (i16:W.isFn K (.ref f16)=true) (l16:K.lookup f16=some ⟨oc16,od16,.func (W.fnOf "__init__" "Thing.__init__" (zAN zBN) (zAL zBN) (zAC zBN) .none kV16 dc16 pm16 an16 cd16 ct16),sl16⟩) (c16:W.codeIn K cd16 "Thing.__init__" = true) (k16:W.keepIn K (.ref f16)=true)
  (a17:W.findIn K (.ref ae) "pushes" = some (some (.ref f17))) (i17:W.isFn K (.ref f17)=true) (l17:K.lookup f17=some ⟨oc17,od17,.func (W.fnOf "pushes" "Thing.pushes" (zAN zBq) (zAL zBq) (zAC zBq) .none kV17 dc17 pm17 an17 cd17 ct17),sl17⟩) (c17:W.codeIn K cd17 "Thing.pushes" = true) (k17:W.keepIn K (.ref f17)=true)
  (a18:W.findIn K (.ref ae) "modes" = some (some (.ref f18))) (i18:W.isFn K (.ref f18)=true) (l18:K.lookup f18=some ⟨oc18,od18,.func (W.fnOf "modes" "Thing.modes" (zAN zB7) (zAL zB7) (zAC zB7) .none kV18 dc18 pm18 an18 cd18 ct18),sl18⟩) (c18:W.codeIn K cd18 "Thing.modes" = true) (k18:W.keepIn K (.ref f18)=true)
  (a19:W.findIn K (.ref ae) "is_plain" = some (some (.ref f19))) (i19:W.isFn K (.ref f19)=true) (l19:K.lookup f19=some ⟨oc19,od19,.func (W.fnOf "is_plain" "Thing.is_plain" (zAN zBM) (zAL zBM) (zAC zBM) .none kV19 dc19 pm19 an19 cd19 ct19),sl19⟩) (c19:W.codeIn K cd19 "Thing.is_plain" = true) (k19:W.keepIn K (.ref f19)=true)
  (a20:W.nsIn K mainGlobals "unit" = some (some (.ref f20))) (l20:K.lookup f20=some ⟨oc20,od20,.func (W.fnOf "unit" "unit" (zAN zF5) (zAL zF5) (zAC zF5) (.ref T20) kV20 dc20 pm20 an20 cd20 ct20),sl20⟩) (c20:W.codeIn K cd20 "unit" = true) (k20:W.keepIn K (.ref f20)=true)
  (t20:K.lookup T20=some ⟨ocT20,odT20,.seq #[.int 1 tk20] nT20,slT20⟩)
  (a21:W.nsIn K mainGlobals "single" = some (some (.ref f21))) (l21:K.lookup f21=some ⟨oc21,od21,.func (W.fnOf "single" "single" (zAN zD5) (zAL zD5) (zAC zD5) .none kV21 dc21 pm21 an21 cd21 ct21),sl21⟩) (c21:W.codeIn K cd21 "single" = true) (k21:W.keepIn K (.ref f21)=true)
  (a22:W.nsIn K mainGlobals "paired" = some (some (.ref f22))) (l22:K.lookup f22=some ⟨oc22,od22,.func (W.fnOf "paired" "paired" (zAN zD6) (zAL zD6) (zAC zD6) .none kV22 dc22 pm22 an22 cd22 ct22),sl22⟩) (c22:W.codeIn K cd22 "paired" = true) (k22:W.keepIn K (.ref f22)=true)
  (a23:W.nsIn K mainGlobals "added_up" = some (some (.ref f23))) (l23:K.lookup f23=some ⟨oc23,od23,.func (W.fnOf "added_up" "added_up" (zAN zCe) (zAL zCe) (zAC zCe) .none kV23 dc23 pm23 an23 cd23 ct23),sl23⟩) (c23:W.codeIn K cd23 "added_up" = true) (k23:W.keepIn K (.ref f23)=true)
  (a24:W.nsIn K mainGlobals "reach" = some (some (.ref f24))) (l24:K.lookup f24=some ⟨oc24,od24,.func (W.fnOf "reach" "reach" (zAN zE8) (zAL zE8) (zAC zE8) .none kV24 dc24 pm24 an24 cd24 ct24),sl24⟩) (c24:W.codeIn K cd24 "reach" = true) (k24:W.keepIn K (.ref f24)=true)
  (a25:W.nsIn K mainGlobals "mixed" = some (some (.ref f25))) (l25:K.lookup f25=some ⟨oc25,od25,.func (W.fnOf "mixed" "mixed" (zAN zEO) (zAL zEO) (zAC zEO) .none kV25 dc25 pm25 an25 cd25 ct25),sl25⟩) (c25:W.codeIn K cd25 "mixed" = true) (k25:W.keepIn K (.ref f25)=true)
  (a26:W.nsIn K mainGlobals "worst_pushes" = some (some (.ref f26))) (l26:K.lookup f26=some ⟨oc26,od26,.func (W.fnOf "worst_pushes" "worst_pushes" (zAN zBo) (zAL zBo) (zAC zBo) .none kV26 dc26 pm26 an26 cd26 ct26),sl26⟩) (c26:W.codeIn K cd26 "worst_pushes" = true) (k26:W.keepIn K (.ref f26)=true)
  (a27:W.nsIn K mainGlobals "without_pushes" = some (some (.ref f27))) (l27:K.lookup f27=some ⟨oc27,od27,.func (W.fnOf "without_pushes" "without_pushes" (zAN zBK) (zAL zBK) (zAC zBK) .none kV27 dc27 pm27 an27 cd27 ct27),sl27⟩) (c27:W.codeIn K cd27 "without_pushes" = true) (k27:W.keepIn K (.ref f27)=true)
  (a28:W.nsIn K mainGlobals "steering_rows" = some (some (.ref f28))) (l28:K.lookup f28=some ⟨oc28,od28,.func (W.fnOf "steering_rows" "steering_rows" (zAN zBa) (zAL zBa) (zAC zBa) .none kV28 dc28 pm28 an28 cd28 ct28),sl28⟩) (c28:W.codeIn K cd28 "steering_rows" = true) (k28:W.keepIn K (.ref f28)=true)
  (a29:W.nsIn K mainGlobals "without_steering" = some (some (.ref f29))) (l29:K.lookup f29=some ⟨oc29,od29,.func (W.fnOf "without_steering" "without_steering" (zAN zA8) (zAL zA8) (zAC zA8) .none kV29 dc29 pm29 an29 cd29 ct29),sl29⟩) (c29:W.codeIn K cd29 "without_steering" = true) (k29:W.keepIn K (.ref f29)=true)
  (a30:W.nsIn K mainGlobals "ask_plain" = some (some (.ref f30))) (l30:K.lookup f30=some ⟨oc30,od30,.func (W.fnOf "ask_plain" "ask_plain" (zAN zCd) (zAL zCd) (zAC zCd) .none kV30 dc30 pm30 an30 cd30 ct30),sl30⟩) (c30:W.codeIn K cd30 "ask_plain" = true) (k30:W.keepIn K (.ref f30)=true)
  (a31:W.nsIn K mainGlobals "counted" = some (some (.ref f31))) (l31:K.lookup f31=some ⟨oc31,od31,.func (W.fnOf "counted" "counted" (zAN zDW) (zAL zDW) (zAC zDW) .none kV31 dc31 pm31 an31 cd31 ct31),sl31⟩) (c31:W.codeIn K cd31 "counted" = true) (k31:W.keepIn K (.ref f31)=true)
  (a32:W.nsIn K mainGlobals "held_rooms" = some (some (.ref f32))) (l32:K.lookup f32=some ⟨oc32,od32,.func (W.fnOf "held_rooms" "held_rooms" (zAN zCM) (zAL zCM) (zAC zCM) .none kV32 dc32 pm32 an32 cd32 ct32),sl32⟩) (c32:W.codeIn K cd32 "held_rooms" = true) (k32:W.keepIn K (.ref f32)=true)
  (a33:W.nsIn K mainGlobals "_law_cell_at" = some (some (.ref f33))) (l33:K.lookup f33=some ⟨oc33,od33,.func (W.fnOf "_law_cell_at" "_law_cell_at" (zAN zCa) (zAL zCa) (zAC zCa) .none kV33 dc33 pm33 an33 cd33 ct33),sl33⟩) (c33:W.codeIn K cd33 "_law_cell_at" = true) (k33:W.keepIn K (.ref f33)=true)
  (a34:W.nsIn K mainGlobals "_law_stream" = some (some (.ref f34))) (l34:K.lookup f34=some ⟨oc34,od34,.func (W.fnOf "_law_stream" "_law_stream" (zAN zCx) (zAL zCx) (zAC zCx) .none kV34 dc34 pm34 an34 cd34 ct34),sl34⟩) (c34:W.codeIn K cd34 "_law_stream" = true) (k34:W.keepIn K (.ref f34)=true)
  (a35:W.nsIn K mainGlobals "_law_number" = some (some (.ref f35))) (l35:K.lookup f35=some ⟨oc35,od35,.func (W.fnOf "_law_number" "_law_number" (zAN zCy) (zAL zCy) (zAC zCy) .none kV35 dc35 pm35 an35 cd35 ct35),sl35⟩) (c35:W.codeIn K cd35 "_law_number" = true) (k35:W.keepIn K (.ref f35)=true)
  (a36:W.nsIn K mainGlobals "_law_mode" = some (some (.ref f36))) (l36:K.lookup f36=some ⟨oc36,od36,.func (W.fnOf "_law_mode" "_law_mode" (zAN zCk) (zAL zCk) (zAC zCk) .none kV36 dc36 pm36 an36 cd36 ct36),sl36⟩) (c36:W.codeIn K cd36 "_law_mode" = true) (k36:W.keepIn K (.ref f36)=true)
  (a37:W.nsIn K mainGlobals "_law_thing" = some (some (.ref f37))) (l37:K.lookup f37=some ⟨oc37,od37,.func (W.fnOf "_law_thing" "_law_thing" (zAN zDP) (zAL zDP) (zAC zDP) .none kV37 dc37 pm37 an37 cd37 ct37),sl37⟩) (c37:W.codeIn K cd37 "_law_thing" = true) (k37:W.keepIn K (.ref f37)=true)
  (a38:W.nsIn K mainGlobals "_law_made" = some (some (.ref f38))) (l38:K.lookup f38=some ⟨oc38,od38,.func (W.fnOf "_law_made" "_law_made" (zAN zD8) (zAL zD8) (zAC zD8) .none kV38 dc38 pm38 an38 cd38 ct38),sl38⟩) (c38:W.codeIn K cd38 "_law_made" = true) (k38:W.keepIn K (.ref f38)=true)
  (a39:W.nsIn K mainGlobals "_law_box" = some (some (.ref f39))) (l39:K.lookup f39=some ⟨oc39,od39,.func (W.fnOf "_law_box" "_law_box" (zAN zE9) (zAL zE9) (zAC zE9) .none kV39 dc39 pm39 an39 cd39 ct39),sl39⟩) (c39:W.codeIn K cd39 "_law_box" = true) (k39:W.keepIn K (.ref f39)=true)
  (a40:W.nsIn K mainGlobals "_law_rows" = some (some (.ref f40))) (l40:K.lookup f40=some ⟨oc40,od40,.func (W.fnOf "_law_rows" "_law_rows" (zAN zDl) (zAL zDl) (zAC zDl) .none kV40 dc40 pm40 an40 cd40 ct40),sl40⟩) (c40:W.codeIn K cd40 "_law_rows" = true) (k40:W.keepIn K (.ref f40)=true)
  (a41:W.nsIn K mainGlobals "_law_safe" = some (some (.ref f41))) (l41:K.lookup f41=some ⟨oc41,od41,.func (W.fnOf "_law_safe" "_law_safe" (zAN zDk) (zAL zDk) (zAC zDk) .none kV41 dc41 pm41 an41 cd41 ct41),sl41⟩) (c41:W.codeIn K cd41 "_law_safe" = true) (k41:W.keepIn K (.ref f41)=true)
  (a42:W.nsIn K mainGlobals "_law_game" = some (some (.ref f42))) (l42:K.lookup f42=some ⟨oc42,od42,.func (W.fnOf "_law_game" "_law_game" (zAN zA6) (zAL zA6) (zAC zA6) .none kV42 dc42 pm42 an42 cd42 ct42),sl42⟩) (c42:W.codeIn K cd42 "_law_game" = true) (k42:W.keepIn K (.ref f42)=true)
  (a43:W.nsIn K mainGlobals "raw_sum" = some (some (.ref f43))) (l43:K.lookup f43=some ⟨oc43,od43,.func (W.fnOf "raw_sum" "raw_sum" (zAN zDO) (zAL zDO) (zAC zDO) .none kV43 dc43 pm43 an43 cd43 ct43),sl43⟩) (c43:W.codeIn K cd43 "raw_sum" = true) (k43:W.keepIn K (.ref f43)=true)
  (a44:W.nsIn K mainGlobals "divided_sum" = some (some (.ref f44))) (l44:K.lookup f44=some ⟨oc44,od44,.func (W.fnOf "divided_sum" "divided_sum" (zAN zB6) (zAL zB6) (zAC zB6) .none kV44 dc44 pm44 an44 cd44 ct44),sl44⟩) (c44:W.codeIn K cd44 "divided_sum" = true) (k44:W.keepIn K (.ref f44)=true)
  (a45:W.nsIn K mainGlobals "holds" = some (some (.ref f45))) (l45:K.lookup f45=some ⟨oc45,od45,.func (W.fnOf "holds" "holds" (zAN zFA) (zAL zFA) (zAC zFA) .none kV45 dc45 pm45 an45 cd45 ct45),sl45⟩) (c45:W.codeIn K cd45 "holds" = true) (k45:W.keepIn K (.ref f45)=true)
  (a46:W.nsIn K mainGlobals "lies_in" = some (some (.ref f46))) (l46:K.lookup f46=some ⟨oc46,od46,.func (W.fnOf "lies_in" "lies_in" (zAN zC6) (zAL zC6) (zAC zC6) .none kV46 dc46 pm46 an46 cd46 ct46),sl46⟩) (c46:W.codeIn K cd46 "lies_in" = true) (k46:W.keepIn K (.ref f46)=true)
  (a47:W.nsIn K mainGlobals "holder" = some (some (.ref f47))) (l47:K.lookup f47=some ⟨oc47,od47,.func (W.fnOf "holder" "holder" (zAN zEA) (zAL zEA) (zAC zEA) .none kV47 dc47 pm47 an47 cd47 ct47),sl47⟩) (c47:W.codeIn K cd47 "holder" = true) (k47:W.keepIn K (.ref f47)=true)
  (a48:W.nsIn K mainGlobals "_law_divisor" = some (some (.ref f48))) (l48:K.lookup f48=some ⟨oc48,od48,.func (W.fnOf "_law_divisor" "_law_divisor" (zAN zCZ) (zAL zCZ) (zAC zCZ) .none kV48 dc48 pm48 an48 cd48 ct48),sl48⟩) (c48:W.codeIn K cd48 "_law_divisor" = true) (k48:W.keepIn K (.ref f48)=true)
  (a49:W.nsIn K mainGlobals "_law_lowest" = some (some (.ref f49))) (l49:K.lookup f49=some ⟨oc49,od49,.func (W.fnOf "_law_lowest" "_law_lowest" (zAN zCz) (zAL zCz) (zAC zCz) .none kV49 dc49 pm49 an49 cd49 ct49),sl49⟩) (c49:W.codeIn K cd49 "_law_lowest" = true) (k49:W.keepIn K (.ref f49)=true)
  (a50:W.nsIn K mainGlobals "_law_plus" = some (some (.ref f50))) (l50:K.lookup f50=some ⟨oc50,od50,.func (W.fnOf "_law_plus" "_law_plus" (zAN zD7) (zAL zD7) (zAC zD7) .none kV50 dc50 pm50 an50 cd50 ct50),sl50⟩) (c50:W.codeIn K cd50 "_law_plus" = true) (k50:W.keepIn K (.ref f50)=true)
  (a51:W.nsIn K mainGlobals "_law_along" = some (some (.ref f51))) (l51:K.lookup f51=some ⟨oc51,od51,.func (W.fnOf "_law_along" "_law_along" (zAN zDT) (zAL zDT) (zAC zDT) .none kV51 dc51 pm51 an51 cd51 ct51),sl51⟩) (c51:W.codeIn K cd51 "_law_along" = true) (k51:W.keepIn K (.ref f51)=true)
  (a52:W.nsIn K mainGlobals "_law_holds" = some (some (.ref f52))) (l52:K.lookup f52=some ⟨oc52,od52,.func (W.fnOf "_law_holds" "_law_holds" (zAN zDS) (zAL zDS) (zAC zDS) .none kV52 dc52 pm52 an52 cd52 ct52),sl52⟩) (c52:W.codeIn K cd52 "_law_holds" = true) (k52:W.keepIn K (.ref f52)=true)
  (a53:W.nsIn K mainGlobals "_law_lies" = some (some (.ref f53))) (l53:K.lookup f53=some ⟨oc53,od53,.func (W.fnOf "_law_lies" "_law_lies" (zAN zDm) (zAL zDm) (zAC zDm) .none kV53 dc53 pm53 an53 cd53 ct53),sl53⟩) (c53:W.codeIn K cd53 "_law_lies" = true) (k53:W.keepIn K (.ref f53)=true)
  (a54:W.nsIn K mainGlobals "_law_point" = some (some (.ref f54))) (l54:K.lookup f54=some ⟨oc54,od54,.func (W.fnOf "_law_point" "_law_point" (zAN zDR) (zAL zDR) (zAC zDR) .none kV54 dc54 pm54 an54 cd54 ct54),sl54⟩) (c54:W.codeIn K cd54 "_law_point" = true) (k54:W.keepIn K (.ref f54)=true)
  (a55:W.nsIn K mainGlobals "_law_behind" = some (some (.ref f55))) (l55:K.lookup f55=some ⟨oc55,od55,.func (W.fnOf "_law_behind" "_law_behind" (zAN zBp) (zAL zBp) (zAC zBp) .none kV55 dc55 pm55 an55 cd55 ct55),sl55⟩) (c55:W.codeIn K cd55 "_law_behind" = true) (k55:W.keepIn K (.ref f55)=true)
  (a56:W.nsIn K mainGlobals "_law_rooms" = some (some (.ref f56))) (l56:K.lookup f56=some ⟨oc56,od56,.func (W.fnOf "_law_rooms" "_law_rooms" (zAN zDQ) (zAL zDQ) (zAC zDQ) .none kV56 dc56 pm56 an56 cd56 ct56),sl56⟩) (c56:W.codeIn K cd56 "_law_rooms" = true) (k56:W.keepIn K (.ref f56)=true)
  (a57:W.nsIn K mainGlobals "_law_right_steering" = some (some (.ref f57))) (l57:K.lookup f57=some ⟨oc57,od57,.func (W.fnOf "_law_right_steering" "_law_right_steering" (zAN zA9) (zAL zA9) (zAC zA9) .none kV57 dc57 pm57 an57 cd57 ct57),sl57⟩) (c57:W.codeIn K cd57 "_law_right_steering" = true) (k57:W.keepIn K (.ref f57)=true)
  (a58:W.nsIn K mainGlobals "_law_near" = some (some (.ref f58))) (l58:K.lookup f58=some ⟨oc58,od58,.func (W.fnOf "_law_near" "_law_near" (zAN zDC) (zAL zDC) (zAC zDC) .none kV58 dc58 pm58 an58 cd58 ct58),sl58⟩) (c58:W.codeIn K cd58 "_law_near" = true) (k58:W.keepIn K (.ref f58)=true)
  (a59:W.nsIn K mainGlobals "law" = some (some (.ref f59))) (l59:K.lookup f59=some ⟨oc59,od59,.func (W.fnOf "law" "law" (zAN zDF) (zAL zDF) (zAC zDF) .none kV59 dc59 pm59 an59 cd59 ct59),sl59⟩) (c59:W.codeIn K cd59 "law" = true) (k59:W.keepIn K (.ref f59)=true)
  {cM cP:Addr}
  (aM:W.nsIn K mainGlobals "TooMany" = some (some (.ref cM)))
  (aP:W.nsIn K mainGlobals "NotPlain" = some (some (.ref cP)))
  (exM:W.excIn K cM [.type "ValueError",.type "Exception",.type "BaseException",.type "object"] "ValueError.__new__" = true)
  (exP:W.excIn K cP [.type "ValueError",.type "Exception",.type "BaseException",.type "object"] "ValueError.__new__" = true)
  (em_mm:W.exmOne K (.ref cM) (.ref cM)=some true)
  (z0:W.nsIn K mainGlobals "isinstance" = some none)
  (z1:W.nsIn K mainGlobals "int" = some none)
  (z2:W.nsIn K mainGlobals "bool" = some none)
  (z3:W.nsIn K mainGlobals "tuple" = some none)
  (z4:W.nsIn K mainGlobals "len" = some none)
  (z5:W.nsIn K mainGlobals "abs" = some none)
  (z6:W.nsIn K mainGlobals "all" = some none)
  (z7:W.nsIn K mainGlobals "list" = some none)
  (z8:W.nsIn K mainGlobals "range" = some none)
  (z9:W.nsIn K mainGlobals "zip" = some none)
  (z10:W.nsIn K mainGlobals "sum" = some none)
  {gt0:Tok} (cst0:W.nsIn K mainGlobals "MOST_NUMBERS" = some (some (.int 3 gt0)))
  {gt1:Tok} (cst1:W.nsIn K mainGlobals "MOST_PUSHES" = some (some (.int 6 gt1)))
  {gt2:Tok} (cst2:W.nsIn K mainGlobals "MOST_MODES" = some (some (.int 40 gt2)))
  {gt3:Tok} (cst3:W.nsIn K mainGlobals "MOST_ROWS" = some (some (.int 60 gt3)))
  : ∃ fd:FuncData,(∀ (s:Shared) (v:Value),BindsTo s fd ⟨[v],[]⟩ [("_law_script",v)])/\∀ base:Heap,K.In base->base.Ns mainGlobals mg->FnOk l.prog w K mg base CX0 9 fa fd ["_law_script"] (zKM K):=by
 have e:=hfa.symm.trans (W.mg_of X G a59)
 cases e
 have B:Bl mg:=⟨W.mg_none_of X G z0,W.mg_none_of X G z1,W.mg_none_of X G z2,W.mg_none_of X G z3,W.mg_none_of X G z4,W.mg_none_of X G z5,W.mg_none_of X G z6,W.mg_none_of X G z7,W.mg_none_of X G z8,W.mg_none_of X G z9,W.mg_none_of X G z10,⟨_,W.mg_of X G cst0⟩,⟨_,W.mg_of X G cst1⟩,⟨_,W.mg_of X G cst2⟩,⟨_,W.mg_of X G cst3⟩⟩
 have af:ClsF K mg "Mode" ac:=⟨⟨aJ,aK,aL,aN⟩,W.mg_of X G aI,aR,aS,aT,aU⟩
 have ah:zCW K ac:=⟨aV,aW,aX,aY,aZ,be⟩
 have ag:ClsF K mg "Thing" ae:=⟨⟨bj,bp,bq,bA⟩,W.mg_of X G bi,bD,bE,bF,bG⟩
 have ai:zBs K ae:=⟨bH,bI,bJ⟩
 have Z:Er K mg cM cP:=⟨W.mg_of X G aM,W.mg_of X G aP,exM,exP,em_mm⟩
 have F0:=zAg (st:=zC0) l0 c0 k0
 have b0:=F0.binds (ps:=["thing"]) fun _ _ _ _ _ _ us hl=>by revert us; exact L2.zCs (fun _=>rfl)
 have F1:=zAg (st:=zBL) l1 c1 k1
 have b1:=F1.binds (ps:=["numbers"]) fun _ _ _ _ _ _ us hl=>by revert us; exact L2.zCs (fun _=>rfl)
 have F2:=zIU (st:=zC1) l2 c2 k2 t2 rfl
 have b2:=F2.binds (ps:=["top","bottom"]) fun _ _ _ _ _ _ _ us hl=>by revert us; exact L2.zBu (fun _ _=>⟨_,rfl,rfl⟩)
 have bd2:=F2.binds1 (ps:=["top","bottom"]) fun _ _ _ _ _ _ _ us hl=>match us,hl with | [_],_=>⟨_,rfl,rfl⟩
 have F3:=zAg (st:=zE7) l3 c3 k3
 have b3:=F3.binds (ps:=["one","other"]) fun _ _ _ _ _ _ us hl=>by revert us; exact L2.zBu (fun _ _=>rfl)
 have F4:=zAg (st:=zCF) l4 c4 k4
 have b4:=F4.binds (ps:=["row"]) fun _ _ _ _ _ _ us hl=>by revert us; exact L2.zCs (fun _=>rfl)
 have F5:=zAg (st:=zC8) l5 c5 k5
 have b5:=F5.binds (ps:=["way","bound"]) fun _ _ _ _ _ _ us hl=>by revert us; exact L2.zBu (fun _ _=>rfl)
 have F6:=zAg (st:=zD4) l6 c6 k6
 have b6:=F6.binds (ps:=["room"]) fun _ _ _ _ _ _ us hl=>by revert us; exact L2.zCs (fun _=>rfl)
 have F7:=zIU (st:=zBt) l7 c7 k7 t7 rfl
 have b7:=F7.binds (ps:=["value","depth"]) fun _ _ _ _ _ _ _ us hl=>by revert us; exact L2.zBu (fun _ _=>⟨_,rfl,rfl⟩)
 have bd7:=F7.binds1 (ps:=["value","depth"]) fun _ _ _ _ _ _ _ us hl=>match us,hl with | [_],_=>⟨_,rfl,rfl⟩
 have F8:=zAg (st:=zCL) l8 c8 k8
 have b8:=F8.binds (ps:=["value","count"]) fun _ _ _ _ _ _ us hl=>by revert us; exact L2.zBu (fun _ _=>rfl)
 have F9:=zAg (st:=zCb) l9 c9 k9
 have b9:=F9.binds (ps:=["value","tall","wide"]) fun _ _ _ _ _ _ us hl=>by revert us; exact L2.zE3 (fun _ _ _=>rfl)
 have F10:=zAg (st:=zD9) l10 c10 k10
 have b10:=F10.binds (ps:=["value","many"]) fun _ _ _ _ _ _ us hl=>by revert us; exact L2.zBu (fun _ _=>rfl)
 have F11:=zAg (st:=zC7) l11 c11 k11
 have b11:=F11.binds (ps:=["value","many"]) fun _ _ _ _ _ _ us hl=>by revert us; exact L2.zBu (fun _ _=>rfl)
 have F12:=zAg (st:=zDU) l12 c12 k12
 have b12:=F12.binds (ps:=["value"]) fun _ _ _ _ _ _ us hl=>by revert us; exact L2.zCs (fun _=>rfl)
 have F13:=zAg (st:=zBb) l13 c13 k13
 have b13:=F13.binds (ps:=["self","rows","nexts","steer","push","add","divisor"]) fun _ _ _ _ _ _ us hl=>by revert us; exact L2.zOV (fun _ _ _ _ _ _ _=>rfl)
 have F14:=zAg (st:=zDV) l14 c14 k14
 have b14:=F14.binds (ps:=["value","many","wide"]) fun _ _ _ _ _ _ us hl=>by revert us; exact L2.zE3 (fun _ _ _=>rfl)
 have F15:=zAg (st:=zCc) l15 c15 k15
 have b15:=F15.binds (ps:=["many","pushes","modes"]) fun _ _ _ _ _ _ us hl=>by revert us; exact L2.zE3 (fun _ _ _=>rfl)
 have F16:=zAg (st:=zBN) l16 c16 k16
 have b16:=F16.binds (ps:=["self","many","pushes","modes"]) fun _ _ _ _ _ _ us hl=>by revert us; exact L2.zGp (fun _ _ _ _=>rfl)
 have F17:=zAg (st:=zBq) l17 c17 k17
 have b17:=F17.binds (ps:=["self"]) fun _ _ _ _ _ _ us hl=>by revert us; exact L2.zCs (fun _=>rfl)
 have F18:=zAg (st:=zB7) l18 c18 k18
 have b18:=F18.binds (ps:=["self"]) fun _ _ _ _ _ _ us hl=>by revert us; exact L2.zCs (fun _=>rfl)
 have F19:=zAg (st:=zBM) l19 c19 k19
 have b19:=F19.binds (ps:=["self"]) fun _ _ _ _ _ _ us hl=>by revert us; exact L2.zCs (fun _=>rfl)
 have F20:=zIU (st:=zF5) l20 c20 k20 t20 rfl
 have b20:=F20.binds (ps:=["place","wide","number"]) fun _ _ _ _ _ _ _ us hl=>by revert us; exact L2.zE3 (fun _ _ _=>⟨_,rfl,rfl⟩)
 have bd20:=F20.binds1 (ps:=["place","wide","number"]) fun _ _ _ _ _ _ _ us hl=>match us,hl with | [_,_],_=>⟨_,rfl,rfl⟩
 have F21:=zAg (st:=zD5) l21 c21 k21
 have b21:=F21.binds (ps:=["place","many","number","bound"]) fun _ _ _ _ _ _ us hl=>by revert us; exact L2.zGp (fun _ _ _ _=>rfl)
 have F22:=zAg (st:=zD6) l22 c22 k22
 have b22:=F22.binds (ps:=["numbers","others"]) fun _ _ _ _ _ _ us hl=>by revert us; exact L2.zBu (fun _ _=>rfl)
 have F23:=zAg (st:=zCe) l23 c23 k23
 have b23:=F23.binds (ps:=["numbers","lists","wide"]) fun _ _ _ _ _ _ us hl=>by revert us; exact L2.zE3 (fun _ _ _=>rfl)
 have F24:=zAg (st:=zE8) l24 c24 k24
 have b24:=F24.binds (ps:=["thing","mode","row"]) fun _ _ _ _ _ _ us hl=>by revert us; exact L2.zE3 (fun _ _ _=>rfl)
 have F25:=zAg (st:=zEO) l25 c25 k25
 have b25:=F25.binds (ps:=["factor","numbers","other_factor","others"]) fun _ _ _ _ _ _ us hl=>by revert us; exact L2.zGp (fun _ _ _ _=>rfl)
 have F26:=zAg (st:=zBo) l26 c26 k26
 have b26:=F26.binds (ps:=["thing","row"]) fun _ _ _ _ _ _ us hl=>by revert us; exact L2.zBu (fun _ _=>rfl)
 have F27:=zAg (st:=zBK) l27 c27 k27
 have b27:=F27.binds (ps:=["thing","row"]) fun _ _ _ _ _ _ us hl=>by revert us; exact L2.zBu (fun _ _=>rfl)
 have F28:=zAg (st:=zBa) l28 c28 k28
 have b28:=F28.binds (ps:=["thing","room","low","high"]) fun _ _ _ _ _ _ us hl=>by revert us; exact L2.zGp (fun _ _ _ _=>rfl)
 have F29:=zAg (st:=zA8) l29 c29 k29
 have b29:=F29.binds (ps:=["rows"]) fun _ _ _ _ _ _ us hl=>by revert us; exact L2.zCs (fun _=>rfl)
 have F30:=zAg (st:=zCd) l30 c30 k30
 have b30:=F30.binds (ps:=["thing"]) fun _ _ _ _ _ _ us hl=>by revert us; exact L2.zCs (fun _=>rfl)
 have F31:=zAg (st:=zDW) l31 c31 k31
 have b31:=F31.binds (ps:=["room"]) fun _ _ _ _ _ _ us hl=>by revert us; exact L2.zCs (fun _=>rfl)
 have F32:=zAg (st:=zCM) l32 c32 k32
 have b32:=F32.binds (ps:=["thing","safe","low","high","turns"]) fun _ _ _ _ _ _ us hl=>by revert us; exact L2.zLb (fun _ _ _ _ _=>rfl)
 have F33:=zAg (st:=zCa) l33 c33 k33
 have b33:=F33.binds (ps:=["_law_script","_law_k"]) fun _ _ _ _ _ _ us hl=>by revert us; exact L2.zBu (fun _ _=>rfl)
 have F34:=zAg (st:=zCx) l34 c34 k34
 have b34:=F34.binds (ps:=["_law_cell","_law_many"]) fun _ _ _ _ _ _ us hl=>by revert us; exact L2.zBu (fun _ _=>rfl)
 have F35:=zAg (st:=zCy) l35 c35 k35
 have b35:=F35.binds (ps:=["_law_x","_law_far"]) fun _ _ _ _ _ _ us hl=>by revert us; exact L2.zBu (fun _ _=>rfl)
 have F36:=zAg (st:=zCk) l36 c36 k36
 have b36:=F36.binds (ps:=["_law_cell","_law_many","_law_wide","_law_unit","_law_split"]) fun _ _ _ _ _ _ us hl=>by revert us; exact L2.zLb (fun _ _ _ _ _=>rfl)
 have F37:=zAg (st:=zDP) l37 c37 k37
 have b37:=F37.binds (ps:=["_law_script"]) fun _ _ _ _ _ _ us hl=>by revert us; exact L2.zCs (fun _=>rfl)
 have F38:=zAg (st:=zD8) l38 c38 k38
 have b38:=F38.binds (ps:=["_law_spec"]) fun _ _ _ _ _ _ us hl=>by revert us; exact L2.zCs (fun _=>rfl)
 have F39:=zAg (st:=zE9) l39 c39 k39
 have b39:=F39.binds (ps:=["_law_cell","_law_many","_law_unit"]) fun _ _ _ _ _ _ us hl=>by revert us; exact L2.zE3 (fun _ _ _=>rfl)
 have F40:=zAg (st:=zDl) l40 c40 k40
 have b40:=F40.binds (ps:=["_law_box_here"]) fun _ _ _ _ _ _ us hl=>by revert us; exact L2.zCs (fun _=>rfl)
 have F41:=zAg (st:=zDk) l41 c41 k41
 have b41:=F41.binds (ps:=["_law_spec","_law_cell"]) fun _ _ _ _ _ _ us hl=>by revert us; exact L2.zBu (fun _ _=>rfl)
 have F42:=zAg (st:=zA6) l42 c42 k42
 have b42:=F42.binds (ps:=["_law_script"]) fun _ _ _ _ _ _ us hl=>by revert us; exact L2.zCs (fun _=>rfl)
 have F43:=zAg (st:=zDO) l43 c43 k43
 have b43:=F43.binds (ps:=["numbers","point"]) fun _ _ _ _ _ _ us hl=>by revert us; exact L2.zBu (fun _ _=>rfl)
 have F44:=zAg (st:=zB6) l44 c44 k44
 have b44:=F44.binds (ps:=["numbers","point","add","divisor"]) fun _ _ _ _ _ _ us hl=>by revert us; exact L2.zGp (fun _ _ _ _=>rfl)
 have F45:=zAg (st:=zFA) l45 c45 k45
 have b45:=F45.binds (ps:=["row","point"]) fun _ _ _ _ _ _ us hl=>by revert us; exact L2.zBu (fun _ _=>rfl)
 have F46:=zAg (st:=zC6) l46 c46 k46
 have b46:=F46.binds (ps:=["room","point"]) fun _ _ _ _ _ _ us hl=>by revert us; exact L2.zBu (fun _ _=>rfl)
 have F47:=zAg (st:=zEA) l47 c47 k47
 have b47:=F47.binds (ps:=["thing","safe","low","high","turns","point"]) fun _ _ _ _ _ _ us hl=>by revert us; exact L2.zOW (fun _ _ _ _ _ _=>rfl)
 have F48:=zAg (st:=zCZ) l48 c48 k48
 have b48:=F48.binds (ps:=["_law_one","_law_other"]) fun _ _ _ _ _ _ us hl=>by revert us; exact L2.zBu (fun _ _=>rfl)
 have F49:=zAg (st:=zCz) l49 c49 k49
 have b49:=F49.binds (ps:=["_law_top","_law_bottom"]) fun _ _ _ _ _ _ us hl=>by revert us; exact L2.zBu (fun _ _=>rfl)
 have F50:=zAg (st:=zD7) l50 c50 k50
 have b50:=F50.binds (ps:=["_law_one","_law_other"]) fun _ _ _ _ _ _ us hl=>by revert us; exact L2.zBu (fun _ _=>rfl)
 have F51:=zAg (st:=zDT) l51 c51 k51
 have b51:=F51.binds (ps:=["_law_numbers","_law_values"]) fun _ _ _ _ _ _ us hl=>by revert us; exact L2.zBu (fun _ _=>rfl)
 have F52:=zAg (st:=zDS) l52 c52 k52
 have b52:=F52.binds (ps:=["_law_row","_law_point_here"]) fun _ _ _ _ _ _ us hl=>by revert us; exact L2.zBu (fun _ _=>rfl)
 have F53:=zAg (st:=zDm) l53 c53 k53
 have b53:=F53.binds (ps:=["_law_room","_law_point_here"]) fun _ _ _ _ _ _ us hl=>by revert us; exact L2.zBu (fun _ _=>rfl)
 have F54:=zAg (st:=zDR) l54 c54 k54
 have b54:=F54.binds (ps:=["_law_cell","_law_box_here"]) fun _ _ _ _ _ _ us hl=>by revert us; exact L2.zBu (fun _ _=>rfl)
 have F55:=zAg (st:=zBp) l55 c55 k55
 have b55:=F55.binds (ps:=["_law_mode_here","_law_point_here","_law_steering","_law_pushes"]) fun _ _ _ _ _ _ us hl=>by revert us; exact L2.zGp (fun _ _ _ _=>rfl)
 have F56:=zAg (st:=zDQ) l56 c56 k56
 have b56:=F56.binds (ps:=["_law_thing_here","_law_safe_here","_law_low","_law_high","_law_turns"]) fun _ _ _ _ _ _ us hl=>by revert us; exact L2.zLb (fun _ _ _ _ _=>rfl)
 have F57:=zAg (st:=zA9) l57 c57 k57
 have b57:=F57.binds (ps:=["_law_found","_law_low","_law_high"]) fun _ _ _ _ _ _ us hl=>by revert us; exact L2.zE3 (fun _ _ _=>rfl)
 have F58:=zAg (st:=zDC) l58 c58 k58
 have b58:=F58.binds (ps:=["_law_spec","_law_safe_here","_law_cell"]) fun _ _ _ _ _ _ us hl=>by revert us; exact L2.zE3 (fun _ _ _=>rfl)
 have F59:=zAg (st:=zDF) l59 c59 k59
 have b59:=F59.binds (ps:=["_law_script"]) fun _ _ _ _ _ _ us hl=>by revert us; exact L2.zCs (fun _=>rfl)
 refine ⟨W.fnOf "law" "law" (zAN zDF) (zAL zDF) (zAC zDF) .none kV59 dc59 pm59 an59 cd59 ct59,fun s v=>.of_eq rfl,fun base _ _=>?_⟩
 have N0:Fn l.prog w K mg base "is_whole" ["thing"] 1 zCO:=⟨_,_,zIG (k:=0) af ah ag ai F0 B ,W.mg_of X G a0,k0,b0⟩
 have N1:Fn l.prog w K mg base "common_divisor" ["numbers"] 1 (zD2 K):=⟨_,_,zFD (k:=0) af ah ag ai F1 B ,W.mg_of X G a1,k1,b1⟩
 have N2:FnD l.prog w K mg base "fraction" ["top","bottom"] 2 zCw (.int 1):=⟨_,_,_,zIJ (k:=1) af ah ag ai F2 B N0.mono N1.mono,W.mg_of X G a2,k2,b2,bd2,⟨_,rfl⟩⟩
 have N3:Fn l.prog w K mg base "under" ["one","other"] 1 zFy:=⟨_,_,zL3 (k:=0) af ah ag ai F3 B ,W.mg_of X G a3,k3,b3⟩
 have N4:Fn l.prog w K mg base "direction" ["row"] 2 zDi:=⟨_,_,zHd (k:=1) af ah ag ai F4 B N1.mono,W.mg_of X G a4,k4,b4⟩
 have N5:Fn l.prog w K mg base "bounded" ["way","bound"] 1 zEg:=⟨_,_,zJp (k:=0) af ah ag ai F5 B ,W.mg_of X G a5,k5,b5⟩
 have N6:Fn l.prog w K mg base "tidied" ["room"] 3 (zFc K):=⟨_,_,zKg (k:=2) af ah ag ai F6 B N1.mono N4.mono N2.mono N3.mono N5.mono,W.mg_of X G a6,k6,b6⟩
 have N7_n:FnD l.prog w K mg base "copied" ["value","depth"] 0 zKL (.int 5):=⟨_,_,_,FnOk.none,W.mg_of X G a7,k7,b7,bd7,⟨_,rfl⟩⟩
 have N7_0:FnD l.prog w K mg base "copied" ["value","depth"] 1 spC0 (.int 5):=⟨_,_,_,zIM (k:=0) af ah ag ai F7 B N7_n,W.mg_of X G a7,k7,b7,bd7,⟨_,rfl⟩⟩
 have N7_1:FnD l.prog w K mg base "copied" ["value","depth"] 2 spC1 (.int 5):=⟨_,_,_,zIL (k:=1) af ah ag ai F7 B N7_0,W.mg_of X G a7,k7,b7,bd7,⟨_,rfl⟩⟩
 have N7_2:FnD l.prog w K mg base "copied" ["value","depth"] 3 spC2 (.int 5):=⟨_,_,_,zIK (k:=2) af ah ag ai F7 B N7_1,W.mg_of X G a7,k7,b7,bd7,⟨_,rfl⟩⟩
 have N7:=N7_2
 have N8:Fn l.prog w K mg base "is_numbers" ["value","count"] 2 zC4:=⟨_,_,zHC (k:=1) af ah ag ai F8 B N0.mono,W.mg_of X G a8,k8,b8⟩
 have N9:Fn l.prog w K mg base "is_table" ["value","tall","wide"] 3 zEe:=⟨_,_,zIH (k:=2) af ah ag ai F9 B N8.mono,W.mg_of X G a9,k9,b9⟩
 have N10:Fn l.prog w K mg base "is_row" ["value","many"] 2 zG4:=⟨_,_,zKr (k:=1) af ah ag ai F10 B N0.mono,W.mg_of X G a10,k10,b10⟩
 have N11:Fn l.prog w K mg base "is_room" ["value","many"] 3 zFi:=⟨_,_,zJm (k:=2) af ah ag ai F11 B N10.mono,W.mg_of X G a11,k11,b11⟩
 have N12:Fn l.prog w K mg base "is_push" ["value"] 2 zFj:=⟨_,_,zJn (k:=1) af ah ag ai F12 B N0.mono,W.mg_of X G a12,k12,b12⟩
 have N13:FnC l.prog w K mg base ac ["self","rows","nexts","steer","push","add","divisor"] 4 (zD1 ac):=⟨_,_,zFW (k:=3) af ah ag ai F13 B N7.mono,⟨aO,a13,i13,aQ⟩,b13⟩
 have N14:Fn l.prog w K mg base "is_mode" ["value","many","wide"] 4 (zFk ac):=⟨_,_,zJo (k:=3) af ah ag ai F14 B N11.mono N9.mono N8.mono N0.mono,W.mg_of X G a14,k14,b14⟩
 have N15:Fn l.prog w K mg base "is_sound" ["many","pushes","modes"] 5 (zEf ac):=⟨_,_,zII (k:=4) af ah ag ai F15 B N0.mono N12.mono N14.mono,W.mg_of X G a15,k15,b15⟩
 have N16:FnC l.prog w K mg base ae ["self","many","pushes","modes"] 6 (zDg ae ac):=⟨_,_,zFF (k:=5) af ah ag ai F16 B N15.mono,⟨bB,a16,i16,bC⟩,b16⟩
 have N17:FnM l.prog w K mg base ae "pushes" ["self"] 1 (zEb ae ac):=⟨_,_,zF7 (k:=0) af ah ag ai F17 B ,⟨a17,i17,k17⟩,b17⟩
 have N18:FnM l.prog w K mg base ae "modes" ["self"] 1 (zG2 ae ac):=⟨_,_,zGZ (k:=0) af ah ag ai F18 B ,⟨a18,i18,k18⟩,b18⟩
 have N19:FnM l.prog w K mg base ae "is_plain" ["self"] 1 (zG1 ae ac):=⟨_,_,zFE (k:=0) af ah ag ai F19 B ,⟨a19,i19,k19⟩,b19⟩
 have N20:FnD l.prog w K mg base "unit" ["place","wide","number"] 1 zIm (.int 1):=⟨_,_,_,zM7 (k:=0) af ah ag ai F20 B ,W.mg_of X G a20,k20,b20,bd20,⟨_,rfl⟩⟩
 have N21:Fn l.prog w K mg base "single" ["place","many","number","bound"] 2 zFd:=⟨_,_,zKh (k:=1) af ah ag ai F21 B N20.mono,W.mg_of X G a21,k21,b21⟩
 have N22:Fn l.prog w K mg base "paired" ["numbers","others"] 1 (zJU K):=⟨_,_,zKi (k:=0) af ah ag ai F22 B ,W.mg_of X G a22,k22,b22⟩
 have N23:Fn l.prog w K mg base "added_up" ["numbers","lists","wide"] 1 (zIq K):=⟨_,_,zIN (k:=0) af ah ag ai F23 B ,W.mg_of X G a23,k23,b23⟩
 have N24:Fn l.prog w K mg base "reach" ["thing","mode","row"] 2 (zG0 ae ac):=⟨_,_,zL4 (k:=1) af ah ag ai F24 B N23.mono N17.mono N22.mono,W.mg_of X G a24,k24,b24⟩
 have N25:Fn l.prog w K mg base "mixed" ["factor","numbers","other_factor","others"] 1 (zG3 K):=⟨_,_,zL5 (k:=0) af ah ag ai F25 B ,W.mg_of X G a25,k25,b25⟩
 have N26:Fn l.prog w K mg base "worst_pushes" ["thing","row"] 2 (zGy ae ac):=⟨_,_,zF6 (k:=1) af ah ag ai F26 B N17.mono,W.mg_of X G a26,k26,b26⟩
 have N27:Fn l.prog w K mg base "without_pushes" ["thing","row"] 3 (zEY ae ac):=⟨_,_,zFC (k:=2) af ah ag ai F27 B N22.mono N26.mono,W.mg_of X G a27,k27,b27⟩
 have N28:Fn l.prog w K mg base "steering_rows" ["thing","room","low","high"] 4 (zC3 ae ac):=⟨_,_,zFV (k:=3) af ah ag ai F28 B N18.mono N27.mono N24.mono N22.mono N21.mono,W.mg_of X G a28,k28,b28⟩
 have N29:Fn l.prog w K mg base "without_steering" ["rows"] 2 zEd:=⟨_,_,zEP (k:=1) af ah ag ai F29 B N25.mono,W.mg_of X G a29,k29,b29⟩
 have NX30:FnX l.prog w K mg base "ask_plain" ["thing"] 2 (zIp ae ac cP):=⟨_,_,zHB (k:=1) af ah ag ai F30 B Z N19.mono,W.mg_of X G a30,k30,b30⟩
 have NX31:FnX l.prog w K mg base "counted" ["room"] 1 (zFn cM):=⟨_,_,zIB (k:=0) af ah ag ai F31 B Z ,W.mg_of X G a31,k31,b31⟩
 have NX32:FnX l.prog w K mg base "held_rooms" ["thing","safe","low","high","turns"] 5 (zFz ae ac cM cP):=⟨_,_,zGX (k:=4) af ah ag ai F32 B Z NX30.mono NX31.mono N6.mono N29.mono N28.mono,W.mg_of X G a32,k32,b32⟩
 have N32:=NX32.calm
 have N33:Fn l.prog w K mg base "_law_cell_at" ["_law_script","_law_k"] 1 (zGe K):=⟨_,_,zHc (k:=0) af ah ag ai F33 B ,W.mg_of X G a33,k33,b33⟩
 have N34:Fn l.prog w K mg base "_law_stream" ["_law_cell","_law_many"] 1 zCu:=⟨_,_,zIC (k:=0) af ah ag ai F34 B ,W.mg_of X G a34,k34,b34⟩
 have N35:Fn l.prog w K mg base "_law_number" ["_law_x","_law_far"] 1 zDv:=⟨_,_,zID (k:=0) af ah ag ai F35 B ,W.mg_of X G a35,k35,b35⟩
 have N36:Fn l.prog w K mg base "_law_mode" ["_law_cell","_law_many","_law_wide","_law_unit","_law_split"] 2 zFg:=⟨_,_,zKn (k:=1) af ah ag ai F36 B N34.mono N35.mono,W.mg_of X G a36,k36,b36⟩
 have N37:Fn l.prog w K mg base "_law_thing" ["_law_script"] 3 (zEZ K):=⟨_,_,zJh (k:=2) af ah ag ai F37 B N33.mono N36.mono,W.mg_of X G a37,k37,b37⟩
 have N38:Fn l.prog w K mg base "_law_made" ["_law_spec"] 8 (zFh ae ac):=⟨_,_,zKo (k:=6) af ah ag ai F38 B N13.mono N16.mono,W.mg_of X G a38,k38,b38⟩
 have N39:Fn l.prog w K mg base "_law_box" ["_law_cell","_law_many","_law_unit"] 2 zG5:=⟨_,_,zL6 (k:=1) af ah ag ai F39 B N34.mono N35.mono,W.mg_of X G a39,k39,b39⟩
 have N40:Fn l.prog w K mg base "_law_rows" ["_law_box_here"] 1 zFf:=⟨_,_,zKk (k:=0) af ah ag ai F40 B ,W.mg_of X G a40,k40,b40⟩
 have N41:Fn l.prog w K mg base "_law_safe" ["_law_spec","_law_cell"] 3 zFe:=⟨_,_,zKj (k:=2) af ah ag ai F41 B N34.mono N35.mono N40.mono N39.mono,W.mg_of X G a41,k41,b41⟩
 have N42:Fn l.prog w K mg base "_law_game" ["_law_script"] 4 (zFm K):=⟨_,_,zKq (k:=3) af ah ag ai F42 B N37.mono N34.mono N33.mono N35.mono N41.mono,W.mg_of X G a42,k42,b42⟩
 have N43:Fn l.prog w K mg base "raw_sum" ["numbers","point"] 1 (zHR K):=⟨_,_,zJf (k:=0) af ah ag ai F43 B ,W.mg_of X G a43,k43,b43⟩
 have N44:Fn l.prog w K mg base "divided_sum" ["numbers","point","add","divisor"] 3 (zIo K):=⟨_,_,zGY (k:=2) af ah ag ai F44 B N43.mono N2.mono,W.mg_of X G a44,k44,b44⟩
 have N45:Fn l.prog w K mg base "holds" ["row","point"] 2 (zEM K):=⟨_,_,zL7 (k:=1) af ah ag ai F45 B N43.mono,W.mg_of X G a45,k45,b45⟩
 have N46:Fn l.prog w K mg base "lies_in" ["room","point"] 3 (zEL K):=⟨_,_,zJg (k:=2) af ah ag ai F46 B N45.mono,W.mg_of X G a46,k46,b46⟩
 have N47:Fn l.prog w K mg base "holder" ["thing","safe","low","high","turns","point"] 6 (zFl ae ac K):=⟨_,_,zKs (k:=5) af ah ag ai F47 B N32.mono N46.mono N2.mono N28.mono N44.mono N3.mono,W.mg_of X G a47,k47,b47⟩
 have N48:Fn l.prog w K mg base "_law_divisor" ["_law_one","_law_other"] 1 zGz:=⟨_,_,zHb (k:=0) af ah ag ai F48 B ,W.mg_of X G a48,k48,b48⟩
 have N49:Fn l.prog w K mg base "_law_lowest" ["_law_top","_law_bottom"] 2 zDh:=⟨_,_,zIE (k:=1) af ah ag ai F49 B N48.mono,W.mg_of X G a49,k49,b49⟩
 have N50:Fn l.prog w K mg base "_law_plus" ["_law_one","_law_other"] 3 zHS:=⟨_,_,zKl (k:=2) af ah ag ai F50 B N49.mono,W.mg_of X G a50,k50,b50⟩
 have N51:Fn l.prog w K mg base "_law_along" ["_law_numbers","_law_values"] 4 (zEh K):=⟨_,_,zJl (k:=3) af ah ag ai F51 B N50.mono,W.mg_of X G a51,k51,b51⟩
 have N52:Fn l.prog w K mg base "_law_holds" ["_law_row","_law_point_here"] 5 (zEM K):=⟨_,_,zJk (k:=4) af ah ag ai F52 B N51.mono,W.mg_of X G a52,k52,b52⟩
 have N53:Fn l.prog w K mg base "_law_lies" ["_law_room","_law_point_here"] 6 (zEL K):=⟨_,_,zKp (k:=5) af ah ag ai F53 B N52.mono,W.mg_of X G a53,k53,b53⟩
 have N54:Fn l.prog w K mg base "_law_point" ["_law_cell","_law_box_here"] 3 zEc:=⟨_,_,zJj (k:=2) af ah ag ai F54 B N34.mono N49.mono,W.mg_of X G a54,k54,b54⟩
 have N55:Fn l.prog w K mg base "_law_behind" ["_law_mode_here","_law_point_here","_law_steering","_law_pushes"] 5 (zFo K):=⟨_,_,zIF (k:=4) af ah ag ai F55 B N50.mono N51.mono N49.mono,W.mg_of X G a55,k55,b55⟩
 have N56:Fn l.prog w K mg base "_law_rooms" ["_law_thing_here","_law_safe_here","_law_low","_law_high","_law_turns"] 6 (zDu ae ac):=⟨_,_,zJi (k:=5) (Z:=Z) af ah ag ai F56 B NX32.mono,W.mg_of X G a56,k56,b56⟩
 have N57:Fn l.prog w K mg base "_law_right_steering" ["_law_found","_law_low","_law_high"] 1 zEa:=⟨_,_,zEQ (k:=0) af ah ag ai F57 B ,W.mg_of X G a57,k57,b57⟩
 have N58:Fn l.prog w K mg base "_law_near" ["_law_spec","_law_safe_here","_law_cell"] 3 zIn:=⟨_,_,zKm (k:=2) af ah ag ai F58 B N34.mono N35.mono N49.mono,W.mg_of X G a58,k58,b58⟩
 exact zOC (k:=8) af ah ag ai F59 B N42.mono N38.mono N56.mono N58.mono N33.mono N53.mono N47.mono N57.mono N54.mono N55.mono
theorem walk {l:PySem.W.OpenLaw} {q:Program} {loose:List Str} {XP:(Str->Option Value)->Heap->Prop} {YP:World->Heap->Prop} {d:DefRec} {K:Params->PySem.W.Frag} (hn:l.most=some 63) (hdf:d.params.defaults=[])
  (hY:∀ (w:World) (h:Heap),YP w h->(K w.params).In h)
  (F:∀ (w:World) (mg:Str->Option Value) (fa:Addr) (h:Heap),(K w.params).In h->h.Ns mainGlobals mg->mg d.name=some (.ref fa)->
   ∃ fd:FuncData,(∀ (s:Shared) (u:Value),BindsTo s fd ⟨[u],[]⟩ [("_law_script",u)])/\∀ base:Heap,(K w.params).In base->base.Ns mainGlobals mg->FnOk l.prog w (K w.params) mg base CX0 9 fa fd ["_law_script"] (zKM (K w.params))) :
  PySem.W.WalkO q loose XP YP l.row.toRowW d [] (fun f vs=>PySem.call f vs):=
 L2.zMo (n:=63) (k:=9) (x:="_law_script") (CX:=fun _=>CX0) (sp:=fun w=>zKM (K w.params)) hn (by decide) hdf ⟨rfl,by decide,by decide⟩ hY F (fun _ _ a ns hl _ hS=>⟨a,ns,rfl,hS,hl,fun _=>rfl⟩) fun _ _ _ _ _ z=>z
end K82
open PySem PySem.W PyProof.Rows
set_option maxRecDepth 100000 in
set_option maxHeartbeats 0 in
theorem PySem.Challenge.cw_steadyhand_k82_whole_the_holder_wins_holds : PySem.Challenge.rw_steadyhand_k82_whole_the_holder_wins.Holds := by
 w_on; o_law
 refine holds_open (q:=H82.vw) (loose:=H82.lo) (Xt:=H82.xt) (XP:=XL H82.vw []) (Yf:=(kHook H82.KK H82.ks H82.ke).obs) (Ya:=(kHook H82.KK H82.ks H82.ke).val) (YP:=(kHook H82.KK H82.ks H82.ke).says) H82.left
  (kHook H82.KK H82.ks H82.ke).of (kHook H82.KK H82.ks H82.ke).keeps
  (fun s e=>xl_of s (Bool.and_eq_true_iff.mp e).1) XL.keeps (by rfl) (by rfl) (by rfl)
  (fun s e=>recFacts_of (Bool.and_eq_true_iff.mp e).2) (by rfl) (by assumption) (by decide +kernel)
  ⟨rfl,rfl,rfl,rfl,rfl,by decide +kernel⟩ ?hw ?hc
 case hw=>w_witness2
 rename_i sd
 clear sd
 k_fill
 refine K82.walk (l:=PySem.Challenge.rw_steadyhand_k82_whole_the_holder_wins) rfl rfl (fun w h Y=>PySem.W.kIn_of Y) ?F
 case F=>
  intro w mg fa h KX G hmg
  refine' K82.all_mk KX G hmg ?aI ?aJ ?aK ?aL ?aN ?aO ?aQ ?aR ?aS ?aT ?aU ?aV ?aW ?aX ?aY ?aZ ?be ?bi ?bj ?bp ?bq ?bA ?bB ?bC ?bD ?bE ?bF ?bG ?bH ?bI ?bJ ?a0 ?l0 ?c0 ?k0 ?a1 ?l1 ?c1 ?k1 ?a2 ?l2 ?c2 ?k2 ?t2 ?a3 ?l3 ?c3 ?k3 ?a4 ?l4 ?c4 ?k4 ?a5 ?l5 ?c5 ?k5 ?a6 ?l6 ?c6 ?k6 ?a7 ?l7 ?c7 ?k7 ?t7 ?a8 ?l8 ?c8 ?k8 ?a9 ?l9 ?c9 ?k9 ?a10 ?l10 ?c10 ?k10 ?a11 ?l11 ?c11 ?k11 ?a12 ?l12 ?c12 ?k12 ?i13 ?a13 ?l13 ?c13 ?k13 ?a14 ?l14 ?c14 ?k14 ?a15 ?l15 ?c15 ?k15 ?i16 ?a16 ?l16 ?c16 ?k16 ?i17 ?a17 ?l17 ?c17 ?k17 ?i18 ?a18 ?l18 ?c18 ?k18 ?i19 ?a19 ?l19 ?c19 ?k19 ?a20 ?l20 ?c20 ?k20 ?t20 ?a21 ?l21 ?c21 ?k21 ?a22 ?l22 ?c22 ?k22 ?a23 ?l23 ?c23 ?k23 ?a24 ?l24 ?c24 ?k24 ?a25 ?l25 ?c25 ?k25 ?a26 ?l26 ?c26 ?k26 ?a27 ?l27 ?c27 ?k27 ?a28 ?l28 ?c28 ?k28 ?a29 ?l29 ?c29 ?k29 ?a30 ?l30 ?c30 ?k30 ?a31 ?l31 ?c31 ?k31 ?a32 ?l32 ?c32 ?k32 ?a33 ?l33 ?c33 ?k33 ?a34 ?l34 ?c34 ?k34 ?a35 ?l35 ?c35 ?k35 ?a36 ?l36 ?c36 ?k36 ?a37 ?l37 ?c37 ?k37 ?a38 ?l38 ?c38 ?k38 ?a39 ?l39 ?c39 ?k39 ?a40 ?l40 ?c40 ?k40 ?a41 ?l41 ?c41 ?k41 ?a42 ?l42 ?c42 ?k42 ?a43 ?l43 ?c43 ?k43 ?a44 ?l44 ?c44 ?k44 ?a45 ?l45 ?c45 ?k45 ?a46 ?l46 ?c46 ?k46 ?a47 ?l47 ?c47 ?k47 ?a48 ?l48 ?c48 ?k48 ?a49 ?l49 ?c49 ?k49 ?a50 ?l50 ?c50 ?k50 ?a51 ?l51 ?c51 ?k51 ?a52 ?l52 ?c52 ?k52 ?a53 ?l53 ?c53 ?k53 ?a54 ?l54 ?c54 ?k54 ?a55 ?l55 ?c55 ?k55 ?a56 ?l56 ?c56 ?k56 ?a57 ?l57 ?c57 ?k57 ?a58 ?l58 ?c58 ?k58 ?a59 ?l59 ?c59 ?k59 ?aM ?aP ?exM ?exP ?em_mm ?z0 ?z1 ?z2 ?z3 ?z4 ?z5 ?z6 ?z7 ?z8 ?z9 ?z10 ?cst0 ?cst1 ?cst2 ?cst3
  (case aI|aJ|aK|aL|aN|aO|aQ|aR|aS|aT|aU|aV|aW|aX|aY|aZ|be|bi|bj|bp|bq|bA|bB|bC|bD|bE|bF|bG|bH|bI|bJ|a0|l0|c0|k0|a1|l1|c1|k1|a2|l2|c2|k2|t2|a3|l3|c3|k3|a4|l4|c4|k4|a5|l5|c5|k5|a6|l6|c6|k6|a7|l7|c7|k7|t7|a8|l8|c8|k8|a9|l9|c9|k9|a10|l10|c10|k10|a11|l11|c11|k11|a12|l12|c12|k12|i13|a13|l13|c13|k13|a14|l14|c14|k14|a15|l15|c15|k15|i16|a16|l16|c16|k16|i17|a17|l17|c17|k17|i18|a18|l18|c18|k18|i19|a19|l19|c19|k19|a20|l20|c20|k20|t20|a21|l21|c21|k21|a22|l22|c22|k22|a23|l23|c23|k23|a24|l24|c24|k24|a25|l25|c25|k25|a26|l26|c26|k26|a27|l27|c27|k27|a28|l28|c28|k28|a29|l29|c29|k29|a30|l30|c30|k30|a31|l31|c31|k31|a32|l32|c32|k32|a33|l33|c33|k33|a34|l34|c34|k34|a35|l35|c35|k35|a36|l36|c36|k36|a37|l37|c37|k37|a38|l38|c38|k38|a39|l39|c39|k39|a40|l40|c40|k40|a41|l41|c41|k41|a42|l42|c42|k42|a43|l43|c43|k43|a44|l44|c44|k44|a45|l45|c45|k45|a46|l46|c46|k46|a47|l47|c47|k47|a48|l48|c48|k48|a49|l49|c49|k49|a50|l50|c50|k50|a51|l51|c51|k51|a52|l52|c52|k52|a53|l53|c53|k53|a54|l54|c54|k54|a55|l55|c55|k55|a56|l56|c56|k56|a57|l57|c57|k57|a58|l58|c58|k58|a59|l59|c59|k59|aM|aP=>k_is)
  (case exM=>k_exc)
  (case exP=>k_exc)
  (case em_mm=>first | kit_is | k_is | rfl | decide +kernel)
  (case z0|z1|z2|z3|z4|z5|z6|z7|z8|z9|z10|cst0|cst1|cst2|cst3=>k_is)
#print axioms PySem.Challenge.cw_steadyhand_k82_whole_the_holder_wins_holds
