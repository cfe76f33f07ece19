import PyProof.Rows.All
import Wide.All
import OpenK.AllK
import Wide.FinOn
import Lean
import PyProof.EqAt
import PyProof.EqKinds
import PyProof.TupleCall
import PyProof.ZipIter
import PyProof.Draws
import PySem.Challenge.RW_steadyhand_k85_things_turned
set_option Elab.async false
set_option linter.all false
set_option maxRecDepth 100000
set_option maxHeartbeats 0
namespace TT
open PySem PySem.W
noncomputable def runT (tb:String->Option Builtin) (p:Program) (w:World) (k:Nat) (an:Option Value):Nat->SharedT->Thread->Option SharedT
 | 0,_,_=>none
 | j + 1,x,t=>match through t with
  | true=>some x
  | false=>match stepOk k an t with
   | false=>none
   | true=>match stepT (denote tb) p w x t with
    | none=>none
    | some y=>runT tb p w k an j y.1 y.2
theorem runT_is {tb:String->Option Builtin} {p:Program} {w:World} {k:Nat} {an:Option Value}:∀ (j:Nat) (x y:SharedT) (t:Thread),runT tb p w k an j x t=some y->topRun tb p w k an j x.abs t=some y.abs
 | 0,_,_,_,e=>by cases e
 | j + 1,x,y,t,e=>by
  unfold runT at e
  unfold topRun
  cases e1:through t with
  | true=>
   rw [e1] at e
   cases e
   rfl
  | false=>
   rw [e1] at e
   cases e2:stepOk k an t with
   | false=>rw [e2] at e; cases e
   | true=>
    rw [e2] at e
    cases e3:stepT (denote tb) p w x t with
    | none=>rw [e3] at e; cases e
    | some z=>
     rw [e3] at e
     rw [stepT_spec e3]
     exact runT_is j z.1 y z.2 e
theorem left_is {p q:Program} {lo:List Str} {xt:Shared->Bool} {α:Type} {Yf:Shared->α} {Ya:World->α} {N k n0:Nat} {an:Option Value} {tr:Params->BT} (op:∀ w:World,(fencedOpening treeTable p w N).map (fun s=>(s.heap,s.gens,s.drawn,s.toks))=some (boot_heap w.params,Array.mk [],boot_drawn,boot_toks))
  (et:∀ P:Params,absHeap (tr P) n0 (boot_heap P).life=boot_heap P) (z1:∀ P:Params,(boot_heap P).isNs mainGlobals=true) (z2:∀ P:Params,(boot_heap P).objs.size=k) (z3:∀ P:Params,(boot_heap P).nsMap mainGlobals "__annotations__" = an)
  (h:∀ (w:World) (os:OsState),(runT treeTable p w k an N ⟨tr w.params,n0,(boot_heap w.params).life,Array.mk [],boot_drawn,boot_toks,os⟩ (topStub p)).map (fun s=>((staticsOk (importedModules p.main.body) (boot_heap w.params) s.abs.heap && namesBound p s.abs.heap && gensDone s.abs && laidKept (boot_heap w.params) s.abs.heap),openSeen q lo (importedModules p.main.body) xt true s.abs,Yf s.abs))=some (true,openGood q lo,Ya w)) :
  LeftO p q lo xt Yf Ya N:=fun w=>by
 obtain ⟨⟨hp,gs,d,tk,os⟩,e,e'⟩:=Option.map_eq_some_iff.mp (op w)
 injection e' with a1 e'
 injection e' with a2 e'
 injection e' with a3 a4
 subst a1 a2 a3 a4
 obtain ⟨y,ey,eo⟩:=Option.map_eq_some_iff.mp (h w os)
 injection eo with l1 eo
 injection eo with l2 l3
 have r:=runT_is _ _ _ _ ey
 have r':topRun treeTable p w k an N ⟨boot_heap w.params,Array.mk [],boot_drawn,boot_toks,os⟩ (topStub p)=some y.abs:=by
  rw [<- r]
  unfold SharedT.abs
  rw [et]
 have f:topFrom treeTable p w N ⟨boot_heap w.params,Array.mk [],boot_drawn,boot_toks,os⟩=some y.abs:=by
  unfold topFrom
  show (match (boot_heap w.params).isNs mainGlobals && true with | true=>_ | false=>_)=_
  rw [z1,z2,z3,r']
  show (match (_ && _ && _ && _) with | true=>_ | false=>_)=_
  rw [l1]
 unfold openEnds
 rw [e]
 show (topFrom treeTable p w N _).map _=_
 rw [f]
 exact congrArg some (Prod.ext l2 l3)
end TT
namespace H85
open PySem PySem.W
set_option maxRecDepth 100000
noncomputable def hT (i:Nat):Stmt:=PySem.Challenge.pw_steadyhand_k85_things_turned.main.body.getD i (.Pass ⟨0,0,0,0⟩)
noncomputable def hI (i j:Nat):Stmt:=match hT i with
 | .ClassDef _ _ _ b _ _ _ _ _ _ _=>b.getD j (.Pass ⟨0,0,0,0⟩)
 | s=>s
noncomputable def hA:Stmt->Arguments
 | .FunctionDef _ a _ _ _ _ _ _ _ _=>a
 | _=>⟨[],[],none,[],[],none,[]⟩
noncomputable def hB:Stmt->List Stmt
 | .FunctionDef _ _ b _ _ _ _ _ _ _=>b
 | _=>[]
noncomputable def hC:Stmt->Scope
 | .FunctionDef _ _ _ _ _ _ c _ _ _=>c
 | _=>{ kind:=.function,names:=[],isGenerator:=false,isCoroutine:=false }
noncomputable abbrev hS (s:String) (n:Nat):Value:=.str (Str.ofString s) n
noncomputable abbrev hE (P:Params) (s:String) (n:Nat) (v:Value):DictEntry:=⟨PyData.keyHash P (Str.ofString s),hS s n,v⟩
noncomputable abbrev hU (x:Array Value):Obj:={ cls:=.type "tuple",data:=.seq x }
noncomputable abbrev hD (s:String) (a:Nat) (s2:String) (b c:Nat) (i j f:Int) (r1 r2:Nat) (u v t r:Value) (y z:Int) (d:Nat):Obj:={ cls:=.type "code",data:=.fields #[hS s a,hS s2 b,hS "/claim/cut.py" c,.int i 0,.int j 0,.int 0 0,.int 0 0,.int f 0,.ref r1,.bool true,.int 181 0,.ref r2,u,v,t,r,.int y 0,.int z 0,hS "/claim/cut.py" d] }
noncomputable abbrev hF (n q:String) (s:Stmt) (d k:Value) (m:String) (j c:Nat):Obj:={ cls:=.type "function",data:=.func { name:=n,qualname:=q,params:=hA s,body:=.stmts (hB s),scope:=hC s,globals:=3,closure:=[],defaults:=d,kwdefaults:=k,pyModule:=hS m j,code:=.ref c } }
noncomputable def KK:Params->Frag:=fun P=>
 (nat_lit 2,{ cls:=.none,data:=.dict #[] }) ::
 (nat_lit 3,{ cls:=.type "dict",data:=.dict #[hE P "__name__" 165 (hS "law_steadyhand_k85_things_turned" 580),hE P "__doc__" 166 (.none),hE P "__package__" 167 (.none),hE P "__loader__" 168 (.builtin "__main__.__loader__#opaque"),hE P "__spec__" 169 (.none),hE P "__annotations__" 170 (.ref 6),hE P "__builtins__" 171 (.ref 4),hE P "__file__" 173 (hS "/claim/cut.py" 172),hE P "__cached__" 174 (.none),hE P "_wall" 193 (.ref 21),hE P "SteadyError" 213 (.ref 31),hE P "NoNumber" 229 (.ref 44),hE P "BadThing" 245 (.ref 56),hE P "BadRule" 261 (.ref 68),hE P "TooMany" 277 (.ref 80),hE P "BadTurn" 293 (.ref 92),hE P "is_whole" 302 (.ref 101),hE P "common_divisor" 313 (.ref 108),hE P "fraction" 323 (.ref 116),hE P "is_numbers" 331 (.ref 121),hE P "is_table" 337 (.ref 126),hE P "copied" 344 (.ref 132),hE P "unit" 351 (.ref 138),hE P "paired" 357 (.ref 143),hE P "added_up" 363 (.ref 148),hE P "is_row" 371 (.ref 153),hE P "is_room" 377 (.ref 158),hE P "raw_sum" 389 (.ref 165),hE P "along" 398 (.ref 172),hE P "divided_sum" 409 (.ref 179),hE P "MOST_NUMBERS" 413 (.int 3 412),hE P "MOST_PUSHES" 415 (.int 6 414),hE P "MOST_MODES" 417 (.int 40 416),hE P "Mode" 456 (.ref 196),hE P "Thing" 517 (.ref 245),hE P "is_sound" 523 (.ref 254),hE P "is_push" 530 (.ref 261),hE P "is_mode" 539 (.ref 268),hE P "turned_point" 547 (.ref 273),hE P "turned_row" 555 (.ref 280),hE P "turned" 561 (.ref 285),hE P "is_turn" 567 (.ref 290),hE P "product" 573 (.ref 295),hE P "turned_mode" 579 (.ref 300),hE P "_law_cell_at" 589 (.ref 307),hE P "_law_stream" 601 (.ref 314),hE P "_law_number" 608 (.ref 321),hE P "_law_parts" 614 (.ref 326),hE P "_law_product" 620 (.ref 331),hE P "_law_tables" 626 (.ref 336),hE P "_law_no_tables" 632 (.ref 341),hE P "_law_refused" 643 (.ref 348),hE P "_law_row" 649 (.ref 353),hE P "_law_turned" 655 (.ref 358),hE P "_law_told" 664 (.ref 365),hE P "law" 670 (.ref 370)] 56 }) ::
 (nat_lit 15,hU #[]) ::
 (nat_lit 17,hU #[hS "k" 190]) ::
 (nat_lit 18,hU #[]) ::
 (nat_lit 20,hD "_wall" 187 "_wall" 188 189 1 1 3 15 16 .none (.ref 17) (.ref 18) (.ref 19) 191 1 192) ::
 (nat_lit 21,hF "_wall" "_wall" (hT 0) .none .none "__main__" 164 20) ::
 (nat_lit 22,hU #[.type "ValueError"]) ::
 (nat_lit 29,hU #[]) ::
 (nat_lit 30,{ cls:=.type "dict",data:=.dict #[hE P "__module__" 203 (hS "steadyhand.errors" 194),hE P "__firstlineno__" 207 (.int 5 206),hE P "__static_attributes__" 208 (.ref 29),hE P "__weakref__" 210 (.ref 32),hE P "__doc__" 211 (.none)] 3 }) ::
 (nat_lit 31,{ cls:=.type "type",data:=.cls { name:="SteadyError",bases:=[.type "ValueError"],mro:=[.ref 31,.type "ValueError",.type "Exception",.type "BaseException",.type "object"],ns:=30,qualname:="SteadyError",subclasses:=[.ref 44,.ref 56,.ref 68,.ref 80,.ref 92] },slots:=#[some (.ref 22),none,some (hS "SteadyError" 196),some (hS "SteadyError" 204),some (.builtin "ValueError.__new__"),some (.bool true)] }) ::
 (nat_lit 32,{ cls:=.type "getset_descriptor",data:=.fields #[hS "__weakref__" 209,.ref 31,.builtin "ExceptionGroup.__weakref__",.none] }) ::
 (nat_lit 35,hU #[.ref 31]) ::
 (nat_lit 42,hU #[]) ::
 (nat_lit 43,{ cls:=.type "dict",data:=.dict #[hE P "__module__" 221 (hS "steadyhand.errors" 194),hE P "__firstlineno__" 225 (.int 7 224),hE P "__static_attributes__" 226 (.ref 42),hE P "__doc__" 227 (.none)] 2 }) ::
 (nat_lit 44,{ cls:=.type "type",data:=.cls { name:="NoNumber",bases:=[.ref 31],mro:=[.ref 44,.ref 31,.type "ValueError",.type "Exception",.type "BaseException",.type "object"],ns:=43,qualname:="NoNumber" },slots:=#[some (.ref 35),none,some (hS "NoNumber" 214),some (hS "NoNumber" 222),some (.builtin "ValueError.__new__"),some (.bool true)] }) ::
 (nat_lit 47,hU #[.ref 31]) ::
 (nat_lit 54,hU #[]) ::
 (nat_lit 55,{ cls:=.type "dict",data:=.dict #[hE P "__module__" 237 (hS "steadyhand.errors" 194),hE P "__firstlineno__" 241 (.int 9 240),hE P "__static_attributes__" 242 (.ref 54),hE P "__doc__" 243 (.none)] 2 }) ::
 (nat_lit 56,{ cls:=.type "type",data:=.cls { name:="BadThing",bases:=[.ref 31],mro:=[.ref 56,.ref 31,.type "ValueError",.type "Exception",.type "BaseException",.type "object"],ns:=55,qualname:="BadThing" },slots:=#[some (.ref 47),none,some (hS "BadThing" 230),some (hS "BadThing" 238),some (.builtin "ValueError.__new__"),some (.bool true)] }) ::
 (nat_lit 59,hU #[.ref 31]) ::
 (nat_lit 66,hU #[]) ::
 (nat_lit 67,{ cls:=.type "dict",data:=.dict #[hE P "__module__" 253 (hS "steadyhand.errors" 194),hE P "__firstlineno__" 257 (.int 11 256),hE P "__static_attributes__" 258 (.ref 66),hE P "__doc__" 259 (.none)] 2 }) ::
 (nat_lit 68,{ cls:=.type "type",data:=.cls { name:="BadRule",bases:=[.ref 31],mro:=[.ref 68,.ref 31,.type "ValueError",.type "Exception",.type "BaseException",.type "object"],ns:=67,qualname:="BadRule" },slots:=#[some (.ref 59),none,some (hS "BadRule" 246),some (hS "BadRule" 254),some (.builtin "ValueError.__new__"),some (.bool true)] }) ::
 (nat_lit 71,hU #[.ref 31]) ::
 (nat_lit 78,hU #[]) ::
 (nat_lit 79,{ cls:=.type "dict",data:=.dict #[hE P "__module__" 269 (hS "steadyhand.errors" 194),hE P "__firstlineno__" 273 (.int 13 272),hE P "__static_attributes__" 274 (.ref 78),hE P "__doc__" 275 (.none)] 2 }) ::
 (nat_lit 80,{ cls:=.type "type",data:=.cls { name:="TooMany",bases:=[.ref 31],mro:=[.ref 80,.ref 31,.type "ValueError",.type "Exception",.type "BaseException",.type "object"],ns:=79,qualname:="TooMany" },slots:=#[some (.ref 71),none,some (hS "TooMany" 262),some (hS "TooMany" 270),some (.builtin "ValueError.__new__"),some (.bool true)] }) ::
 (nat_lit 83,hU #[.ref 31]) ::
 (nat_lit 90,hU #[]) ::
 (nat_lit 91,{ cls:=.type "dict",data:=.dict #[hE P "__module__" 285 (hS "steadyhand.errors" 194),hE P "__firstlineno__" 289 (.int 15 288),hE P "__static_attributes__" 290 (.ref 90),hE P "__doc__" 291 (.none)] 2 }) ::
 (nat_lit 92,{ cls:=.type "type",data:=.cls { name:="BadTurn",bases:=[.ref 31],mro:=[.ref 92,.ref 31,.type "ValueError",.type "Exception",.type "BaseException",.type "object"],ns:=91,qualname:="BadTurn" },slots:=#[some (.ref 83),none,some (hS "BadTurn" 278),some (hS "BadTurn" 286),some (.builtin "ValueError.__new__"),some (.bool true)] }) ::
 (nat_lit 95,hU #[]) ::
 (nat_lit 97,hU #[hS "thing" 299]) ::
 (nat_lit 98,hU #[]) ::
 (nat_lit 100,hD "is_whole" 296 "is_whole" 297 298 18 1 3 95 96 .none (.ref 97) (.ref 98) (.ref 99) 300 18 301) ::
 (nat_lit 101,hF "is_whole" "is_whole" (hT 9) .none .none "steadyhand.fractions" 294 100) ::
 (nat_lit 102,hU #[]) ::
 (nat_lit 104,hU #[hS "numbers" 306,hS "common" 307,hS "number" 308,hS "rest" 309,hS "left" 310]) ::
 (nat_lit 105,hU #[]) ::
 (nat_lit 107,hD "common_divisor" 303 "common_divisor" 304 305 20 1 3 102 103 .none (.ref 104) (.ref 105) (.ref 106) 311 20 312) ::
 (nat_lit 108,hF "common_divisor" "common_divisor" (hT 10) .none .none "steadyhand.fractions" 294 107) ::
 (nat_lit 109,hU #[.int 1 314]) ::
 (nat_lit 110,hU #[]) ::
 (nat_lit 112,hU #[hS "top" 318,hS "bottom" 319,hS "common" 320]) ::
 (nat_lit 113,hU #[]) ::
 (nat_lit 115,hD "fraction" 315 "fraction" 316 317 29 2 3 110 111 .none (.ref 112) (.ref 113) (.ref 114) 321 29 322) ::
 (nat_lit 116,hF "fraction" "fraction" (hT 11) (.ref 109) .none "steadyhand.fractions" 294 115) ::
 (nat_lit 117,hU #[]) ::
 (nat_lit 120,hD "is_numbers" 326 "is_numbers" 327 328 39 2 3 117 118 .none .none .none (.ref 119) 329 39 330) ::
 (nat_lit 121,hF "is_numbers" "is_numbers" (hT 13) .none .none "steadyhand.tables" 324 120) ::
 (nat_lit 122,hU #[]) ::
 (nat_lit 125,hD "is_table" 332 "is_table" 333 334 41 3 3 122 123 .none .none .none (.ref 124) 335 41 336) ::
 (nat_lit 126,hF "is_table" "is_table" (hT 14) .none .none "steadyhand.tables" 324 125) ::
 (nat_lit 127,hU #[.int 5 338]) ::
 (nat_lit 128,hU #[]) ::
 (nat_lit 131,hD "copied" 339 "copied" 340 341 43 2 3 128 129 .none .none .none (.ref 130) 342 43 343) ::
 (nat_lit 132,hF "copied" "copied" (hT 15) (.ref 127) .none "steadyhand.tables" 324 131) ::
 (nat_lit 133,hU #[.int 1 345]) ::
 (nat_lit 134,hU #[]) ::
 (nat_lit 137,hD "unit" 346 "unit" 347 348 51 3 3 134 135 .none .none .none (.ref 136) 349 51 350) ::
 (nat_lit 138,hF "unit" "unit" (hT 16) (.ref 133) .none "steadyhand.tables" 324 137) ::
 (nat_lit 139,hU #[]) ::
 (nat_lit 142,hD "paired" 352 "paired" 353 354 53 2 3 139 140 .none .none .none (.ref 141) 355 53 356) ::
 (nat_lit 143,hF "paired" "paired" (hT 17) .none .none "steadyhand.tables" 324 142) ::
 (nat_lit 144,hU #[]) ::
 (nat_lit 147,hD "added_up" 358 "added_up" 359 360 55 3 3 144 145 .none .none .none (.ref 146) 361 55 362) ::
 (nat_lit 148,hF "added_up" "added_up" (hT 18) .none .none "steadyhand.tables" 324 147) ::
 (nat_lit 149,hU #[]) ::
 (nat_lit 152,hD "is_row" 366 "is_row" 367 368 58 2 3 149 150 .none .none .none (.ref 151) 369 58 370) ::
 (nat_lit 153,hF "is_row" "is_row" (hT 20) .none .none "steadyhand.rows" 364 152) ::
 (nat_lit 154,hU #[]) ::
 (nat_lit 157,hD "is_room" 372 "is_room" 373 374 60 2 3 154 155 .none .none .none (.ref 156) 375 60 376) ::
 (nat_lit 158,hF "is_room" "is_room" (hT 21) .none .none "steadyhand.rows" 364 157) ::
 (nat_lit 159,hU #[]) ::
 (nat_lit 161,hU #[hS "numbers" 381,hS "point" 382,hS "top" 383,hS "bottom" 384,hS "number" 385,hS "part" 386]) ::
 (nat_lit 162,hU #[]) ::
 (nat_lit 164,hD "raw_sum" 378 "raw_sum" 379 380 62 2 3 159 160 .none (.ref 161) (.ref 162) (.ref 163) 387 62 388) ::
 (nat_lit 165,hF "raw_sum" "raw_sum" (hT 22) .none .none "steadyhand.rows" 364 164) ::
 (nat_lit 166,hU #[]) ::
 (nat_lit 168,hU #[hS "row" 393,hS "point" 394,hS "total" 395]) ::
 (nat_lit 169,hU #[]) ::
 (nat_lit 171,hD "along" 390 "along" 391 392 69 2 3 166 167 .none (.ref 168) (.ref 169) (.ref 170) 396 69 397) ::
 (nat_lit 172,hF "along" "along" (hT 23) .none .none "steadyhand.rows" 364 171) ::
 (nat_lit 173,hU #[]) ::
 (nat_lit 175,hU #[hS "numbers" 402,hS "point" 403,hS "add" 404,hS "divisor" 405,hS "total" 406]) ::
 (nat_lit 176,hU #[]) ::
 (nat_lit 178,hD "divided_sum" 399 "divided_sum" 400 401 72 4 3 173 174 .none (.ref 175) (.ref 176) (.ref 177) 407 72 408) ::
 (nat_lit 179,hF "divided_sum" "divided_sum" (hT 24) .none .none "steadyhand.rows" 364 178) ::
 (nat_lit 187,hU #[]) ::
 (nat_lit 189,hU #[hS "self" 433,hS "rows" 434,hS "nexts" 435,hS "steer" 436,hS "push" 437,hS "add" 438,hS "divisor" 439]) ::
 (nat_lit 190,hU #[]) ::
 (nat_lit 192,hD "__init__" 430 "Mode.__init__" 431 432 81 7 3 187 188 .none (.ref 189) (.ref 190) (.ref 191) 440 81 441) ::
 (nat_lit 193,hF "__init__" "Mode.__init__" (hI 29 0) .none .none "steadyhand.things" 410 192) ::
 (nat_lit 194,hU #[hS "add" 443,hS "divisor" 444,hS "nexts" 445,hS "push" 446,hS "rows" 447,hS "steer" 448]) ::
 (nat_lit 195,{ cls:=.type "dict",data:=.dict #[hE P "__module__" 425 (hS "steadyhand.things" 410),hE P "__firstlineno__" 429 (.int 79 428),hE P "__init__" 442 (.ref 193),hE P "__static_attributes__" 449 (.ref 194),hE P "__dict__" 451 (.ref 197),hE P "__weakref__" 453 (.ref 198),hE P "__doc__" 454 (.none)] 4 }) ::
 (nat_lit 196,{ cls:=.type "type",data:=.cls { name:="Mode",bases:=[.type "object"],mro:=[.ref 196,.type "object"],ns:=195,qualname:="Mode" },slots:=#[none,none,some (hS "Mode" 418),some (hS "Mode" 426),some (.builtin "object.__new__"),some (.bool true)] }) ::
 (nat_lit 197,{ cls:=.type "getset_descriptor",data:=.fields #[hS "__dict__" 450,.ref 196,.builtin "function.__dict__",.builtin "function.__dict__#set"] }) ::
 (nat_lit 198,{ cls:=.type "getset_descriptor",data:=.fields #[hS "__weakref__" 452,.ref 196,.builtin "ExceptionGroup.__weakref__",.none] }) ::
 (nat_lit 208,hU #[]) ::
 (nat_lit 210,hU #[hS "self" 472,hS "many" 473,hS "pushes" 474,hS "modes" 475]) ::
 (nat_lit 211,hU #[]) ::
 (nat_lit 213,hD "__init__" 469 "Thing.__init__" 470 471 90 4 3 208 209 .none (.ref 210) (.ref 211) (.ref 212) 476 90 477) ::
 (nat_lit 214,hF "__init__" "Thing.__init__" (hI 30 0) .none .none "steadyhand.things" 410 213) ::
 (nat_lit 215,hU #[]) ::
 (nat_lit 217,hU #[hS "self" 482]) ::
 (nat_lit 218,hU #[]) ::
 (nat_lit 220,hD "pushes" 479 "Thing.pushes" 480 481 99 1 3 215 216 .none (.ref 217) (.ref 218) (.ref 219) 483 99 484) ::
 (nat_lit 221,hF "pushes" "Thing.pushes" (hI 30 1) .none .none "steadyhand.things" 410 220) ::
 (nat_lit 222,hU #[]) ::
 (nat_lit 224,hU #[hS "self" 489]) ::
 (nat_lit 225,hU #[]) ::
 (nat_lit 227,hD "modes" 486 "Thing.modes" 487 488 102 1 3 222 223 .none (.ref 224) (.ref 225) (.ref 226) 490 102 491) ::
 (nat_lit 228,hF "modes" "Thing.modes" (hI 30 2) .none .none "steadyhand.things" 410 227) ::
 (nat_lit 229,hU #[]) ::
 (nat_lit 231,hU #[hS "self" 496]) ::
 (nat_lit 232,hU #[]) ::
 (nat_lit 234,hD "is_closed" 493 "Thing.is_closed" 494 495 105 1 3 229 230 .none (.ref 231) (.ref 232) (.ref 233) 497 105 498) ::
 (nat_lit 235,hF "is_closed" "Thing.is_closed" (hI 30 3) .none .none "steadyhand.things" 410 234) ::
 (nat_lit 236,hU #[]) ::
 (nat_lit 238,hU #[hS "self" 503]) ::
 (nat_lit 239,hU #[]) ::
 (nat_lit 241,hD "is_plain" 500 "Thing.is_plain" 501 502 108 1 3 236 237 .none (.ref 238) (.ref 239) (.ref 240) 504 108 505) ::
 (nat_lit 242,hF "is_plain" "Thing.is_plain" (hI 30 4) .none .none "steadyhand.things" 410 241) ::
 (nat_lit 243,hU #[hS "kept_modes" 507,hS "kept_pushes" 508,hS "many" 509]) ::
 (nat_lit 244,{ cls:=.type "dict",data:=.dict #[hE P "__module__" 464 (hS "steadyhand.things" 410),hE P "__firstlineno__" 468 (.int 88 467),hE P "__init__" 478 (.ref 214),hE P "pushes" 485 (.ref 221),hE P "modes" 492 (.ref 228),hE P "is_closed" 499 (.ref 235),hE P "is_plain" 506 (.ref 242),hE P "__static_attributes__" 510 (.ref 243),hE P "__dict__" 512 (.ref 246),hE P "__weakref__" 514 (.ref 247),hE P "__doc__" 515 (.none)] 4 }) ::
 (nat_lit 245,{ cls:=.type "type",data:=.cls { name:="Thing",bases:=[.type "object"],mro:=[.ref 245,.type "object"],ns:=244,qualname:="Thing" },slots:=#[none,none,some (hS "Thing" 457),some (hS "Thing" 465),some (.builtin "object.__new__"),some (.bool true)] }) ::
 (nat_lit 246,{ cls:=.type "getset_descriptor",data:=.fields #[hS "__dict__" 511,.ref 245,.builtin "function.__dict__",.builtin "function.__dict__#set"] }) ::
 (nat_lit 247,{ cls:=.type "getset_descriptor",data:=.fields #[hS "__weakref__" 513,.ref 245,.builtin "ExceptionGroup.__weakref__",.none] }) ::
 (nat_lit 250,hU #[]) ::
 (nat_lit 253,hD "is_sound" 518 "is_sound" 519 520 110 3 3 250 251 .none .none .none (.ref 252) 521 110 522) ::
 (nat_lit 254,hF "is_sound" "is_sound" (hT 31) .none .none "steadyhand.things" 410 253) ::
 (nat_lit 255,hU #[]) ::
 (nat_lit 257,hU #[hS "value" 527]) ::
 (nat_lit 258,hU #[]) ::
 (nat_lit 260,hD "is_push" 524 "is_push" 525 526 118 1 3 255 256 .none (.ref 257) (.ref 258) (.ref 259) 528 118 529) ::
 (nat_lit 261,hF "is_push" "is_push" (hT 32) .none .none "steadyhand.things" 410 260) ::
 (nat_lit 262,hU #[]) ::
 (nat_lit 264,hU #[hS "value" 534,hS "many" 535,hS "wide" 536]) ::
 (nat_lit 265,hU #[]) ::
 (nat_lit 267,hD "is_mode" 531 "is_mode" 532 533 122 3 3 262 263 .none (.ref 264) (.ref 265) (.ref 266) 537 122 538) ::
 (nat_lit 268,hF "is_mode" "is_mode" (hT 33) .none .none "steadyhand.things" 410 267) ::
 (nat_lit 269,hU #[]) ::
 (nat_lit 272,hD "turned_point" 542 "turned_point" 543 544 131 2 3 269 270 .none .none .none (.ref 271) 545 131 546) ::
 (nat_lit 273,hF "turned_point" "turned_point" (hT 35) .none .none "steadyhand.turning" 540 272) ::
 (nat_lit 274,hU #[]) ::
 (nat_lit 276,hU #[hS "back" 551,hS "row" 552]) ::
 (nat_lit 277,hU #[]) ::
 (nat_lit 279,hD "turned_row" 548 "turned_row" 549 550 133 2 3 274 275 .none (.ref 276) (.ref 277) (.ref 278) 553 133 554) ::
 (nat_lit 280,hF "turned_row" "turned_row" (hT 36) .none .none "steadyhand.turning" 540 279) ::
 (nat_lit 281,hU #[]) ::
 (nat_lit 284,hD "turned" 556 "turned" 557 558 135 3 3 281 282 .none .none .none (.ref 283) 559 135 560) ::
 (nat_lit 285,hF "turned" "turned" (hT 37) .none .none "steadyhand.turning" 540 284) ::
 (nat_lit 286,hU #[]) ::
 (nat_lit 289,hD "is_turn" 562 "is_turn" 563 564 140 3 3 286 287 .none .none .none (.ref 288) 565 140 566) ::
 (nat_lit 290,hF "is_turn" "is_turn" (hT 38) .none .none "steadyhand.turning" 540 289) ::
 (nat_lit 291,hU #[]) ::
 (nat_lit 294,hD "product" 568 "product" 569 570 144 3 3 291 292 .none .none .none (.ref 293) 571 144 572) ::
 (nat_lit 295,hF "product" "product" (hT 39) .none .none "steadyhand.turning" 540 294) ::
 (nat_lit 296,hU #[]) ::
 (nat_lit 299,hD "turned_mode" 574 "turned_mode" 575 576 146 4 3 296 297 .none .none .none (.ref 298) 577 146 578) ::
 (nat_lit 300,hF "turned_mode" "turned_mode" (hT 40) .none .none "steadyhand.turning" 540 299) ::
 (nat_lit 301,hU #[]) ::
 (nat_lit 303,hU #[hS "_law_script" 585,hS "_law_k" 586]) ::
 (nat_lit 304,hU #[]) ::
 (nat_lit 306,hD "_law_cell_at" 582 "_law_cell_at" 583 584 150 2 3 301 302 .none (.ref 303) (.ref 304) (.ref 305) 587 150 588) ::
 (nat_lit 307,hF "_law_cell_at" "_law_cell_at" (hT 42) .none .none "law_steadyhand_k85_things_turned" 580 306) ::
 (nat_lit 308,hU #[]) ::
 (nat_lit 310,hU #[hS "_law_cell" 593,hS "_law_many" 594,hS "_law_found" 595,hS "_law_rest" 596,hS "_law_k" 597,hS "_law_number_here" 598]) ::
 (nat_lit 311,hU #[]) ::
 (nat_lit 313,hD "_law_stream" 590 "_law_stream" 591 592 154 2 3 308 309 .none (.ref 310) (.ref 311) (.ref 312) 599 154 600) ::
 (nat_lit 314,hF "_law_stream" "_law_stream" (hT 43) .none .none "law_steadyhand_k85_things_turned" 580 313) ::
 (nat_lit 315,hU #[]) ::
 (nat_lit 317,hU #[hS "_law_number_here" 605]) ::
 (nat_lit 318,hU #[]) ::
 (nat_lit 320,hD "_law_number" 602 "_law_number" 603 604 167 1 3 315 316 .none (.ref 317) (.ref 318) (.ref 319) 606 167 607) ::
 (nat_lit 321,hF "_law_number" "_law_number" (hT 44) .none .none "law_steadyhand_k85_things_turned" 580 320) ::
 (nat_lit 322,hU #[]) ::
 (nat_lit 325,hD "_law_parts" 609 "_law_parts" 610 611 171 3 3 322 323 .none .none .none (.ref 324) 612 171 613) ::
 (nat_lit 326,hF "_law_parts" "_law_parts" (hT 45) .none .none "law_steadyhand_k85_things_turned" 580 325) ::
 (nat_lit 327,hU #[]) ::
 (nat_lit 330,hD "_law_product" 615 "_law_product" 616 617 178 3 3 327 328 .none .none .none (.ref 329) 618 178 619) ::
 (nat_lit 331,hF "_law_product" "_law_product" (hT 46) .none .none "law_steadyhand_k85_things_turned" 580 330) ::
 (nat_lit 332,hU #[]) ::
 (nat_lit 335,hD "_law_tables" 621 "_law_tables" 622 623 183 2 3 332 333 .none .none .none (.ref 334) 624 183 625) ::
 (nat_lit 336,hF "_law_tables" "_law_tables" (hT 47) .none .none "law_steadyhand_k85_things_turned" 580 335) ::
 (nat_lit 337,hU #[]) ::
 (nat_lit 340,hD "_law_no_tables" 627 "_law_no_tables" 628 629 199 3 3 337 338 .none .none .none (.ref 339) 630 199 631) ::
 (nat_lit 341,hF "_law_no_tables" "_law_no_tables" (hT 48) .none .none "law_steadyhand_k85_things_turned" 580 340) ::
 (nat_lit 342,hU #[]) ::
 (nat_lit 344,hU #[hS "_law_thing" 636,hS "_law_there" 637,hS "_law_back" 638,hS "e" 639,hS "_law_others" 640]) ::
 (nat_lit 345,hU #[]) ::
 (nat_lit 347,hD "_law_refused" 633 "_law_refused" 634 635 210 3 3 342 343 .none (.ref 344) (.ref 345) (.ref 346) 641 210 642) ::
 (nat_lit 348,hF "_law_refused" "_law_refused" (hT 49) .none .none "law_steadyhand_k85_things_turned" 580 347) ::
 (nat_lit 349,hU #[]) ::
 (nat_lit 352,hD "_law_row" 644 "_law_row" 645 646 217 2 3 349 350 .none .none .none (.ref 351) 647 217 648) ::
 (nat_lit 353,hF "_law_row" "_law_row" (hT 50) .none .none "law_steadyhand_k85_things_turned" 580 352) ::
 (nat_lit 354,hU #[]) ::
 (nat_lit 357,hD "_law_turned" 650 "_law_turned" 651 652 221 4 3 354 355 .none .none .none (.ref 356) 653 221 654) ::
 (nat_lit 358,hF "_law_turned" "_law_turned" (hT 51) .none .none "law_steadyhand_k85_things_turned" 580 357) ::
 (nat_lit 359,hU #[]) ::
 (nat_lit 361,hU #[hS "_law_thing" 659,hS "_law_found" 660,hS "_law_mode" 661]) ::
 (nat_lit 362,hU #[]) ::
 (nat_lit 364,hD "_law_told" 656 "_law_told" 657 658 229 1 3 359 360 .none (.ref 361) (.ref 362) (.ref 363) 662 229 663) ::
 (nat_lit 365,hF "_law_told" "_law_told" (hT 52) .none .none "law_steadyhand_k85_things_turned" 580 364) ::
 (nat_lit 366,hU #[]) ::
 (nat_lit 369,hD "law" 665 "law" 666 667 234 1 3 366 367 .none .none .none (.ref 368) 668 234 669) ::
 (nat_lit 370,hF "law" "law" (hT 53) .none .none "law_steadyhand_k85_things_turned" 580 369) :: []
noncomputable def ks:List Addr:=[2,3,15,17,18,20,21,22,29,30,31,32,35,42,43,44,47,54,55,56,59,66,67,68,71,78,79,80,83,90,91,92,95,97,98,100,101,102,104,105,107,108,109,110,112,113,115,116,117,120,121,122,125,126,127,128,131,132,133,134,137,138,139,142,143,144,147,148,149,152,153,154,157,158,159,161,162,164,165,166,168,169,171,172,173,175,176,178,179,187,189,190,192,193,194,195,196,197,198,208,210,211,213,214,215,217,218,220,221,222,224,225,227,228,229,231,232,234,235,236,238,239,241,242,243,244,245,246,247,250,253,254,255,257,258,260,261,262,264,265,267,268,269,272,273,274,276,277,279,280,281,284,285,286,289,290,291,294,295,296,299,300,301,303,304,306,307,308,310,311,313,314,315,317,318,320,321,322,325,326,327,330,331,332,335,336,337,340,341,342,344,345,347,348,349,352,353,354,357,358,359,361,362,364,365,366,369,370]
theorem ke:∀ P:Params,ks=(KK P).map (·.1):=fun _=>by
 kernel_rfl
noncomputable def vw:Program:={ PySem.Challenge.pw_steadyhand_k85_things_turned with main:={ PySem.Challenge.pw_steadyhand_k85_things_turned.main with body:=[hT 0,hT 2,hT 3,hT 4,hT 5,hT 6,hT 7,hT 9,hT 10,hT 13,hT 14,hT 17,hT 18,hT 20,hT 21,hT 22,hT 23,hT 24,hT 26,hT 27,hT 28,hT 29,hT 30,hT 31,hT 32,hT 33,hT 35,hT 36,hT 37,hT 38,hT 39,hT 40,hT 42,hT 43,hT 44,hT 45,hT 46,hT 47,hT 48,hT 49,hT 50,hT 51,hT 52,hT 53] } }
noncomputable def lo:List Str:=[Str.ofString "fraction",Str.ofString "copied",Str.ofString "unit"]
noncomputable abbrev rr:RowW:=(OpenLaw.row PySem.Challenge.rw_steadyhand_k85_things_turned).toRowW
noncomputable abbrev xt:Shared->Bool:=fun s=>xlAt vw [] s && recOk rr.records s
noncomputable def bt:Params->BT:=fun P=>(.node (boot_o_0 P) (.node (boot_o_1 P) (.node (boot_o_3 P) (.node (boot_o_7 P) .nil .nil) .nil) (.node (boot_o_5 P) (.node (boot_o_9 P) .nil .nil) .nil)) (.node (boot_o_2 P) (.node (boot_o_4 P) (.node (boot_o_8 P) .nil .nil) .nil) (.node (boot_o_6 P) (.node (boot_o_10 P) .nil .nil) .nil)))
noncomputable def lhs (T:Params->BT) (h:Params->Heap) (d:Drawn) (k:Nat) (w:World) (os:OsState):=(TT.runT treeTable PySem.Challenge.pw_steadyhand_k85_things_turned w 11 (some (.ref 6)) 6010 ⟨T w.params,11,(h w.params).life,Array.mk [],d,k,os⟩ (topStub PySem.Challenge.pw_steadyhand_k85_things_turned)).map (fun s=>((staticsOk (importedModules PySem.Challenge.pw_steadyhand_k85_things_turned.main.body) (h w.params) s.abs.heap && namesBound PySem.Challenge.pw_steadyhand_k85_things_turned s.abs.heap && gensDone s.abs && laidKept (h w.params) s.abs.heap),openSeen vw lo (importedModules PySem.Challenge.pw_steadyhand_k85_things_turned.main.body) xt true s.abs,ks.map s.abs.heap.get?))
noncomputable def rhs (w:World) (_:OsState):=some (true,openGood vw lo,(KK w.params).map fun p=>some p.2)
lay_quick lhs rhs
theorem same (w:World) (os:OsState):PySem.W.Fast.tw14524910290897602736 bt boot_heap boot_drawn boot_toks w os=PySem.W.Fast.tw7687418214851238043 w os:=by
 kernel_rfl
theorem left:LeftO rr.prog vw lo xt (kHook KK ks ke).obs (kHook KK ks ke).val 6010:=
 TT.left_is (boot_open (by kernel_rfl) (by decide) (fun _=>by kernel_rfl)) (fun _=>by kernel_rfl) (fun _=>by kernel_rfl) (fun _=>by kernel_rfl) (fun _=>by kernel_rfl)
  fun w os=>(congrArg (fun f=>f bt boot_heap boot_drawn boot_toks w os) PySem.W.Fast.te14524910290897602736).trans ((same w os).trans (congrFun (congrFun PySem.W.Fast.te7687418214851238043 w) os).symm)
end H85
namespace L2
open PySem PySem.Spec PyProof.Rows
noncomputable abbrev Key:=Sum Int Str
noncomputable def keyIs:Key->Value->Bool
 | .inl k,v=>Value.isInt k v
 | .inr x,v=>Value.isStrOf x v
noncomputable def keyH (w:World):Key->Int
 | .inl k=>hashInt k
 | .inr x=>hashStr w x
theorem keyIs_shape:∀ {k:Key} {v:Value},keyIs k v=true->(∃ i t,k=Sum.inl i/\v=Value.int i t)\/(∃ x t,k=Sum.inr x/\v=Value.str x t)
 | .inl i,v,h=>by
  obtain ⟨t,e⟩:=Value.isInt_shape (k:=i) (v:=v) h
  exact .inl ⟨i,t,rfl,e⟩
 | .inr x,v,h=>by
  obtain ⟨t,e⟩:=Value.isStrOf_shape (x:=x) (v:=v) h
  exact .inr ⟨x,t,rfl,e⟩
theorem key_ll (a b:Int):decide ((Sum.inl a:Key)=Sum.inl b)=(a == b):=by
 by_cases e:a=b
 ·subst e; simp
 ·have h:¬ (Sum.inl a:Key)=Sum.inl b:=fun q=>e (Sum.inl.inj q)
  rw [decide_eq_false h]
  exact (beq_eq_false_iff_ne.mpr e).symm
theorem key_rr (a b:Str):decide ((Sum.inr a:Key)=Sum.inr b)=decide (a=b):=by
 by_cases e:a=b
 ·subst e; simp
 ·have h:¬ (Sum.inr a:Key)=Sum.inr b:=fun q=>e (Sum.inr.inj q)
  rw [decide_eq_false h,decide_eq_false e]
theorem key_lr (a:Int) (b:Str):decide ((Sum.inl a:Key)=Sum.inr b)=false:=decide_eq_false (fun q=>nomatch q)
theorem key_rl (a:Str) (b:Int):decide ((Sum.inr a:Key)=Sum.inl b)=false:=decide_eq_false (fun q=>nomatch q)
noncomputable def mixKind (prog:Program) (w:World):PySem.KeyKind prog w Key where
 is:=keyIs
 hash:=keyH w
 inj:=fun v a b ha hb=>by
  rcases keyIs_shape ha with ⟨i,t,rfl,rfl⟩ | ⟨x,t,rfl,rfl⟩
  ·rcases keyIs_shape hb with ⟨j,u,rfl,e⟩ | ⟨y,u,rfl,e⟩
   ·injection e with e1 _; rw [e1]
   ·exact nomatch e
  ·rcases keyIs_shape hb with ⟨j,u,rfl,e⟩ | ⟨y,u,rfl,e⟩
   ·exact nomatch e
   ·injection e with e1 _; rw [e1]
 byValue:=fun k v h=>by
  rcases keyIs_shape h with ⟨i,t,rfl,rfl⟩ | ⟨x,t,rfl,rfl⟩ <;> rfl
 pyHash:=fun hv h=>by
  rcases keyIs_shape hv with ⟨i,t,rfl,rfl⟩ | ⟨x,t,rfl,rfl⟩
  ·exact wpAny_pyHash_int h
  ·exact wpAny_pyHash_str h
 eqBool:=fun hu hv h=>by
  rcases keyIs_shape hu with ⟨i,t,rfl,rfl⟩ | ⟨x,t,rfl,rfl⟩
  ·rcases keyIs_shape hv with ⟨j,u,rfl,rfl⟩ | ⟨y,u,rfl,rfl⟩
   ·rw [key_ll] at h; exact wpAny_eqBool_int h
   ·rw [key_lr] at h; exact SeqAt.EqAt.int_str i t y u _ _ _ _ h
  ·rcases keyIs_shape hv with ⟨j,u,rfl,rfl⟩ | ⟨y,u,rfl,rfl⟩
   ·rw [key_rl] at h; exact SeqAt.EqAt.str_int x t j u _ _ _ _ h
   ·rw [key_rr] at h; exact wpAny_eqBool_str h
 «strs»:=fun k x t v h=>by
  rcases keyIs_shape h with ⟨i,u,rfl,e⟩ | ⟨y,u,rfl,e⟩
  ·exact nomatch e
  ·injection e with e1 _
   subst e1
   cases v <;> rfl
end L2
namespace L2
open PySem PySem.Spec PyProof.Rows
inductive V where
 | non | bl (b:Bool) | int (i:Int) | str (x:Str) | byt (b:Array UInt8) | flt (b:UInt64) | ref (a:Addr) | ty (n:String)
 deriving DecidableEq
noncomputable def RelV:V->Value->Prop
 | .non,u=>u=Value.none
 | .bl b,u=>u=Value.bool b
 | .int i,u=>∃ t,u=Value.int i t
 | .str x,u=>∃ t,u=Value.str x t
 | .byt b,u=>∃ t,u=Value.bytes b t
 | .flt b,u=>∃ t,u=Value.float b t
 | .ref a,u=>u=Value.ref a
 | .ty n,u=>u=Value.type n
noncomputable abbrev Vals:List V->List Value->Prop:=Paired RelV
theorem Vals.length {xs:List V} {us:List Value} (r:Vals xs us):xs.length=us.length:=Paired.length r
theorem Vals.get:∀ {xs:List V} {us:List Value} {i:Nat} {x:V},Vals xs us->xs[i]? = some x->∃ u,us[i]? = some u/\RelV x u
 | _,_,_,_,.nil,e=>by simp at e
 | _,_,0,_,.cons r _,e=>by simp at e; subst e; exact ⟨_,rfl,r⟩
 | _,_,i + 1,x,.cons _ t,e=>by
  obtain ⟨u,h1,h2⟩:=Vals.get (i:=i) (x:=x) t (by simpa using e)
  exact ⟨u,by simpa using h1,h2⟩
theorem Vals.set {x:V} {u:Value} (r:RelV x u):∀ {xs:List V} {us:List Value} (i:Nat),Vals xs us->Vals (xs.set i x) (us.set i u)
 | _,_,_,.nil=>.nil
 | _,_,0,.cons _ t=>.cons r t
 | _,_,i + 1,.cons q t=>.cons q (Vals.set r i t)
theorem Vals.append:∀ {xs ys:List V} {us ws:List Value},Vals xs us->Vals ys ws->Vals (xs++ys) (us++ws)
 | _,_,_,_,.nil,s=>s
 | _,_,_,_,.cons r t,s=>.cons r (Vals.append t s)
theorem Vals.take:∀ {xs:List V} {us:List Value} (n:Nat),Vals xs us->Vals (xs.take n) (us.take n)
 | _,_,0,_=>.nil
 | _,_,_ + 1,.nil=>.nil
 | _,_,n + 1,.cons r t=>.cons r (Vals.take n t)
theorem Vals.drop:∀ {xs:List V} {us:List Value} (n:Nat),Vals xs us->Vals (xs.drop n) (us.drop n)
 | _,_,0,r=>r
 | _,_,_ + 1,.nil=>.nil
 | _,_,n + 1,.cons _ t=>Vals.drop n t
noncomputable def RelO:Option V->Option Value->Prop
 | some v,some u=>RelV v u
 | none,none=>True
 | _,_=>False
noncomputable def KV {κ:Type}:List (κ × V)->List (κ × Value)->Prop:=Paired fun (p:κ × V) (q:κ × Value)=>p.1=q.1/\RelV p.2 q.2
noncomputable def kV:Key->V
 | .inl i=>.int i
 | .inr x=>.str x
inductive HO where
 | lst (xs:List V)
 | tup (xs:List V)
 | dK (kvs:List (Key × V)) | dT (kvs:List (List Key × V))
 | set (S:Int->Bool) (n:Nat)
 | ins (C dx:Addr) (fs:List (Str × V))
 | own (x:Addr)
 | xd (fs:List (Str × V))
 | met (f x:Addr)
 | rng (lo hi:Int)
 | frz (o:Obj) (u:HO)
 | tbl (ps:Array Value)
 | ext (φ:Heap->Prop)
noncomputable abbrev Hp:=Addr->Option HO
noncomputable def upd (H:Hp) (a:Addr) (o:HO):Hp:=fun b=>if b=a then some o else H b
theorem upd_same {H:Hp} {a:Addr} {o:HO}:upd H a o a=some o:=by unfold upd; rw [if_pos rfl]
theorem upd_ne {H:Hp} {a b:Addr} {o:HO} (h:b≠a):upd H a o b=H b:=by unfold upd; rw [if_neg h]
theorem upd_upd {H:Hp} {a:Addr} {o u:HO}:upd (upd H a o) a u=upd H a u:=by
 funext b; unfold upd; split <;> rfl
theorem ne_of {H:Hp} {a b:Addr} {o u:HO} (h:H a=some o) (h':H b=some u) (d:o≠u):a≠b:=by
 intro e; subst e; rw [h] at h'; exact d (Option.some.inj h')
theorem ne_of_none {H:Hp} {a b:Addr} {o:HO} (h:H a=some o) (h':H b=none):a≠b:=by
 intro e; subst e; rw [h] at h'; cases h'
section
variable (P:Program) (w:World)
noncomputable def ObjOk (H:Hp) (h:Heap) (a:Addr):HO->Prop
 | .lst xs=>xs.length<=sizeLine/\∃ (its:List Value) (n:Nat),Vals xs its/\h.get? a=some { cls:=.type "list",data:=.seq its.toArray n }
 | .tup xs=>xs.length<=sizeLine/\∃ its:List Value,Vals xs its/\IsTup h a its.toArray
 | .dK kvs=>kvs.length<=sizeLine/\(a == sysModules)=false/\∃ vs,KV kvs vs/\h.DictOf (mixKind P w) a vs
 | .dT kvs=>kvs.length<=sizeLine/\(a == sysModules)=false/\∃ xs:List (List Key × Addr × Value),
   Paired (fun (p:List Key × V) (q:List Key × Addr × Value)=>p.1=q.1/\H q.2.1=some (.tup (p.1.map kV))/\RelV p.2 q.2.2) kvs xs∧
   ∃ o es ep,h.get? a=some o/\o.ExactDict/\o.data=.dict es ep/\es.toList=xs.map (entryOfKey (tupleKind (mixKind P w)))/\(xs.map (·.1)).Nodup
 | .set S n=>h.SetOf (intKind P w) a S n
 | .ins C dx fs=>H dx=some (.own a)/\fs.length<=1000/\dx≠a/\h.get? a=some (PySem.W.instObj C dx)∧
   ∃ mA,h.Ns1 dx mA/\(∀ f,RelO (fs.lookup f) (mA f))/\PySem.Within mA (fs.map (·.1))
 | .own _=>∃ o,h.get? a=some o
 | .xd fs=>∃ mA,h.Ns1 a mA/\∀ f,RelO (fs.lookup f) (mA f)
 | .rng lo hi=>∃ t u v,h.get? a=some { cls:=.type "range",data:=.fields #[.int lo t,.int hi u,.int 1 v] }
 | .frz o u=>h.get? a=some o/\ObjOk H h a u
 | .tbl ps=>h.get? a=some { cls:=.none,data:=.fields ps }
 | .met f x=>h.get? a=some (PySem.W.methodObj (.ref f) (.ref x))
 | .ext φ=>φ h/\(∃ o,h.get? a=some o)/\∀ h1 h2:Heap,φ h1->(∀ o,h1.get? a=some o->h2.get? a=some o)->φ h2
noncomputable def HOk (H:Hp) (h:Heap):Prop:=∀ a o,H a=some o->ObjOk P w H h a o
end
section
variable {P:Program} {w:World} {H H':Hp} {h h':Heap} {a:Addr} {o:HO}
theorem ObjOk.lt (x:ObjOk P w H h a o):a < h.objs.size:=by
 cases o with
 | lst xs=>obtain ⟨_,_,_,_,e⟩:=x; exact Heap.lt_size e
 | tup xs=>obtain ⟨_,_,_,p⟩:=x; exact p.lt
 | dK kvs=>obtain ⟨_,_,_,_,o,_,_,e,_⟩:=x; exact Heap.lt_size e
 | dT kvs=>obtain ⟨_,_,_,_,o,_,_,e,_⟩:=x; exact Heap.lt_size e
 | set S n=>obtain ⟨o,_,_,_,e,_⟩:=x; exact Heap.lt_size e
 | ins C dx fs=>obtain ⟨_,_,_,e,_⟩:=x; exact Heap.lt_size e
 | own y=>obtain ⟨_,e⟩:=x; exact Heap.lt_size e
 | xd fs=>obtain ⟨_,⟨_,_,_,e,_⟩,_⟩:=x; exact Heap.lt_size e
 | rng lo hi=>obtain ⟨_,_,_,e⟩:=x; exact Heap.lt_size e
 | frz ob u=>obtain ⟨e,_⟩:=x; exact Heap.lt_size e
 | tbl ps=>exact Heap.lt_size (show h.get? a=some _ from x)
 | met f y=>exact Heap.lt_size (show h.get? a=some _ from x)
 | ext φ=>obtain ⟨_,⟨_,e⟩,_⟩:=x; exact Heap.lt_size e
theorem Paired.mapP {α β:Type} {F G:α->β->Prop}:∀ {l₁:List α} {l₂:List β},Paired F l₁ l₂->(∀ a b,F a b->G a b)->Paired G l₁ l₂
 | _,_,.nil,_=>.nil
 | _,_,.cons r t,f=>.cons (f _ _ r) (Paired.mapP t f)
theorem ObjOk.stay (x:ObjOk P w H h a o) (k:∀ b u,(b=a\/H b=some (.own a))->h.get? b=some u->h'.get? b=some u)
  (ho:∀ b,H b=some (.own a)->H' b=some (.own a)) (ht:∀ b xs,H b=some (.tup xs)->H' b=some (.tup xs)):ObjOk P w H' h' a o:=by
 induction o with
 | lst xs=>obtain ⟨z,its,n,r,e⟩:=x; exact ⟨z,its,n,r,k _ _ (.inl rfl) e⟩
 | tup xs=>obtain ⟨z,its,r,ob,e,c⟩:=x; exact ⟨z,its,r,ob,k _ _ (.inl rfl) e,c⟩
 | dK kvs=>obtain ⟨z,y,vs,r,ob,es,ep,e,c⟩:=x; exact ⟨z,y,vs,r,ob,es,ep,k _ _ (.inl rfl) e,c⟩
 | dT kvs=>
  obtain ⟨z,y,xs,r,ob,es,ep,e,c⟩:=x
  exact ⟨z,y,xs,Paired.mapP r fun p q z=>⟨z.1,ht _ _ z.2.1,z.2.2⟩,ob,es,ep,k _ _ (.inl rfl) e,c⟩
 | set S n=>obtain ⟨ob,es,ep,t,e,c⟩:=x; exact ⟨ob,es,ep,t,k _ _ (.inl rfl) e,c⟩
 | ins C dx fs=>
  obtain ⟨d,z,ne,e,mA,⟨od,es,ep,e2,c⟩,r⟩:=x
  exact ⟨ho _ d,z,ne,k _ _ (.inl rfl) e,mA,⟨od,es,ep,k _ _ (.inr d) e2,c⟩,r⟩
 | own y=>obtain ⟨ob,e⟩:=x; exact ⟨ob,k _ _ (.inl rfl) e⟩
 | xd fs=>obtain ⟨mA,⟨od,es,ep,e,c⟩,r⟩:=x; exact ⟨mA,⟨od,es,ep,k _ _ (.inl rfl) e,c⟩,r⟩
 | rng lo hi=>obtain ⟨t,u,v,e⟩:=x; exact ⟨t,u,v,k _ _ (.inl rfl) e⟩
 | frz ob u ih=>obtain ⟨e,q⟩:=x; exact ⟨k _ _ (.inl rfl) e,ih q⟩
 | tbl ps=>
  have e:h.get? a=some { cls:=.none,data:=.fields ps }:=x
  show h'.get? a=some { cls:=.none,data:=.fields ps }
  exact k a _ (.inl rfl) e
 | met f y=>
  have e:h.get? a=some (PySem.W.methodObj (.ref f) (.ref y)):=x
  show h'.get? a=some (PySem.W.methodObj (.ref f) (.ref y))
  exact k a _ (.inl rfl) e
 | ext φ=>obtain ⟨p,⟨o,e⟩,st⟩:=x; exact ⟨st _ _ p fun o q=>k _ _ (.inl rfl) q,⟨o,k _ _ (.inl rfl) e⟩,st⟩
theorem HOk.lt (x:HOk P w H h) (e:H a=some o):a < h.objs.size:=(x a o e).lt
theorem HOk.fresh (x:HOk P w H h) (e:h.objs.size<=a):H a=none:=by
 cases q:H a with
 | none=>rfl
 | some u=>exact absurd (Nat.lt_of_lt_of_le (x.lt q) e) (Nat.lt_irrefl _)
theorem HOk.kept (x:HOk P w H h) (k:∀ b u,h.get? b=some u->h'.get? b=some u):HOk P w H h':=fun a o e=>
 (x a o e).stay (fun b u _ q=>k b u q) (fun _ q=>q) fun _ _ q=>q
theorem HOk.laid (x:HOk P w H h) (k:∀ b u,h.get? b=some u->h'.get? b=some u) (hp:h.objs.size<=a) (new:ObjOk P w (upd H a o) h' a o):HOk P w (upd H a o) h':=fun b u e=>by
 have hn:=x.fresh hp
 by_cases hb:b=a
 ·subst hb; rw [upd_same] at e; cases e; exact new
 ·rw [upd_ne hb] at e
  exact (x b u e).stay (fun c v _ q=>k c v q) (fun c q=>by rw [upd_ne (ne_of_none q hn)]; exact q) fun c xs q=>by rw [upd_ne (ne_of_none q hn)]; exact q
end
noncomputable def Rd (H:Hp) (a:Addr) (u:HO):Prop:=H a=some u\/∃ o,H a=some (.frz o u)
theorem Rd.ok {P:Program} {w:World} {H:Hp} {h:Heap} {a:Addr} {u:HO} (r:Rd H a u) (x:HOk P w H h):ObjOk P w H h a u:=by
 rcases r with r | ⟨o,r⟩
 ·exact x a u r
 ·obtain ⟨_,q⟩:=x a _ r
  exact q
noncomputable def Mut:Option HO->Prop
 | some (.lst _)=>True
 | some (.dK _)=>True
 | some (.dT _)=>True
 | some (.set _ _)=>True
 | some (.ins _ _ _)=>True
 | some (.ext _)=>True
 | _=>False
section
variable {P:Program} {w:World} {H:Hp} {h h':Heap} {x e:Addr} {o':HO}
theorem HOk.write (ok:HOk P w H h) (mu:Mut (H x)) (he:e=x\/H e=some (.own x)) (k:∀ b u,b≠e->h.get? b=some u->h'.get? b=some u) (heo:∃ u,h'.get? e=some u)
  (new:ObjOk P w (upd H x o') h' x o'):HOk P w (upd H x o') h':=fun b u q=>by
 have nown:∀ c y,H c=some (.own y)->c≠x:=fun c y r z=>by subst z; rw [r] at mu; exact mu
 have ntup:∀ c xs,H c=some (.tup xs)->c≠x:=fun c xs r z=>by subst z; rw [r] at mu; exact mu
 by_cases hb:b=x
 ·subst hb; rw [upd_same] at q; cases q; exact new
 ·rw [upd_ne hb] at q
  by_cases hbe:b=e
  ·have q':H b=some (.own x):=by
    rcases he with z | z
    ·exact absurd (hbe.trans z) hb
    ·rw [hbe]; exact z
   rw [q] at q'; cases q'
   obtain ⟨v,hv⟩:=heo
   exact ⟨v,by rw [hbe]; exact hv⟩
  ·refine (ok b u q).stay (fun c v hc r=>k c v ?_ r) (fun c r=>by rw [upd_ne (nown c b r)]; exact r) fun c xs r=>by rw [upd_ne (ntup c xs r)]; exact r
   rcases hc with rfl | hc
   ·exact hbe
   ·rintro rfl
    rcases he with z | z
    ·exact nown c b hc z
    ·rw [hc] at z; cases z; exact hb rfl
end
structure Un (fs ex:List Addr) (H H':Hp) (h h':Heap):Prop where
 keep:∀ b o,h.get? b=some o->H b=none->b∉fs->b∉ex->h'.get? b=some o
 slot:∀ b o,h.get? b=some o->H b=none->b∈fs->b∉ex->∃ sl,h'.get? b=some { o with slots:=sl }
 free:∀ b o,h.get? b=some o->H b=none->b∉ex->H' b=none
 there:∀ b o,h.get? b=some o->b∉ex->∃ o',h'.get? b=some o'
 tups:∀ b xs,H b=some (.tup xs)->H' b=some (.tup xs)
 frzs:∀ b o u,H b=some (.frz o u)->H' b=some (.frz o u)
 tbls:∀ b ps,H b=some (.tbl ps)->∃ more,H' b=some (.tbl (ps++more))
section
variable {fs fs' ex ex':List Addr} {H H1 H2:Hp} {h h1 h2 h':Heap} {a x e:Addr} {o:HO}
theorem Un.any (u:Un fs ex H H1 h h1) {b:Addr} {ob:Obj} (q:h.get? b=some ob) (n:H b=none) (hx:b∉ex):∃ sl,h1.get? b=some { ob with slots:=sl }:=by
 by_cases hb:b∈fs
 ·exact u.slot b ob q n hb hx
 ·exact ⟨ob.slots,u.keep b ob q n hb hx⟩
theorem Un.kept (k:∀ b u,h.get? b=some u->h'.get? b=some u):Un fs ex H H h h':=
 ⟨fun b ob q _ _ _=>k b ob q,fun b ob q _ _ _=>⟨ob.slots,k b ob q⟩,fun _ _ _ n _=>n,fun b ob q _=>⟨ob,k b ob q⟩,fun _ _ q=>q,fun _ _ _ q=>q,fun _ ps q=>⟨#[],by rw [q]; simp⟩⟩
theorem Un.refl:Un fs ex H H h h:=Un.kept fun _ _ q=>q
theorem Un.laid (k:∀ b u,h.get? b=some u->h'.get? b=some u) (hp:h.objs.size<=a) (hn:H a=none):Un fs ex H (upd H a o) h h' where
 keep:=fun b u q _ _ _=>k b u q
 slot:=fun b u q _ _ _=>⟨u.slots,k b u q⟩
 free:=fun b u q n _=>by rw [upd_ne (Nat.ne_of_lt (Nat.lt_of_lt_of_le (Heap.lt_size q) hp))]; exact n
 there:=fun b u q _=>⟨u,k b u q⟩
 tups:=fun b xs q=>by rw [upd_ne (ne_of_none q hn)]; exact q
 frzs:=fun b u xs q=>by rw [upd_ne (ne_of_none q hn)]; exact q
 tbls:=fun b ps q=>⟨#[],by rw [upd_ne (ne_of_none q hn),q]; simp⟩
theorem Un.write (mu:Mut (H x)) (he:e=x\/H e=some (.own x)) (k:∀ b u,b≠e->h.get? b=some u->h'.get? b=some u) (heo:∃ u,h'.get? e=some u):Un fs ex H (upd H x o) h h':=by
 have hx:∀ b,H b=none->b≠x:=fun b n z=>by subst z; rw [n] at mu; exact mu
 have hb:∀ b,H b=none->b≠e:=fun b n z=>by
  subst z
  rcases he with r | r
  ·exact hx b n r
  ·rw [n] at r; cases r
 have hm:∀ b u,H b=some u->¬ Mut (some u)->b≠x:=fun b u q nm z=>by subst z; rw [q] at mu; exact nm mu
 refine ⟨fun b u q n _ _=>k b u (hb b n) q,fun b u q n _ _=>⟨u.slots,k b u (hb b n) q⟩,fun b u q n _=>by rw [upd_ne (hx b n)]; exact n,fun b u q _=>?_,
  fun b xs q=>by rw [upd_ne (hm b _ q fun z=>z)]; exact q,fun b u xs q=>by rw [upd_ne (hm b _ q fun z=>z)]; exact q,fun b ps q=>⟨#[],by rw [upd_ne (hm b _ q fun z=>z),q]; simp⟩⟩
 by_cases hbe:b=e
 ·subst hbe; exact heo
 ·exact ⟨u,k b u hbe q⟩
end
noncomputable def trk (h:Heap) (H:Hp):List Addr:=(List.range h.objs.size).filter fun a=>(H a).isSome
noncomputable def hidT (h:Heap) (H:Hp):Heap:=PySem.W.hideAll h (trk h H)
theorem hidT_size (h:Heap) (H:Hp):(hidT h H).objs.size=h.objs.size:=PySem.W.hideAll_size _ _
theorem hidT_get {h:Heap} {H:Hp} {b:Addr} {o:Obj} (e:h.get? b=some o) (n:H b=none):(hidT h H).get? b=some o:=
 PySem.W.hideAll_get _ e fun hm=>by
  have q:(H b).isSome=true:=(List.mem_filter.mp hm).2
  rw [n] at q; simp at q
theorem of_hidT {h:Heap} {H:Hp} {b:Addr} {o:Obj} (e:(hidT h H).get? b=some o):h.get? b=some o/\H b=none:=by
 have e':h.get? b=some o:=PySem.W.of_hideAll (trk h H) e
 refine ⟨e',?_⟩
 cases q:H b with
 | none=>rfl
 | some x=>
  have hm:b∈trk h H:=List.mem_filter.mpr ⟨List.mem_range.mpr (Heap.lt_size e'),by simp [q]⟩
  have z:(hidT h H).get? b=none:=PySem.W.hideAll_none (trk h H) hm
  rw [z] at e; cases e
noncomputable def allNews (g h:Heap) (L:Addr):List (Addr × Obj):=(List.range h.objs.size).filterMap fun a=>if a=L\/(g.get? a).isSome=true then none else (h.get? a).map fun o=>(a,o)
noncomputable def rest (g h:Heap) (L d:Addr):List (Addr × Obj):=(allNews g h L).filter fun p=>decide (p.1≠d)
end L2
namespace L2
open PySem PySem.Spec PyProof.Rows
structure Mod (K:PySem.W.Frag) (mg:Str->Option Value) (base:Heap):Prop where
 kin:K.In base
 glob:base.Ns mainGlobals mg
 blt:∃ mb,base.Ns builtinsNs mb/\∀ x:Str,x≠"__name__"->mb x=bootBuiltins x
 nolimit:base.NoLimit
structure Cx where
 prog:Program
 w:World
 K:PySem.W.Frag
 mg:Str->Option Value
 base:Heap
 A:Around
 N:List Str
 s₀:Shared
 H₀:Hp
 env:Env
 outer:List Env
 stack:List Env
 ex:List Addr
 fn:Str->Bool
 calm:Bool
 pn:List (Addr × Obj)
 xe:Value->Shared->Prop
noncomputable def frs (l:List Env):List Addr:=l.filterMap (·.frame)
noncomputable abbrev Cx.fs (X:Cx):List Addr:=frs X.outer
noncomputable def Vis (sc:Scope) (x:Str):Prop:=sc.names.lookup x=some .local\/sc.names.lookup x=some .cell\/sc.names.lookup x=some .free
noncomputable def Loc (sc:Scope) (x:Str):Prop:=sc.names.lookup x=some .local\/sc.names.lookup x=some .cell
noncomputable def Look (env:Env) (h:Heap) (m:Str->Option Value) (x:Str) (u:Value):Prop:=
 (env.kindOf x=some .local/\m x=some u)\/((env.kindOf x=some .cell\/env.kindOf x=some .free)/\∃ c,env.cells.lookup x=some c/\h.IsCell c (some u))
structure Cx.Ok (X:Cx):Prop where
 mod:Mod X.K X.mg X.base
 kind:X.env.scope.kind=.function
 glob:X.env.globals=mainGlobals
 blt:X.env.builtins=builtinsNs
 above:X.s₀.heap.objs.size<=X.env.locals
 inj:∀ x y c,X.env.cells.lookup x=some c->X.env.cells.lookup y=some c->x=y
 has:∀ x,(X.env.kindOf x=some .cell\/X.env.kindOf x=some .free)->∃ c,X.env.cells.lookup x=some c
 cab:∀ x c,X.fn x=true->X.env.cells.lookup x=some c->X.s₀.heap.objs.size<=c
 hd:X.calm=true->X.A.handled=none
 frames:X.A.frames=some X.stack
 stk:X.stack=X.outer\/(X.stack=X.env :: X.outer/\X.env.frame=some X.env.locals)
 exf:∀ b∈X.ex,b≠X.env.locals/\∀ x c,X.env.cells.lookup x=some c->c≠b
 bs:∀ b o,X.base.get? b=some o->X.s₀.heap.get? b=some o/\X.H₀ b=none
 bsz:X.base.objs.size<=X.s₀.heap.objs.size
 noex:∀ b o,X.base.get? b=some o->b∉X.ex
 exfs:∀ b∈X.ex,b∉X.fs
 funs:X.s₀.heap.FunFrames X.base X.outer
 frf:∀ b∈X.fs,X.H₀ b=none
structure Inv (X:Cx) (pins:List (Addr × Obj)) (σ:List (Option V)) (H:Hp) (s:Shared):Prop where
 ok:X.Ok
 os:s.os=X.s₀.os
 bare:AllBare s.gens
 base:Un X.fs X.ex X.H₀ H X.s₀.heap s.heap
 loc:∃ m,s.heap.Ns X.env.locals m/\∀ (i:Nat) (x:Str) (v:V),X.N[i]? = some x->σ[i]? = some (some v)->Vis X.env.scope x->∃ u,RelV v u/\Look X.env s.heap m x u
 cell:∀ x c,X.env.cells.lookup x=some c->∃ v,s.heap.IsCell c v
 free:H X.env.locals=none
 freeC:∀ x c,X.env.cells.lookup x=some c->H c=none
 pin:∀ p∈X.pn++pins,s.heap.get? p.1=some p.2/\H p.1=none/\p.1≠X.env.locals/\p.1∉X.fs/\∀ v,p.2.data≠.cell v
 hok:HOk X.prog X.w H s.heap
 len:σ.length=X.N.length
section
variable {X:Cx} {pins:List (Addr × Obj)} {σ:List (Option V)} {H H':Hp} {s:Shared} {h':Heap}
theorem Cx.Ok.nofr (ok:X.Ok) {b:Addr} {o:Obj} (e:X.base.get? b=some o):b∉X.fs:=fun hb=>by
 have:=(ok.funs.mem hb).1
 rw [e] at this; cases this
theorem Inv.bs (I:Inv X pins σ H s):∀ b o,X.base.get? b=some o->s.heap.get? b=some o/\H b=none:=fun b o e=>
 ⟨I.base.keep b o (I.ok.bs b o e).1 (I.ok.bs b o e).2 (I.ok.nofr e) (I.ok.noex b o e),I.base.free b o (I.ok.bs b o e).1 (I.ok.bs b o e).2 (I.ok.noex b o e)⟩
theorem Inv.bk (I:Inv X pins σ H s):∀ b o,X.base.get? b=some o->s.heap.get? b=some o:=fun b o e=>(I.bs b o e).1
theorem Inv.mod (I:Inv X pins σ H s):Mod X.K X.mg X.base:=I.ok.mod
theorem Inv.kIn (I:Inv X pins σ H s):X.K.In s.heap:=I.ok.mod.kin.keeps I.bk
theorem Inv.lt (I:Inv X pins σ H s):X.env.locals < s.heap.objs.size:=let ⟨_,hn,_⟩:=I.loc; hn.lt
theorem Inv.sz (I:Inv X pins σ H s):X.s₀.heap.objs.size<=s.heap.objs.size:=Nat.le_trans I.ok.above (Nat.le_of_lt I.lt)
theorem Inv.nofs (I:Inv X pins σ H s) {a:Addr} (h:s.heap.objs.size<=a):a∉X.fs:=fun hb=>by
 obtain ⟨_,o,ho,_⟩:=I.ok.funs.mem hb
 exact absurd (Nat.lt_of_lt_of_le (Heap.lt_size ho) (Nat.le_trans I.sz h)) (Nat.lt_irrefl _)
theorem Inv.cne (I:Inv X pins σ H s):∀ x c,X.env.cells.lookup x=some c->c≠X.env.locals:=fun x c e z=>by
 obtain ⟨v,o,ho,hd⟩:=I.cell x c e
 obtain ⟨m,⟨o',es,ep,ho',hd',_⟩,_⟩:=I.loc
 rw [z,ho'] at ho; cases ho; rw [hd'] at hd; cases hd
theorem Inv.funs (I:Inv X pins σ H s):s.heap.FunFrames X.base X.outer:=by
 have all:∀ (l:List Env),(∀ b∈frs l,b∈X.fs)->X.s₀.heap.FunFrames X.base l->s.heap.FunFrames X.base l:=by
  intro l
  induction l with
  | nil=>intro _ _; trivial
  | cons env r ih=>
   intro hs hl
   obtain ⟨hk,⟨L,o,hf,hn,ho,hd⟩,hr⟩:=hl
   have hL:L∈X.fs:=hs L (by unfold frs; rw [List.filterMap_cons,hf]; exact List.mem_cons_self)
   obtain ⟨sl,e⟩:=I.base.slot L o ho (I.ok.frf L hL) hL fun z=>I.ok.exfs L z hL
   exact ⟨hk,⟨L,_,hf,hn,e,hd⟩,ih (fun b hb=>hs b (by unfold frs; rw [List.filterMap_cons,hf]; exact List.mem_cons_of_mem _ hb)) hr⟩
 exact all X.outer (fun _ hb=>hb) I.ok.funs
theorem Inv.stack (I:Inv X pins σ H s):s.heap.FunFrames X.base X.stack:=by
 rcases I.ok.stk with e | ⟨e,hf⟩
 ·rw [e]; exact I.funs
 ·rw [e]
  obtain ⟨m,hn,_⟩:=I.loc
  refine .cons (by rw [I.ok.kind]; decide) hf hn ?_ I.funs
  exact Heap.get?_none_of_le (Nat.le_trans I.ok.bsz I.ok.above)
theorem Inv.stkSub (I:Inv X pins σ H s):∀ b∈frs X.stack,b∈X.env.locals :: X.fs:=fun b hb=>by
 rcases I.ok.stk with e | ⟨e,hf⟩
 ·rw [e] at hb; exact List.mem_cons_of_mem _ hb
 ·rw [e] at hb
  unfold frs at hb
  rw [List.filterMap_cons,hf] at hb
  exact hb
theorem Inv.stkFree (I:Inv X pins σ H s):∀ b∈frs X.stack,H b=none:=fun b hb=>by
 rcases List.mem_cons.mp (I.stkSub b hb) with e | hb
 ·rw [e]; exact I.free
 ·obtain ⟨_,o,ho,_⟩:=I.ok.funs.mem hb
  exact I.base.free b o ho (I.ok.frf b hb) fun z=>I.ok.exfs b z hb
theorem Inv.step {g':Array GenState} {t':Nat} {d':Drawn} {ch:List Addr} (I:Inv X pins σ H s)
  (hch:∀ b∈ch,(b∈X.ex\/X.s₀.heap.objs.size<=b)/\b≠X.env.locals/\(∀ x c,X.env.cells.lookup x=some c->c≠b)/\∀ p∈X.pn++pins,p.1≠b)
  (keep:∀ b o,b≠X.env.locals->b∉X.fs->b∉ch->s.heap.get? b=some o->H b=none->h'.get? b=some o)
  (slot:∀ b o,b≠X.env.locals->b∈X.fs->b∉ch->s.heap.get? b=some o->H b=none->∃ sl,h'.get? b=some { o with slots:=sl }) (free:∀ b o,b∉ch->s.heap.get? b=some o->H b=none->H' b=none)
  (there:∀ b o,b∉ch->s.heap.get? b=some o->∃ o',h'.get? b=some o')
  (tups:∀ b xs,H b=some (.tup xs)->H' b=some (.tup xs)) (frzs:∀ b o u,H b=some (.frz o u)->H' b=some (.frz o u)) (tbls:∀ b ps,H b=some (.tbl ps)->∃ more,H' b=some (.tbl (ps++more)))
  (ns:∀ m,s.heap.Ns X.env.locals m->h'.Ns X.env.locals m) (hok:HOk X.prog X.w H' h') (hg:AllBare g') :
  Inv X pins σ H' { s with heap:=h',gens:=g',drawn:=d',toks:=t' }:=by
 have neL:∀ b o,X.s₀.heap.get? b=some o->b≠X.env.locals:=fun b o e=>Nat.ne_of_lt (Nat.lt_of_lt_of_le (Heap.lt_size e) I.ok.above)
 have neC:∀ b o,X.s₀.heap.get? b=some o->b∉X.ex->b∉ch:=fun b o e hx hb=>by
  rcases (hch b hb).1 with z | z
  ·exact hx z
  ·exact absurd (Nat.lt_of_lt_of_le (Heap.lt_size e) z) (Nat.lt_irrefl _)
 have cellK:∀ x c,X.env.cells.lookup x=some c->∀ v,s.heap.IsCell c v->h'.IsCell c v:=fun x c e v ⟨o,ho,hd⟩=>by
  have nch:c∉ch:=fun z=>(hch c z).2.2.1 x c e rfl
  by_cases hc:c∈X.fs
  ·obtain ⟨sl,q⟩:=slot c o (I.cne x c e) hc nch ho (I.freeC x c e)
   exact ⟨_,q,hd⟩
  ·exact ⟨o,keep c o (I.cne x c e) hc nch ho (I.freeC x c e),hd⟩
 refine ⟨I.ok,I.os,hg,⟨fun b o e n hb hx=>?_,fun b o e n hb hx=>?_,fun b o e n hx=>?_,fun b o e hx=>?_,fun b xs e=>tups b xs (I.base.tups b xs e),fun b o xs e=>frzs b o xs (I.base.frzs b o xs e),fun b ps e=>?_⟩,?_,fun x c e=>?_,?_,fun x c e=>?_,fun p hp=>?_,hok,I.len⟩
 ·exact keep b o (neL b o e) hb (neC b o e hx) (I.base.keep b o e n hb hx) (I.base.free b o e n hx)
 ·obtain ⟨sl,e1⟩:=I.base.slot b o e n hb hx
  obtain ⟨sl',e2⟩:=slot b _ (neL b o e) hb (neC b o e hx) e1 (I.base.free b o e n hx)
  exact ⟨sl',e2⟩
 ·obtain ⟨o',e1⟩:=I.base.there b o e hx
  exact free b o' (neC b o e hx) e1 (I.base.free b o e n hx)
 ·obtain ⟨o',e1⟩:=I.base.there b o e hx
  exact there b o' (neC b o e hx) e1
 ·obtain ⟨m1,e1⟩:=I.base.tbls b ps e
  obtain ⟨m2,e2⟩:=tbls b _ e1
  exact ⟨m1++m2,by rw [e2,Array.append_assoc]⟩
 ·obtain ⟨m,hn,hl⟩:=I.loc
  refine ⟨m,ns m hn,fun i x v e1 e2 e3=>?_⟩
  obtain ⟨u,r,l⟩:=hl i x v e1 e2 e3
  refine ⟨u,r,?_⟩
  rcases l with l | ⟨k,c,e,z⟩
  ·exact .inl l
  ·exact .inr ⟨k,c,e,cellK x c e _ z⟩
 ·obtain ⟨v,z⟩:=I.cell x c e
  exact ⟨v,cellK x c e v z⟩
 ·obtain ⟨m,⟨o,_,_,ho,_⟩,_⟩:=I.loc
  exact free _ o (fun z=>(hch _ z).2.1 rfl) ho I.free
 ·obtain ⟨v,o,ho,hd⟩:=I.cell x c e
  exact free c o (fun z=>(hch c z).2.2.1 x c e rfl) ho (I.freeC x c e)
 ·obtain ⟨e,n,ne,nf,d⟩:=I.pin p hp
  have nch:p.1∉ch:=fun z=>(hch p.1 z).2.2.2 p hp rfl
  exact ⟨keep p.1 p.2 ne nf nch e n,free p.1 p.2 nch e n,ne,nf,d⟩
theorem Inv.un {t':Nat} (I:Inv X pins σ H s) (u:Un X.fs [] H H' s.heap h') (hok:HOk X.prog X.w H' h'):Inv X pins σ H' { s with heap:=h',toks:=t' }:=by
 obtain ⟨m,⟨o,es,ep,ho,r⟩,_⟩:=id I.loc
 obtain ⟨sl,hL⟩:=u.any ho I.free (by simp)
 exact I.step (g':=s.gens) (d':=s.drawn) (ch:=[]) (fun _ z=>nomatch z) (fun b o _ hb _ e n=>u.keep b o e n hb (by simp)) (fun b o _ hb _ e n=>u.slot b o e n hb (by simp)) (fun b o _ e n=>u.free b o e n (by simp)) (fun b o _ e=>u.there b o e (by simp)) u.tups u.frzs u.tbls (fun m' hm=>by
  obtain ⟨o',es',ep',ho',r'⟩:=hm
  rw [ho] at ho'; cases ho'
  exact ⟨_,es',ep',hL,r'⟩) hok I.bare
theorem Inv.call {g':Array GenState} {t':Nat} {d':Drawn} {ch:List Addr} (I:Inv X pins σ H s) (u:Un (frs X.stack) ch H H' s.heap h') (hok:HOk X.prog X.w H' h') (hg:AllBare g')
  (hch:∀ b∈ch,(b∈X.ex\/X.s₀.heap.objs.size<=b)/\b≠X.env.locals/\(∀ x c,X.env.cells.lookup x=some c->c≠b)/\∀ p∈X.pn++pins,p.1≠b) :
  Inv X pins σ H' { s with heap:=h',gens:=g',drawn:=d',toks:=t' }:=by
 obtain ⟨m,⟨o,es,ep,ho,r⟩,_⟩:=id I.loc
 obtain ⟨sl,hL⟩:=u.any ho I.free fun z=>(hch _ z).2.1 rfl
 exact I.step (ch:=ch) hch (fun b o hL hb hc e n=>u.keep b o e n (fun z=>(List.mem_cons.mp (I.stkSub b z)).elim hL hb) hc) (fun b o _ _ hc e n=>u.any e n hc) (fun b o hc e n=>u.free b o e n hc) (fun b o hc e=>u.there b o e hc) u.tups u.frzs u.tbls (fun m' hm=>by
  obtain ⟨o',es',ep',ho',r'⟩:=hm
  rw [ho] at ho'; cases ho'
  exact ⟨_,es',ep',hL,r'⟩) hok hg
theorem Inv.turned {t':Nat} {it:Addr} (I:Inv X pins σ H s) (k:∀ b o,b≠it->s.heap.get? b=some o->h'.get? b=some o) (hn:H it=none) (hL:it≠X.env.locals)
  (h1:it∈X.ex\/X.s₀.heap.objs.size<=it) (h2:∀ x c,X.env.cells.lookup x=some c->c≠it) (h3:∀ p∈X.pn++pins,p.1≠it):Inv X pins σ H { s with heap:=h',toks:=t' }:=by
 have nit:∀ b u,H b=some u->b≠it:=fun b u e z=>by rw [z,hn] at e; cases e
 refine I.step (g':=s.gens) (d':=s.drawn) (ch:=[it]) (fun b hb=>?_) (fun b o _ _ hc e _=>k b o (fun z=>hc (by simp [z])) e) (fun b o _ _ hc e _=>⟨o.slots,k b o (fun z=>hc (by simp [z])) e⟩) (fun _ _ _ _ n=>n)
  (fun b o hc e=>⟨o,k b o (fun z=>hc (by simp [z])) e⟩) (fun _ _ e=>e) (fun _ _ _ e=>e) (fun b ps e=>⟨#[],by rw [e]; simp⟩) (fun m hm=>?_) (fun b u e=>?_) I.bare
 ·have e:b=it:=by simpa using hb
  subst e
  exact ⟨h1,hL,h2,h3⟩
 ·obtain ⟨o,es,ep,ho,r⟩:=hm
  exact ⟨o,es,ep,k _ o (Ne.symm hL) ho,r⟩
 ·refine (I.hok b u e).stay (fun c v hc q=>k c v ?_ q) (fun _ q=>q) fun _ _ q=>q
  rcases hc with z | z
  ·rw [z]; exact nit b u e
  ·exact nit c _ z
theorem Inv.tok (I:Inv X pins σ H s) (t:Nat):Inv X pins σ H { s with toks:=t }:=I.un (h':=s.heap) (t':=t) Un.refl I.hok
theorem Inv.kept {t':Nat} (I:Inv X pins σ H s) (k:∀ b u,s.heap.get? b=some u->h'.get? b=some u):Inv X pins σ H { s with heap:=h',toks:=t' }:=I.un (Un.kept k) (I.hok.kept k)
theorem Inv.laid {a:Addr} {o:HO} {t':Nat} (I:Inv X pins σ H s) (k:∀ b u,s.heap.get? b=some u->h'.get? b=some u) (hp:s.heap.objs.size<=a) (new:ObjOk X.prog X.w (upd H a o) h' a o) :
  Inv X pins σ (upd H a o) { s with heap:=h',toks:=t' }:=I.un (Un.laid k hp (I.hok.fresh hp)) (I.hok.laid k hp new)
theorem Inv.write {x e:Addr} {o:HO} {t':Nat} (I:Inv X pins σ H s) (mu:Mut (H x)) (he:e=x\/H e=some (.own x)) (k:∀ b u,b≠e->s.heap.get? b=some u->h'.get? b=some u) (heo:∃ u,h'.get? e=some u)
  (new:ObjOk X.prog X.w (upd H x o) h' x o):Inv X pins σ (upd H x o) { s with heap:=h',toks:=t' }:=I.un (Un.write mu he k heo) (I.hok.write mu he k heo new)
theorem Inv.pins_of {pins':List (Addr × Obj)} (I:Inv X pins σ H s) (h:∀ p∈pins',s.heap.get? p.1=some p.2/\H p.1=none/\p.1≠X.env.locals/\p.1∉X.fs/\∀ v,p.2.data≠.cell v):Inv X pins' σ H s:=
 ⟨I.ok,I.os,I.bare,I.base,I.loc,I.cell,I.free,I.freeC,fun p hp=>(List.mem_append.mp hp).elim (fun z=>I.pin p (List.mem_append_left _ z)) (h p),I.hok,I.len⟩
theorem nodup_ix {N:List Str} (hN:N.Nodup) {i j:Nat} {x:Str} (a:N[i]? = some x) (b:N[j]? = some x):i=j:=by
 obtain ⟨h1,e1⟩:=List.getElem?_eq_some_iff.mp a
 obtain ⟨h2,e2⟩:=List.getElem?_eq_some_iff.mp b
 exact (List.getElem_inj hN).mp (e1.trans e2.symm)
theorem store_ok2 {M:Model} {A:Around} {E:Value->Shared->Prop} {i:Nat} {x:Str} {v:V} {u:Value} {Q:Unit->Shared->Prop} (I:Inv X pins σ H s) (hN:X.N.Nodup) (hi:X.N[i]? = some x) (hx:Loc X.env.scope x) (r:RelV v u)
  (h:∀ s',Inv X pins (σ.set i (some v)) H s'->(∃ a,Heap.SameBut a s.heap s'.heap/\(a=X.env.locals\/X.env.cells.lookup x=some a))->Q () s') (hf:X.fn x=true\/X.env.scope.names.lookup x=some .local:=by first | exact .inl rfl | exact .inr rfl | assumption):wpAny M A (storeName X.env x u) Q E s:=by
 obtain ⟨m,hn,hl⟩:=id I.loc
 have hcls:(X.env.scope.kind == .class || (X.env.scope.kind == .module && X.env.locals != X.env.globals))=false:=by rw [I.ok.kind]; rfl
 have hiσ:i < σ.length:=by rw [I.len]; exact (List.getElem?_eq_some_iff.mp hi).1
 have cne:=I.cne
 have tracked:∀ {a:Addr} {h':Heap},(∃ o,s.heap.get? a=some o/\H a=none)->Heap.SameBut a s.heap h'->HOk X.prog X.w H h':=fun {a h'} ha hs b ob e=>by
  obtain ⟨_,_,hfree⟩:=ha
  refine (I.hok b ob e).stay (fun c w' hc q=>(hs.2 c ?_).trans q) (fun _ q=>q) fun _ _ q=>q
  rintro rfl
  rcases hc with rfl | hc
  ·rw [hfree] at e; cases e
  ·rw [hfree] at hc; cases hc
 rcases hx with hk | hk
 ·refine wpAny_storeName_local hk hn (fun h' hn' hs=>?_) hcls
  obtain ⟨oL,_,_,hoL,_⟩:=id hn
  refine h _ ⟨I.ok,I.os,I.bare,⟨fun b o e n hb hx=>?_,fun b o e n hb hx=>?_,I.base.free,fun b o e hx=>?_,I.base.tups,I.base.frzs,I.base.tbls⟩,⟨_,hn',fun j y v' e1 e2 e3=>?_⟩,fun y c e=>?_,I.free,I.freeC,fun p hp=>?_,tracked ⟨oL,hoL,I.free⟩ hs,by simpa using I.len⟩ ⟨_,hs,.inl rfl⟩
  ·exact (hs.2 b (Nat.ne_of_lt (Nat.lt_of_lt_of_le (Heap.lt_size e) I.ok.above))).trans (I.base.keep b o e n hb hx)
  ·obtain ⟨sl,e1⟩:=I.base.slot b o e n hb hx
   exact ⟨sl,(hs.2 b (Nat.ne_of_lt (Nat.lt_of_lt_of_le (Heap.lt_size e) I.ok.above))).trans e1⟩
  ·obtain ⟨o',e1⟩:=I.base.there b o e hx
   exact ⟨o',(hs.2 b (Nat.ne_of_lt (Nat.lt_of_lt_of_le (Heap.lt_size e) I.ok.above))).trans e1⟩
  ·by_cases hj:j=i
   ·subst hj
    rw [hi] at e1; cases e1
    rw [List.getElem?_set_self hiσ] at e2
    cases e2
    exact ⟨u,r,.inl ⟨hk,by simp⟩⟩
   ·rw [List.getElem?_set_ne (Ne.symm hj)] at e2
    obtain ⟨u',r',q⟩:=hl j y v' e1 e2 e3
    refine ⟨u',r',?_⟩
    rcases q with ⟨k,e⟩ | ⟨k,c,e,z⟩
    ·refine .inl ⟨k,?_⟩
     have:y≠x:=fun e=>hj (nodup_ix hN e1 (e ▸ hi))
     simp [this,e]
    ·exact .inr ⟨k,c,e,z.sameBut hs (cne y c e)⟩
  ·obtain ⟨w',z⟩:=I.cell y c e
   exact ⟨w',z.sameBut hs (cne y c e)⟩
  ·obtain ⟨e,n,ne,nf,d⟩:=I.pin p hp
   exact ⟨(hs.2 p.1 ne).trans e,n,ne,nf,d⟩
 ·have hfn:X.fn x=true:=by
   rcases hf with z | z
   ·exact z
   ·rw [z] at hk; cases hk
  obtain ⟨c,hc⟩:=I.ok.has x (.inl hk)
  obtain ⟨w',z⟩:=I.cell x c hc
  refine wpAny_storeName_cell I.ok.kind hk hc z (fun h' hc' hs=>?_)
  obtain ⟨oc,hoc,hocd⟩:=id z
  refine h { s with heap:=h' } ⟨I.ok,I.os,I.bare,⟨fun b o e n hb hx=>?_,fun b o e n hb hx=>?_,I.base.free,fun b o e hx=>?_,I.base.tups,I.base.frzs,I.base.tbls⟩,⟨m,hn.sameBut hs (Ne.symm (cne x c hc)),fun j y v' e1 e2 e3=>?_⟩,fun y c' e=>?_,I.free,I.freeC,fun p hp=>?_,tracked ⟨oc,hoc,I.freeC x c hc⟩ hs,by simpa using I.len⟩ ⟨c,hs,.inr hc⟩
  ·exact (hs.2 b (Nat.ne_of_lt (Nat.lt_of_lt_of_le (Heap.lt_size e) (I.ok.cab x c hfn hc)))).trans (I.base.keep b o e n hb hx)
  ·obtain ⟨sl,e1⟩:=I.base.slot b o e n hb hx
   exact ⟨sl,(hs.2 b (Nat.ne_of_lt (Nat.lt_of_lt_of_le (Heap.lt_size e) (I.ok.cab x c hfn hc)))).trans e1⟩
  ·obtain ⟨o',e1⟩:=I.base.there b o e hx
   exact ⟨o',(hs.2 b (Nat.ne_of_lt (Nat.lt_of_lt_of_le (Heap.lt_size e) (I.ok.cab x c hfn hc)))).trans e1⟩
  ·by_cases hj:j=i
   ·subst hj
    rw [hi] at e1; cases e1
    rw [List.getElem?_set_self hiσ] at e2
    cases e2
    exact ⟨u,r,.inr ⟨.inl hk,c,hc,hc'⟩⟩
   ·rw [List.getElem?_set_ne (Ne.symm hj)] at e2
    obtain ⟨u',r',q⟩:=hl j y v' e1 e2 e3
    refine ⟨u',r',?_⟩
    rcases q with q | ⟨k,c',e,z'⟩
    ·exact .inl q
    ·refine .inr ⟨k,c',e,z'.sameBut hs ?_⟩
     rintro rfl
     exact hj (nodup_ix hN e1 (I.ok.inj _ _ _ e hc ▸ hi))
  ·by_cases hcc:c'=c
   ·subst hcc; exact ⟨_,hc'⟩
   ·obtain ⟨w2,z2⟩:=I.cell y c' e
    exact ⟨w2,z2.sameBut hs hcc⟩
  ·obtain ⟨e,n,ne,nf,d⟩:=I.pin p hp
   refine ⟨(hs.2 p.1 ?_).trans e,n,ne,nf,d⟩
   intro q
   rw [q,hoc] at e
   have q':oc=p.2:=Option.some.inj e
   exact d w' (by rw [<- q']; exact hocd)
theorem store_ok {M:Model} {A:Around} {E:Value->Shared->Prop} {i:Nat} {x:Str} {v:V} {u:Value} {Q:Unit->Shared->Prop} (I:Inv X pins σ H s) (hN:X.N.Nodup) (hi:X.N[i]? = some x) (hx:Loc X.env.scope x) (r:RelV v u)
  (h:∀ s',Inv X pins (σ.set i (some v)) H s'->Q () s') (hf:X.fn x=true\/X.env.scope.names.lookup x=some .local:=by first | exact .inl rfl | exact .inr rfl | assumption):wpAny M A (storeName X.env x u) Q E s:=
 store_ok2 I hN hi hx r (fun s' I' _=>h s' I') hf
theorem Inv.call' {s':Shared} {ch:List Addr} (I:Inv X pins σ H s) (ho:s'.os=s.os) (u:Un (frs X.stack) ch H H' s.heap s'.heap) (hok:HOk X.prog X.w H' s'.heap) (hg:AllBare s'.gens)
  (hch:∀ b∈ch,(b∈X.ex\/X.s₀.heap.objs.size<=b)/\b≠X.env.locals/\(∀ x c,X.env.cells.lookup x=some c->c≠b)/\∀ p∈X.pn++pins,p.1≠b):Inv X pins σ H' s':=by
 obtain ⟨h',g',d',t',o'⟩:=s'
 have e:o'=s.os:=ho
 subst e
 exact I.call (g':=g') (t':=t') (d':=d') u hok hg hch
end
noncomputable abbrev XK:=Value->Option Addr->Hp->Prop
noncomputable abbrev St:=List (Option V)
noncomputable abbrev VK:=V->Hp->Prop
noncomputable abbrev TE:=St->Hp->VK->Prop
noncomputable abbrev TT:=St->Hp->(Bool->Hp->Prop)->Prop
noncomputable abbrev TA:=St->Hp->(List V->Hp->Prop)->Prop
structure Ends where
 nx:St->Hp->Prop
 rt:VK
 bk:St->Hp->Prop:=fun _ _=>False
 ct:St->Hp->Prop:=fun _ _=>False
noncomputable abbrev TS:=Ends->St->Hp->Prop
noncomputable def EP (X:Cx) (pins:List (Addr × Obj)) (σ:St) (Q:VK) (u:Value) (s':Shared):Prop:=∃ v H',Inv X pins σ H' s'/\RelV v u/\Q v H'
noncomputable def TP (X:Cx) (pins:List (Addr × Obj)) (σ:St) (Q:Bool->Hp->Prop) (b:Bool) (s':Shared):Prop:=∃ H',Inv X pins σ H' s'/\Q b H'
noncomputable def AP (X:Cx) (pins:List (Addr × Obj)) (σ:St) (Q:List V->Hp->Prop) (us:List Value) (s':Shared):Prop:=∃ vs H',Inv X pins σ H' s'/\Vals vs us/\Q vs H'
noncomputable def SP (X:Cx) (pins:List (Addr × Obj)) (D:Ends) (f:Flow) (s':Shared):Prop:=
 match f with
 | .next=>∃ σ' H',Inv X pins σ' H' s'/\D.nx σ' H'
 | .brk=>∃ σ' H',Inv X pins σ' H' s'/\D.bk σ' H'
 | .cont=>∃ σ' H',Inv X pins σ' H' s'/\D.ct σ' H'
 | .ret u=>∃ v σ' H',Inv X pins σ' H' s'/\RelV v u/\D.rt v H'
noncomputable def PE (X:Cx) (e:Expr) (t:TE):Prop:=
 ∀ (pins:List (Addr × Obj)) (s:Shared) (σ:St) (H:Hp) (Q:VK),Inv X pins σ H s->t σ H Q->wpAny (model X.prog X.w) X.A (eval e X.env) (EP X pins σ Q) X.xe s
noncomputable def PT (X:Cx) (e:Expr) (t:TT):Prop:=
 ∀ (pins:List (Addr × Obj)) (s:Shared) (σ:St) (H:Hp) (Q:Bool->Hp->Prop),Inv X pins σ H s->t σ H Q->wpAny (model X.prog X.w) X.A (isTrue e X.env (eval e X.env)) (TP X pins σ Q) X.xe s
noncomputable def PW (X:Cx) (e:Expr) (t:TT):Prop:=
 ∀ (whole:Sem Value) (pins:List (Addr × Obj)) (s:Shared) (σ:St) (H:Hp) (Q:Bool->Hp->Prop),Inv X pins σ H s->t σ H Q->wpAny (model X.prog X.w) X.A (isTrue e X.env whole) (TP X pins σ Q) X.xe s
theorem PW.pt {X:Cx} {e:Expr} {t:TT} (h:PW X e t):PT X e t:=h _
noncomputable def PA (X:Cx) (es:List Expr) (t:TA):Prop:=
 ∀ (pos:Pos) (pins:List (Addr × Obj)) (s:Shared) (σ:St) (H:Hp) (Q:List V->Hp->Prop),Inv X pins σ H s->t σ H Q->wpAny (model X.prog X.w) X.A (spliced (backTo pos (starEach es X.env))) (AP X pins σ Q) X.xe s
noncomputable def PS (X:Cx) (st:Stmt) (t:TS):Prop:=
 ∀ (pins:List (Addr × Obj)) (s:Shared) (σ:St) (H:Hp) (D:Ends),Inv X pins σ H s->t D σ H->wpAny (model X.prog X.w) X.A (exec st X.env) (SP X pins D) X.xe s
noncomputable def PSs (X:Cx) (st:List Stmt) (t:TS):Prop:=
 ∀ (pins:List (Addr × Obj)) (s:Shared) (σ:St) (H:Hp) (D:Ends),Inv X pins σ H s->t D σ H->wpAny (model X.prog X.w) X.A (execs st X.env) (SP X pins D) X.xe s
theorem thn {α:Type} {t:Sem α} {Q Q':α->Shared->Prop} {M:Model} {A:Around} {E:Value->Shared->Prop} {s:Shared} (h:wpAny M A t Q E s) (hQ:∀ a s,Q a s->Q' a s):wpAny M A t Q' E s:=wpAny_mono h hQ fun _ _ x=>x
end L2
namespace L2
open PySem PySem.Spec PyProof.Rows
section
variable {X:Cx}
noncomputable def tVar (i:Nat):TE:=fun σ H Q=>∃ v,σ[i]? = some (some v)/\Q v H
noncomputable def tC (v:V):TE:=fun _ H Q=>Q v H
theorem pe_var {i:Nat} {x:Str} {pos:Pos} (hN:X.N[i]? = some x) (hv:Vis X.env.scope x) (hd:(x == ("__debug__" : Str))=false:=by decide) (hcd:(x == ("__classdict__" : Str))=false:=by decide):PE X (.Name x pos) (tVar i):=by
 intro pins s σ H Q I h
 obtain ⟨v,e,h⟩:=h
 obtain ⟨m,hn,hl⟩:=I.loc
 obtain ⟨u,r,l⟩:=hl i x v hN e hv
 have fin:EP X pins σ Q u s:=⟨v,H,I,r,h⟩
 rcases l with ⟨hk,hm⟩ | ⟨hk,c,hc,hcell⟩
 ·exact wpAny_Name (wpAny_loadName_local I.ok.kind hk hn hm fin) hd
 ·rcases hk with hk | hk
  ·exact wpAny_Name (wpAny_loadName_cell I.ok.kind hk hc hcell fin) hd
  ·exact wpAny_Name (wpAny_loadName_free I.ok.kind hk hc hcell fin hcd) hd
theorem pe_int {i j pos}:PE X (.Constant (.int i) j pos) (tC (.int i)):=fun _ _ _ H _ I h=>wpAny_Constant_int ⟨.int i,H,I.tok _,⟨_,rfl⟩,h⟩
theorem pe_bl {b j pos}:PE X (.Constant (.bool b) j pos) (tC (.bl b)):=fun _ _ _ H _ I h=>Constant_bool ⟨.bl b,H,I,rfl,h⟩
theorem pe_non {j pos}:PE X (.Constant .none j pos) (tC .non):=fun _ _ _ H _ I h=>Constant_none ⟨.non,H,I,rfl,h⟩
theorem pe_str {x j pos}:PE X (.Constant (.str x) j pos) (tC (.str x)):=fun _ _ _ H _ I h=>Calls.Constant_str ⟨.str x,H,I.tok _,⟨_,rfl⟩,h⟩
noncomputable def Gl (X:Cx) (x:Str):Prop:=X.env.kindOf x=some .globalImplicit
theorem ld_glob {E:Value->Shared->Prop} {pins:List (Addr × Obj)} {s:Shared} {σ:St} {H:Hp} {x:Str} {u:Value} {pos:Pos} {Q:Value->Shared->Prop} (I:Inv X pins σ H s) (hg:Gl X x) (hm:X.mg x=some u) (h:Q u s)
  (hd:(x == ("__debug__" : Str))=false:=by decide):wpAny (model X.prog X.w) X.A (eval (.Name x pos) X.env) Q E s:=
 Calls.Name_function_global I.ok.kind hg (Calls.loadGlobal_global (by rw [I.ok.glob]; exact I.mod.glob.keeps I.bk) hm h) hd
theorem ld_blt {E:Value->Shared->Prop} {pins:List (Addr × Obj)} {s:Shared} {σ:St} {H:Hp} {x:Str} {u:Value} {pos:Pos} {Q:Value->Shared->Prop} (I:Inv X pins σ H s) (hg:Gl X x) (hm:X.mg x=none) (hv:bootBuiltins x=some u) (h:Q u s)
  (hn:x≠"__name__":=by decide) (hd:(x == ("__debug__" : Str))=false:=by decide):wpAny (model X.prog X.w) X.A (eval (.Name x pos) X.env) Q E s:=by
 obtain ⟨mb,h1,h2⟩:=I.mod.blt
 exact Calls.Name_function_global I.ok.kind hg (Calls.loadGlobal_builtin (by rw [I.ok.glob]; exact I.mod.glob.keeps I.bk) hm (by rw [I.ok.blt]; exact h1.keeps I.bk) ((h2 x hn).trans hv) h) hd
theorem pe_glob {x:Str} {v:V} {u:Value} {pos:Pos} (hg:Gl X x) (hm:X.mg x=some u) (r:RelV v u) (hd:(x == ("__debug__" : Str))=false:=by decide):PE X (.Name x pos) (tC v):=
 fun _ _ _ H _ I h=>ld_glob I hg hm ⟨v,H,I,r,h⟩ hd
theorem pe_bltn {x:Str} {v:V} {u:Value} {pos:Pos} (hg:Gl X x) (hm:X.mg x=none) (hv:bootBuiltins x=some u) (r:RelV v u) (hn:x≠"__name__":=by decide) (hd:(x == ("__debug__" : Str))=false:=by decide):PE X (.Name x pos) (tC v):=
 fun _ _ _ H _ I h=>ld_blt I hg hm hv ⟨v,H,I,r,h⟩ hn hd
variable {a b:Expr} {ta tb:TE} {pos:Pos}
noncomputable def tB (t:TE):TT:=fun σ H Q=>t σ H fun x H1=>∃ c,x=.bl c/\Q c H1
theorem pt_val {e:Expr} {t:TE} (h:PE X e t) (he:∀ whole,isTrue e X.env whole=(do let v <- whole; standAt e.pos; holding [v] (truthy v)):=by intro _; rfl):PT X e (tB t):=by
 intro pins s σ H Q I hw
 refine isTrue_plain (thn (h pins s σ H _ I hw) fun v s1 ⟨x,H1,I1,r1,q1⟩=>?_) (he _)
 obtain ⟨d,rfl,q⟩:=q1
 cases r1
 exact wpAny_truthy_bool ⟨H1,I1,q⟩
variable {tA tB':TT} {rest:List Expr}
noncomputable def tOr (t u:TT):TT:=fun σ H Q=>t σ H fun c H1=>if c=true then Q true H1 else u σ H1 Q
noncomputable def tNot (t:TT):TT:=fun σ H Q=>t σ H fun c H1=>Q (!c) H1
theorem pw_or1 (ha:PT X a tA):PW X (.BoolOp .Or [a] pos) tA:=by
 intro wh pins s σ H Q I h
 refine isTrue_or (thn (ha pins s σ H Q I h) fun c s1 e=>?_)
 cases c with
 | false=>exact isTrue_or_nil e
 | true=>exact e
theorem pw_or (ha:PT X a tA) (hb:PW X (.BoolOp .Or (b :: rest) pos) tB'):PW X (.BoolOp .Or (a :: b :: rest) pos) (tOr tA tB'):=by
 intro wh pins s σ H Q I h
 refine isTrue_or (thn (ha pins s σ H _ I h) fun c s1 ⟨H1,I1,q1⟩=>?_)
 cases c with
 | true=>exact ⟨H1,I1,q1⟩
 | false=>exact hb wh pins s1 σ H1 Q I1 q1
theorem pt_not (ha:PT X a tA):PT X (.UnaryOp .Not a pos) (tNot tA):=by
 intro pins s σ H Q I h
 exact isTrue_not (ha pins s σ H (fun c H1=>Q (!c) H1) I h)
noncomputable def tAndV (ta tb:TE):TE:=fun σ H Q=>ta σ H fun x H1=>∃ c,x=.bl c/\if c=true then tb σ H1 Q else Q (.bl false) H1
noncomputable def tNotV (ta:TE):TE:=fun σ H Q=>ta σ H fun x H1=>∃ c,x=.bl c/\Q (.bl (!c)) H1
theorem pe_one {op} {t:TE} (h:PE X a t):PE X (.BoolOp op [a] pos) t:=fun pins s σ H Q I hw=>BoolOp_one (h pins s σ H Q I hw)
theorem pe_and (ha:PE X a ta) (hb:PE X (.BoolOp .And (b :: rest) pos) tb):PE X (.BoolOp .And (a :: b :: rest) pos) (tAndV ta tb):=by
 intro pins s σ H Q I h
 refine BoolOp_and (thn (ha pins s σ H _ I h) fun v s1 ⟨x,H1,I1,r1,q1⟩=>?_)
 obtain ⟨c,rfl,q1⟩:=q1
 cases r1
 refine wpAny_truthy_bool ?_
 cases c with
 | true=>exact hb pins s1 σ H1 Q I1 q1
 | false=>exact ⟨.bl false,H1,I1,rfl,q1⟩
theorem pe_not (ha:PE X a ta):PE X (.UnaryOp .Not a pos) (tNotV ta):=by
 intro pins s σ H Q I h
 refine UnaryOp_ (thn (ha pins s σ H _ I h) fun v s1 ⟨x,H1,I1,r1,q1⟩=>?_)
 obtain ⟨c,rfl,q1⟩:=q1
 cases r1
 exact not_of (wpAny_truthy_bool ⟨.bl (!c),H1,I1,rfl,q1⟩)
noncomputable def tIf (t:TT) (ta tb:TE):TE:=fun σ H Q=>t σ H fun c H1=>if c=true then ta σ H1 Q else tb σ H1 Q
theorem pe_ifExp {c:Expr} (hc:PT X c tA) (ha:PE X a ta) (hb:PE X b tb):PE X (.IfExp c a b pos) (tIf tA ta tb):=by
 intro pins s σ H Q I h
 refine wpAny_IfExp (thn (hc pins s σ H _ I h) fun d s1 ⟨H1,I1,q1⟩=>?_)
 cases d with
 | true=>exact ha pins s1 σ H1 Q I1 q1
 | false=>exact hb pins s1 σ H1 Q I1 q1
end
end L2
namespace L2
open PySem PySem.Spec PyProof.Rows
noncomputable def SqL (K:PySem.W.Frag) (H:Hp) (a:Addr) (xs:List V):Prop:=
 Rd H a (.lst xs)∨
  ∃ (o:Obj) (its:Array Value) (n:Nat),K.lookup a=some o/\o.cls=.type "list"/\o.dict=none/\o.data=.seq its n/\its.size<=sizeLine/\Vals xs its.toList
noncomputable def SqT (K:PySem.W.Frag) (H:Hp) (a:Addr) (xs:List V):Prop:=
 Rd H a (.tup xs)∨
  ∃ (o:Obj) (its:Array Value) (n:Nat),K.lookup a=some o/\o.cls=.type "tuple"/\o.data=.seq its n/\its.size<=sizeLine/\Vals xs its.toList
noncomputable def absV:Value->Option V
 | .none=>some .non
 | .bool b=>some (.bl b)
 | .int i _=>some (.int i)
 | .str x _=>some (.str x)
 | .bytes b _=>some (.byt b)
 | .float b _=>some (.flt b)
 | .ref a=>some (.ref a)
 | .type n=>some (.ty n)
 | _=>none
theorem RelV.abs {x:V} {u:Value} (r:RelV x u):absV u=some x:=by
 cases x with
 | non=>cases r; rfl
 | bl _=>cases r; rfl
 | int _=>obtain ⟨t,rfl⟩:=r; rfl
 | str _=>obtain ⟨t,rfl⟩:=r; rfl
 | byt _=>obtain ⟨t,rfl⟩:=r; rfl
 | flt _=>obtain ⟨t,rfl⟩:=r; rfl
 | ref _=>cases r; rfl
 | ty _=>cases r; rfl
theorem RelV.inj {x y:V} {u:Value} (r:RelV x u) (q:RelV y u):x=y:=Option.some.inj (r.abs.symm.trans q.abs)
theorem Vals.inj:∀ {xs ys:List V} {us:List Value},Vals xs us->Vals ys us->xs=ys
 | _,_,_,.nil,.nil=>rfl
 | _,_,_,.cons r t,.cons r' t'=>by rw [r.inj r',Vals.inj t t']
section
variable {X:Cx} {pins:List (Addr × Obj)} {σ:St} {H:Hp} {s:Shared} {a:Addr} {xs ys:List V}
theorem SqL.of {K:PySem.W.Frag} (h:H a=some (.lst xs)):SqL K H a xs:=.inl (.inl h)
theorem SqT.of {K:PySem.W.Frag} (h:H a=some (.tup xs)):SqT K H a xs:=.inl (.inl h)
theorem Inv.list (I:Inv X pins σ H s) (h:SqL X.K H a xs):∃ its:List Value,Vals xs its/\PlainL s.heap a its.toArray/\xs.length<=sizeLine:=by
 rcases h with h | ⟨o,its,n,hk,hc,hd,hs,hz,r⟩
 ·obtain ⟨z,its,n,r,e⟩:=h.ok I.hok
  exact ⟨its,r,⟨_,n,e,rfl,rfl,rfl⟩,z⟩
 ·refine ⟨its.toList,r,⟨o,n,I.kIn a o hk,hc,hd,by simpa using hs⟩,?_⟩
  have e:=r.length
  simp only [Array.length_toList] at e
  omega
theorem Inv.tuple (I:Inv X pins σ H s) (h:SqT X.K H a xs):∃ its:List Value,Vals xs its/\IsTup s.heap a its.toArray/\xs.length<=sizeLine:=by
 rcases h with h | ⟨o,its,n,hk,hc,hs,hz,r⟩
 ·obtain ⟨z,its,r,p⟩:=h.ok I.hok
  exact ⟨its,r,p,z⟩
 ·refine ⟨its.toList,r,⟨o,I.kIn a o hk,hc,n,by simpa using hs⟩,?_⟩
  have e:=r.length
  simp only [Array.length_toList] at e
  omega
theorem Inv.list_inj (I:Inv X pins σ H s) (h:SqL X.K H a xs) (h':SqL X.K H a ys):xs=ys:=by
 obtain ⟨its,r,⟨o,n,e,_,_,d⟩,_⟩:=I.list h
 obtain ⟨its',r',⟨o',n',e',_,_,d'⟩,_⟩:=I.list h'
 rw [e] at e'; cases e'
 rw [d] at d'
 injection d' with d1 _
 have:its=its':=by simpa using congrArg Array.toList d1
 subst this
 exact r.inj r'
theorem Inv.tuple_inj (I:Inv X pins σ H s) (h:SqT X.K H a xs) (h':SqT X.K H a ys):xs=ys:=by
 obtain ⟨its,r,⟨o,e,_,n,d⟩,_⟩:=I.tuple h
 obtain ⟨its',r',⟨o',e',_,n',d'⟩,_⟩:=I.tuple h'
 rw [e] at e'; cases e'
 rw [d] at d'
 injection d' with d1 _
 have:its=its':=by simpa using congrArg Array.toList d1
 subst this
 exact r.inj r'
end
noncomputable abbrev Cx.wish (X:Cx) (E:Value->Shared->Prop):Cx:={ X with xe:=E }
noncomputable abbrev Cx.nox (X:Cx):Cx:=X.wish fun _ _=>False
theorem Cx.Ok.wish {X:Cx} (ok:X.Ok) (E:Value->Shared->Prop):(X.wish E).Ok:=
 ⟨ok.mod,ok.kind,ok.glob,ok.blt,ok.above,ok.inj,ok.has,ok.cab,ok.hd,ok.frames,ok.stk,ok.exf,ok.bs,ok.bsz,ok.noex,ok.exfs,ok.funs,ok.frf⟩
theorem Cx.Ok.unwish {X:Cx} {E:Value->Shared->Prop} (ok:(X.wish E).Ok):X.Ok:=
 ⟨ok.mod,ok.kind,ok.glob,ok.blt,ok.above,ok.inj,ok.has,ok.cab,ok.hd,ok.frames,ok.stk,ok.exf,ok.bs,ok.bsz,ok.noex,ok.exfs,ok.funs,ok.frf⟩
section
variable {X:Cx} {pins:List (Addr × Obj)} {σ:St} {H:Hp} {s:Shared} {E:Value->Shared->Prop}
theorem Inv.wish (I:Inv X pins σ H s) (E:Value->Shared->Prop):Inv (X.wish E) pins σ H s:=⟨I.ok.wish E,I.os,I.bare,I.base,I.loc,I.cell,I.free,I.freeC,I.pin,I.hok,I.len⟩
theorem Inv.unwish (I:Inv (X.wish E) pins σ H s):Inv X pins σ H s:=⟨I.ok.unwish,I.os,I.bare,I.base,I.loc,I.cell,I.free,I.freeC,I.pin,I.hok,I.len⟩
theorem SP.unwish {D:Ends} {f:Flow} {s':Shared} (h:SP (X.wish E) pins D f s'):SP X pins D f s':=by
 cases f with
 | next=>obtain ⟨σ',H',I,q⟩:=h; exact ⟨σ',H',I.unwish,q⟩
 | brk=>obtain ⟨σ',H',I,q⟩:=h; exact ⟨σ',H',I.unwish,q⟩
 | cont=>obtain ⟨σ',H',I,q⟩:=h; exact ⟨σ',H',I.unwish,q⟩
 | ret u=>obtain ⟨v,σ',H',I,r,q⟩:=h; exact ⟨v,σ',H',I.unwish,r,q⟩
theorem PSs.nox {st:List Stmt} {t:TS} (h:PSs X.nox st t):PSs X st t:=fun pins s σ H D I hw=>
 wpAny_mono (h pins s σ H D (I.wish _) hw) (fun _ _ q=>q.unwish) fun _ _ z=>False.elim z
end
section
variable {X:Cx} {st:Stmt} {rest:List Stmt} {t u:TS} {e:Expr} {te:TE} {pos:Pos}
noncomputable def tNext:TS:=fun D σ H=>D.nx σ H
noncomputable def tSeq (t u:TS):TS:=fun D σ H=>t { D with nx:=u D } σ H
theorem pss_nil:PSs X [] tNext:=fun _ _ σ H _ I h=>wpAny_execs_nil ⟨σ,H,I,h⟩
theorem pss_cons (h1:PS X st t) (h2:PSs X rest u):PSs X (st :: rest) (tSeq t u):=by
 intro pins s σ H D I h
 refine wpAny_execs_cons (thn (h1 pins s σ H { D with nx:=u D } I h) fun f s1 q=>?_)
 cases f with
 | next=>
  obtain ⟨σ',H',I',q⟩:=q
  exact h2 pins s1 σ' H' D I' q
 | ret v=>exact q
 | brk=>exact q
 | cont=>exact q
theorem pss_one (h1:PS X st t):PSs X [st] t:=by
 intro pins s σ H D I h
 refine wpAny_execs_cons (thn (h1 pins s σ H D I h) fun f s1 q=>?_)
 cases f with
 | next=>exact wpAny_execs_nil q
 | ret v=>exact q
 | brk=>exact q
 | cont=>exact q
theorem Inv.quiet {pins:List (Addr × Obj)} {σ:St} {H:Hp} {s:Shared} (I:Inv X pins σ H s):interactive X.env=false:=by simp [interactive,I.ok.kind]
noncomputable def tDrop (te:TE):TS:=fun D σ H=>te σ H fun _ H1=>D.nx σ H1
theorem ps_expr (he:PE X e te) (hs:swapsWith e none pos.line X.env=pure false:=by rfl):PS X (.Expr e pos) (tDrop te):=by
 intro pins s σ H D I h
 exact wpAny_Expr_any (thn (he pins s σ H _ I h) fun v s1 ⟨x,H1,I1,r1,q1⟩=>⟨σ,H1,I1,q1⟩) I.quiet hs
noncomputable def tRet (te:TE):TS:=fun D σ H=>te σ H D.rt
theorem ps_ret (he:PE X e te):PS X (.Return (some e) pos) (tRet te):=by
 intro pins s σ H D I h
 exact wpAny_Return_some (thn (he pins s σ H _ I h) fun v s1 ⟨x,H1,I1,r1,q1⟩=>⟨x,σ,H1,I1,r1,q1⟩)
noncomputable def tIfS (c:TT) (t u:TS):TS:=fun D σ H=>c σ H fun b H1=>if b=true then t D σ H1 else u D σ H1
theorem ps_if {c:Expr} {a b:List Stmt} {tc:TT} (hc:PT X c tc) (ha:PSs X a t) (hb:PSs X b u):PS X (.If c a b pos) (tIfS tc t u):=by
 intro pins s σ H D I h
 refine wpAny_If (thn (hc pins s σ H _ I h) fun d s1 ⟨H1,I1,q1⟩=>?_)
 cases d with
 | true=>exact ha pins s1 σ H1 D I1 q1
 | false=>exact hb pins s1 σ H1 D I1 q1
noncomputable def tNever:TS:=fun _ _ _=>False
theorem ps_never:PS X st tNever:=fun _ _ _ _ _ _ h=>h.elim
theorem pss_never {sts:List Stmt}:PSs X sts tNever:=fun _ _ _ _ _ _ h=>h.elim
end
noncomputable abbrev TG:=V->St->Hp->(St->Hp->Prop)->Prop
noncomputable abbrev TGs:=List V->St->Hp->(St->Hp->Prop)->Prop
noncomputable def PG (X:Cx) (target:Expr) (t:TG):Prop:=
 ∀ (pins:List (Addr × Obj)) (s:Shared) (σ:St) (H:Hp) (v:V) (u:Value) (Q:St->Hp->Prop),Inv X pins σ H s->RelV v u->t v σ H Q->
  wpAny (model X.prog X.w) X.A (assign target X.env u) (fun _ s'=>∃ σ' H',Inv X pins σ' H' s'/\Q σ' H') X.xe s
noncomputable def PGs (X:Cx) (ts:List Expr) (t:TGs):Prop:=
 ∀ (pins:List (Addr × Obj)) (s:Shared) (σ:St) (H:Hp) (vs:List V) (us:List Value) (Q:St->Hp->Prop),Inv X pins σ H s->Vals vs us->t vs σ H Q->
  wpAny (model X.prog X.w) X.A (assignInOrder ((assignEach ts X.env).map (·.2)) us) (fun _ s'=>∃ σ' H',Inv X pins σ' H' s'/\Q σ' H') X.xe s
noncomputable abbrev TSet:=V->V->V->Hp->(Hp->Prop)->Prop
noncomputable def PSet (X:Cx) (t:TSet):Prop:=
 ∀ (pins:List (Addr × Obj)) (s:Shared) (σ:St) (H:Hp) (o i v:V) (ov iv u:Value) (Q:Hp->Prop),Inv X pins σ H s->RelV o ov->RelV i iv->RelV v u->t o i v H Q->
  wpAny (model X.prog X.w) X.A (setItem ov iv u) (fun _ s'=>∃ H',Inv X pins σ H' s'/\Q H') X.xe s
section
variable {X:Cx} {pos:Pos}
noncomputable def gName (i:Nat):TG:=fun v σ H Q=>Q (σ.set i (some v)) H
theorem pg_name {i:Nat} {x:Str} (hN:X.N.Nodup) (hi:X.N[i]? = some x) (hx:Loc X.env.scope x) (hf:X.fn x=true\/X.env.scope.names.lookup x=some .local:=by first | exact .inl rfl | exact .inr rfl | assumption):PG X (.Name x pos) (gName i):=by
 intro pins s σ H v u Q I r h
 exact wpAny_assign_Name (store_ok I hN hi hx r (fun s' I'=>⟨_,H,I',h⟩) hf)
noncomputable def gNil:TGs:=fun vs σ H Q=>vs=[]/\Q σ H
noncomputable def gCons (t:TG) (u:TGs):TGs:=fun vs σ H Q=>∃ v r,vs=v :: r/\t v σ H fun σ' H'=>u r σ' H' Q
theorem pgs_nil:PGs X [] gNil:=by
 intro pins s σ H vs us Q I r h
 obtain ⟨e,h⟩:=h
 subst e
 cases r
 exact assignInOrder_nil ⟨σ,H,I,h⟩
theorem pgs_cons {e:Expr} {es:List Expr} {t:TG} {u:TGs} (h1:PG X e t) (h2:PGs X es u)
  (hs:(assignEach (e :: es) X.env).map (·.2)=assign e X.env :: (assignEach es X.env).map (·.2):=by rfl):PGs X (e :: es) (gCons t u):=by
 intro pins s σ H vs us Q I r h
 obtain ⟨v,vr,e1,h⟩:=h
 subst e1
 cases r with
 | cons r rr=>
  rw [hs]
  refine assignInOrder_cons (thn (h1 pins s σ H _ _ _ I r h) fun _ s1 ⟨σ1,H1,I1,q1⟩=>?_)
  exact h2 pins s1 σ1 H1 _ _ Q I1 rr q1
noncomputable def gTup (K:PySem.W.Frag) (n:Nat) (t:TGs):TG:=fun v σ H Q=>∃ a xs,v=.ref a/\SqT K H a xs/\xs.length=n/\t xs σ H Q
theorem pg_tup {es:List Expr} {k:Nat} {t:TGs} {n:Nat} (hc:X.calm=true) (h:PGs X es t)
  (hn:(assignEach es X.env).length=n:=by rfl) (hst:(assignEach es X.env).findIdx? (·.1)=none:=by rfl):PG X (.Tuple es k pos) (gTup X.K n t):=by
 intro pins s σ H v u Q I r hw
 obtain ⟨a,xs,e1,hq,hl,hw⟩:=hw
 subst e1
 cases r
 obtain ⟨its,rv,ht,hz⟩:=I.tuple hq
 refine assign_Tuple_tuple (I.ok.hd hc) ht (by simp [hn,<- hl,rv.length]) hst fun h' hx=>?_
 have I1:Inv X pins σ H { s with heap:=h' }:=I.kept (t':=s.toks) fun b o e=>hx b o (Nat.ne_of_lt (Heap.lt_size e)) e
 exact h pins _ σ H xs _ Q I1 (by simpa using rv) hw
noncomputable def gSub (to ti:TE) (t:TSet):TG:=fun v σ H Q=>to σ H fun o H1=>ti σ H1 fun i H2=>t o i v H2 fun H3=>Q σ H3
theorem pg_sub {o i:Expr} {to ti:TE} {t:TSet} (ho:PE X o to) (hi:PE X i ti) (hs:PSet X t)
  (ha:∀ v,assign (.Subscript o i pos) X.env v=(do
   let ov <- holding [v] (eval o X.env)
   let iv <- holding [v,ov] (eval i X.env)
   standAt pos
   holding [v,ov,iv] (setItem ov iv v)
   release [v,ov,iv] []):=by intro _; rfl):PG X (.Subscript o i pos) (gSub to ti t):=by
 intro pins s σ H v u Q I r h
 rw [ha]
 refine wpAny_bind (wpAny_holding (thn (ho pins s σ H _ I h) fun ov s1 ⟨x,H1,I1,r1,q1⟩=>?_))
 refine wpAny_bind (wpAny_holding (thn (hi pins s1 σ H1 _ I1 q1) fun iv s2 ⟨y,H2,I2,r2,q2⟩=>?_))
 refine wpAny_bind (wpAny_standAt (wpAny_bind (wpAny_holding (thn (hs pins s2 σ H2 x y v ov iv u _ I2 r1 r2 r q2) fun _ s3 ⟨H3,I3,q3⟩=>?_))))
 exact wpAny_release ⟨σ,H3,I3,q3⟩
noncomputable def tAsg (te:TE) (g:TG):TS:=fun D σ H=>te σ H fun x H1=>g x σ H1 D.nx
theorem ps_asg {tg e:Expr} {te:TE} {g:TG} (he:PE X e te) (hg:PG X tg g) (hs:swapsWithSole [tg] e pos.line X.env=pure false:=by rfl) (hw:swappedStores [tg] e X.env=pure none:=by rfl)
  (h1:(assignEach [tg] X.env).map (·.2)=[assign tg X.env]:=by rfl):PS X (.Assign [tg] e pos) (tAsg te g):=by
 intro pins s σ H D I h
 refine wpAny_Assign_stores (thn (he pins s σ H _ I h) fun v s1 ⟨x,H1,I1,r1,q1⟩=>?_) hs hw
 rw [h1]
 exact thn (hg pins s1 σ H1 x v _ I1 r1 q1) fun _ s2 q=>q
theorem ps_set {i:Nat} {x:Str} {e:Expr} {te:TE} {pos':Pos} (hN:X.N.Nodup) (hi:X.N[i]? = some x) (hx:Loc X.env.scope x) (he:PE X e te) (hs:swapsWith e (some (.Name x pos')) pos.line X.env=pure false:=by rfl) (hf:X.fn x=true\/X.env.scope.names.lookup x=some .local:=by first | exact .inl rfl | exact .inr rfl | assumption) :
  PS X (.Assign [.Name x pos'] e pos) (tAsg te (gName i)):=by
 intro pins s σ H D I h
 refine wpAny_Assign_Name (thn (he pins s σ H _ I h) fun v s1 ⟨y,H1,I1,r1,q1⟩=>?_) hs
 exact store_ok I1 hN hi hx r1 (fun s2 I2=>⟨_,H1,I2,q1⟩) hf
end
section
variable {X:Cx} {pos:Pos}
noncomputable def tWhile (c:TT) (tb:TS):TS:=fun D σ H=>∃ W:Nat->St->Hp->Prop,(∃ m,W m σ H)/\∀ m σ H,W m σ H->
 c σ H fun b H1=>if b=true then ∃ N:St->Hp->Prop,(∀ σ' H',N σ' H'->∃ m',m' < m/\W m' σ' H')/\tb { D with nx:=N,ct:=N,bk:=D.nx } σ H1 else D.nx σ H1
theorem ps_while {c:Expr} {body:List Stmt} {tc:TT} {tb:TS} (hp:PassesOwn (model X.prog X.w) X.A X.env X.xe) (hc:PT X c tc) (hb:PSs X body tb):PS X (.While c body [] pos) (tWhile tc tb):=by
 intro pins s σ H D I h
 obtain ⟨W,⟨m0,w0⟩,turn⟩:=h
 refine wpAny_While (codeAny_whileLoop (fun n s'=>∃ σ' H',Inv X pins σ' H' s'/\W n σ' H') ?_ m0 ⟨σ,H,I,w0⟩)
 rintro n s1 ⟨σ1,H1,I1,w1⟩
 refine wpAny_passesOwn hp (thn (hc pins s1 σ1 H1 _ I1 (turn n σ1 H1 w1)) fun b s2 ⟨H2,I2,q2⟩=>?_)
 cases b with
 | true=>
  obtain ⟨N,hN,q2⟩:=q2
  rw [if_pos rfl]
  refine wpAny_passesOwn hp (thn (hb pins s2 σ1 H2 _ I2 q2) fun f s3 q3=>?_)
  cases f with
  | next=>
   obtain ⟨σ3,H3,I3,n3⟩:=q3
   obtain ⟨m',hm,w3⟩:=hN σ3 H3 n3
   exact ⟨m',hm,σ3,H3,I3,w3⟩
  | cont=>
   obtain ⟨σ3,H3,I3,n3⟩:=q3
   obtain ⟨m',hm,w3⟩:=hN σ3 H3 n3
   exact ⟨m',hm,σ3,H3,I3,w3⟩
  | brk=>exact q3
  | ret v=>exact q3
 | false=>
  rw [if_neg Bool.false_ne_true]
  exact wpAny_execs_nil ⟨σ1,H2,I2,q2⟩
end
structure It where
 go:Nat->Hp->Prop
 yld:Nat->Hp->V->Hp->Prop
 stop:Nat->Hp->Prop
noncomputable def FpOk (X:Cx) (pins:List (Addr × Obj)) (H:Hp) (b:Addr):Prop:=
 H b=none/\b≠X.env.locals/\b∉X.fs/\(b∈X.ex\/X.s₀.heap.objs.size<=b)/\(∀ x c,X.env.cells.lookup x=some c->c≠b)/\∀ p∈X.pn++pins,p.1≠b
theorem Inv.fpOk {X:Cx} {pins:List (Addr × Obj)} {σ:St} {H H':Hp} {s:Shared} {b:Addr} (I:Inv X pins σ H s) (hb:s.heap.objs.size<=b) (hn:H' b=none):FpOk X pins H' b:=by
 refine ⟨hn,Nat.ne_of_gt (Nat.lt_of_lt_of_le I.lt hb),I.nofs hb,.inr (Nat.le_trans I.sz hb),fun x c e z=>?_,fun p hp z=>?_⟩
 ·obtain ⟨v,q⟩:=I.cell x c e
  exact absurd (Nat.lt_of_lt_of_le q.lt (by rw [z]; exact hb)) (Nat.lt_irrefl _)
 ·exact absurd (Nat.lt_of_lt_of_le (Heap.lt_size (I.pin p hp).1) (by rw [z]; exact hb)) (Nat.lt_irrefl _)
structure Turn (P:Program) (w:World) (K:PySem.W.Frag) (tg:Expr) (J:It) (fp:List Addr) (it:Addr) (tn:Nat->Heap->Prop):Prop where
 mem:it∈fp
 obj:∀ i h,tn i h->∀ b∈fp,∃ o,h.get? b=some o/\∀ v,o.data≠.cell v
 keep:∀ i h h',tn i h->(∀ b∈fp,∀ o,h.get? b=some o->h'.get? b=some o)->tn i h'
 item:∀ (X:Cx),X.prog=P->X.w=w->X.K=K->X.calm=true->∀ (i:Nat) (pins:List (Addr × Obj)) (s:Shared) (σ:St) (H:Hp) (E:Value->Shared->Prop),Inv X pins σ H s->(∀ b∈fp,FpOk X pins H b)->tn i s.heap->J.go i H->
  wpAny (model P w) X.A (pyNext (.ref it)) (fun r s1=>∃ u,r=some u∧
   wpAny (model P w) X.A (letOwnedTupleGo tg (.ref it) u) (fun _ s2=>∃ x H',Inv X pins σ H' s2/\RelV x u/\J.yld i H x H'/\tn (i + 1) s2.heap/\∀ b∈fp,H' b=none) E s1) E s
 done:∀ (X:Cx),X.prog=P->X.w=w->X.K=K->X.calm=true->∀ (i:Nat) (pins:List (Addr × Obj)) (s:Shared) (σ:St) (H:Hp) (E:Value->Shared->Prop),Inv X pins σ H s->(∀ b∈fp,FpOk X pins H b)->tn i s.heap->J.stop i H->
  wpAny (model P w) X.A (pyNext (.ref it)) (fun r s1=>r=none/\Inv X pins σ H s1) E s
 self:∀ (A:Around) (i:Nat) (s:Shared) (Q:Value->Shared->Prop) (E:Value->Shared->Prop),tn i s.heap->Q (.ref it) s->wpAny (model P w) A (pyIter (.ref it)) Q E s
noncomputable abbrev TI:=St->Hp->(It->Hp->Prop)->Prop
noncomputable def PIE (X:Cx) (pins:List (Addr × Obj)) (σ:St) (tg:Expr) (R:It->Hp->Prop) (itv:Value) (s2:Shared):Prop:=
 ∃ (it:Addr) (fp:List Addr) (tn:Nat->Heap->Prop) (J:It) (H':Hp),itv=.ref it/\Inv X pins σ H' s2/\Turn X.prog X.w X.K tg J fp it tn/\tn 0 s2.heap/\(∀ b∈fp,FpOk X pins H' b)/\R J H'
noncomputable def PI (X:Cx) (tg iter:Expr) (wi:TI):Prop:=
 ∀ (pins:List (Addr × Obj)) (s:Shared) (σ:St) (H:Hp) (R:It->Hp->Prop),Inv X pins σ H s->wi σ H R->
  wpAny (model X.prog X.w) X.A (eval iter X.env) (fun v s1=>wpAny (model X.prog X.w) X.A (pyIter v) (PIE X pins σ tg R) X.xe s1) X.xe s
theorem go_of {M:Model} {A:Around} {E:Value->Shared->Prop} {s:Shared} {tg:Expr} {it:Addr} {u:Value} {o:Obj} {n:String} {vs:Array Value} {Q:Unit->Shared->Prop} (ho:s.heap.get? it=some o) (hc:o.cls=.type n) (hd:o.data=.fields vs)
  (hn:["enumerate","zip","dict_itemiterator","dict_reverseitemiterator","odict_iterator","itertools.zip_longest","itertools.pairwise"].contains n=false) (hQ:Q () s):wpAny M A (letOwnedTupleGo tg (.ref it) u) Q E s:=by
 unfold letOwnedTupleGo
 cases tg <;> first
  | exact wpAny_pure hQ
  | (cases u <;> first
    | exact wpAny_pure hQ
    | (refine wpAny_bind (wpAny_load ho ?_)
       rw [hc,hd]
       show wpAny M A (if (["enumerate","zip","dict_itemiterator","dict_reverseitemiterator","odict_iterator","itertools.zip_longest","itertools.pairwise"].contains n && vs[0]? == some (rawInt _))=true then _ else _) Q E s
       rw [if_neg (by intro h; rw [hn,Bool.false_and] at h; cases h)]
       exact wpAny_pure hQ))
noncomputable def Itl (K:PySem.W.Frag) (a:Addr):It:=
 ⟨fun i H=>∃ xs x,SqL K H a xs/\xs[i]? = some x,fun i H x H'=>H'=H/\∀ xs,SqL K H a xs->xs[i]? = some x,fun i H=>∃ xs,SqL K H a xs/\xs.length<=i⟩
noncomputable def Itt (K:PySem.W.Frag) (a:Addr):It:=
 ⟨fun i H=>∃ xs x,SqT K H a xs/\xs[i]? = some x,fun i H x H'=>H'=H/\∀ xs,SqT K H a xs->xs[i]? = some x,fun i H=>∃ xs,SqT K H a xs/\xs.length<=i⟩
noncomputable def Itr (lo:Int) (n:Nat):It:=⟨fun i _=>i < n,fun i H x H'=>H'=H/\x=.int (lo + i),fun i _=>n<=i⟩
theorem turn_list {P:Program} {w:World} {K:PySem.W.Frag} {tg:Expr} (a it:Addr):Turn P w K tg (Itl K a) [it] it (fun i h=>h.IsListIter it a i) where
 mem:=by simp
 obj:=fun i h st b hb=>by
  have e:b=it:=by simpa using hb
  subst e
  obtain ⟨o,e,c,d⟩:=st
  exact ⟨o,e,fun v z=>by rw [d] at z; cases z⟩
 keep:=fun i h h' st k=>st.at fun o e=>k it (by simp) o e
 item:=by
  intro X hP hw hK hc i pins s σ H E I hf st hg
  subst hP hw hK
  obtain ⟨xs,x,hq,hx⟩:=hg
  obtain ⟨its,rv,p,hz⟩:=I.list hq
  obtain ⟨u,hu,ru⟩:=rv.get hx
  obtain ⟨f0,f1,f2,f3,f4,f5⟩:=hf it (by simp)
  refine wpAny_pyNext_list_item st p.isList (x:=u) (by simpa using hu) fun h' st' sb=>?_
  have I1:Inv X pins σ H { s with heap:=h' }:=I.turned (t':=s.toks) (fun b o hb e=>(sb.2 b hb).trans e) f0 f1 f3 f4 f5
  obtain ⟨o,e,c,d⟩:=id st'
  exact ⟨u,rfl,go_of (s:={ s with heap:=h' }) e c d (by decide) ⟨x,H,I1,ru,⟨rfl,fun ys hy=>by rw [I.list_inj hy hq]; exact hx⟩,st',fun b hb=>(hf b hb).1⟩⟩
 done:=by
  intro X hP hw hK hc i pins s σ H E I hf st hg
  subst hP hw hK
  obtain ⟨xs,hq,hx⟩:=hg
  obtain ⟨its,rv,p,hz⟩:=I.list hq
  obtain ⟨f0,f1,f2,f3,f4,f5⟩:=hf it (by simp)
  have hl:=rv.length
  exact wpAny_pyNext_list_end (I.ok.hd hc) st p.isList (by simp; omega) fun h' eb=>⟨rfl,I.turned (t':=s.toks) (fun b o hb e=>eb b o hb e) f0 f1 f3 f4 f5⟩
 self:=fun _ _ _ _ _ st h=>wpAny_pyIter_listiter st h
theorem turn_tuple {P:Program} {w:World} {K:PySem.W.Frag} {tg:Expr} (a it:Addr):Turn P w K tg (Itt K a) [it] it (fun i h=>h.IsTupleIter it a i) where
 mem:=by simp
 obj:=fun i h st b hb=>by
  have e:b=it:=by simpa using hb
  subst e
  obtain ⟨o,e,c,d⟩:=st
  exact ⟨o,e,fun v z=>by rw [d] at z; cases z⟩
 keep:=fun i h h' st k=>st.at fun o e=>k it (by simp) o e
 item:=by
  intro X hP hw hK hc i pins s σ H E I hf st hg
  subst hP hw hK
  obtain ⟨xs,x,hq,hx⟩:=hg
  obtain ⟨its,rv,p,hz⟩:=I.tuple hq
  obtain ⟨u,hu,ru⟩:=rv.get hx
  obtain ⟨f0,f1,f2,f3,f4,f5⟩:=hf it (by simp)
  refine wpAny_pyNext_tuple_item st (show s.heap.IsTuple a its.toArray from p) (x:=u) (by simpa using hu) fun h' st' sb=>?_
  have I1:Inv X pins σ H { s with heap:=h' }:=I.turned (t':=s.toks) (fun b o hb e=>(sb.2 b hb).trans e) f0 f1 f3 f4 f5
  obtain ⟨o,e,c,d⟩:=id st'
  exact ⟨u,rfl,go_of (s:={ s with heap:=h' }) e c d (by decide) ⟨x,H,I1,ru,⟨rfl,fun ys hy=>by rw [I.tuple_inj hy hq]; exact hx⟩,st',fun b hb=>(hf b hb).1⟩⟩
 done:=by
  intro X hP hw hK hc i pins s σ H E I hf st hg
  subst hP hw hK
  obtain ⟨xs,hq,hx⟩:=hg
  obtain ⟨its,rv,p,hz⟩:=I.tuple hq
  obtain ⟨f0,f1,f2,f3,f4,f5⟩:=hf it (by simp)
  have hl:=rv.length
  exact wpAny_pyNext_tuple_end (I.ok.hd hc) st (show s.heap.IsTuple a its.toArray from p) (by simp; omega) fun h' eb=>⟨rfl,I.turned (t':=s.toks) (fun b o hb e=>eb b o hb e) f0 f1 f3 f4 f5⟩
 self:=fun _ _ _ _ _ st h=>wpAny_pyIter_tupleiter st h
theorem turn_range {P:Program} {w:World} {K:PySem.W.Frag} {tg:Expr} (it:Addr) (lo:Int) (n:Nat):Turn P w K tg (Itr lo n) [it] it (fun i h=>IsRangeIter h it (lo + (i:Nat) * 1) ((n:Int) - (i:Nat)) 1) where
 mem:=by simp
 obj:=fun i h st b hb=>by
  have e:b=it:=by simpa using hb
  subst e
  exact ⟨_,st,fun v z=>by
   have z':Data.fields _=Data.cell v:=z
   cases z'⟩
 keep:=fun i h h' st k=>k it (by simp) _ st
 item:=by
  intro X hP hw hK hc i pins s σ H E I hf st hg
  subst hP hw hK
  obtain ⟨f0,f1,f2,f3,f4,f5⟩:=hf it (by simp)
  have W:=Walks.range (prog:=X.prog) (w:=X.w) (I.ok.hd hc) it lo 1 n
  refine W.item i s _ _ hg st fun v h' tk hv st' kk=>?_
  obtain ⟨t,rfl⟩:=hv
  have I1:Inv X pins σ H { s with heap:=h',toks:=tk }:=I.turned (fun b o hb e=>kk b o (by simpa using hb) e) f0 f1 f3 f4 f5
  refine ⟨_,rfl,go_of (s:={ s with heap:=h',toks:=tk }) (n:="range_iterator") st' rfl rfl (by decide) ⟨.int (lo + i),H,I1,⟨t,?_⟩,⟨rfl,rfl⟩,st',fun b hb=>(hf b hb).1⟩⟩
  rw [Int.mul_one]
 done:=by
  intro X hP hw hK hc i pins s σ H E I hf st hg
  subst hP hw hK
  obtain ⟨f0,f1,f2,f3,f4,f5⟩:=hf it (by simp)
  exact wpAny_pyNext_range_end (I.ok.hd hc) st (by have:n<=i:=hg; omega) fun h' eb=>⟨rfl,I.turned (t':=s.toks) (fun b o hb e=>eb b o hb e) f0 f1 f3 f4 f5⟩
 self:=fun _ _ _ _ _ st h=>wpAny_pyIter_rangeiter st h
end L2
namespace L2
open PySem PySem.Spec PyProof.Rows
section
variable {X:Cx} {tg:Expr}
noncomputable def iList (K:PySem.W.Frag) (tl:TE):TI:=fun σ H R=>tl σ H fun x H1=>∃ a,x=.ref a/\(∃ xs,SqL K H1 a xs)/\R (Itl K a) H1
noncomputable def iTup (K:PySem.W.Frag) (tl:TE):TI:=fun σ H R=>tl σ H fun x H1=>∃ a,x=.ref a/\(∃ xs,SqT K H1 a xs)/\R (Itt K a) H1
theorem pi_list {l:Expr} {tl:TE} (hl:PE X l tl):PI X tg l (iList X.K tl):=by
 intro pins s σ H R I h
 refine thn (hl pins s σ H _ I h) fun v s1 ⟨x,H1,I1,r1,q1⟩=>?_
 obtain ⟨a,e,⟨xs,hq⟩,q⟩:=q1
 subst e
 cases r1
 obtain ⟨its,rv,p,hz⟩:=I1.list hq
 refine wpAny_pyIter_list p.isList ?_
 refine ⟨s1.heap.objs.size,[s1.heap.objs.size],_,_,H1,rfl,I1.kept (t':=s1.toks) fun b o e=>Heap.get?_push_of_some _ e,turn_list a _,⟨_,Heap.get?_push_size _ rfl,rfl,rfl⟩,fun b hb=>?_,q⟩
 have e:b=s1.heap.objs.size:=by simpa using hb
 subst e
 exact I1.fpOk (Nat.le_refl _) (I1.hok.fresh (Nat.le_refl _))
theorem pi_tup {l:Expr} {tl:TE} (hl:PE X l tl):PI X tg l (iTup X.K tl):=by
 intro pins s σ H R I h
 refine thn (hl pins s σ H _ I h) fun v s1 ⟨x,H1,I1,r1,q1⟩=>?_
 obtain ⟨a,e,⟨xs,hq⟩,q⟩:=q1
 subst e
 cases r1
 obtain ⟨its,rv,p,hz⟩:=I1.tuple hq
 refine wpAny_pyIter_tuple (show s1.heap.IsTuple a its.toArray from p) ?_
 refine ⟨s1.heap.objs.size,[s1.heap.objs.size],_,_,H1,rfl,I1.kept (t':=s1.toks) fun b o e=>Heap.get?_push_of_some _ e,turn_tuple a _,⟨_,Heap.get?_push_size _ rfl,rfl,rfl⟩,fun b hb=>?_,q⟩
 have e:b=s1.heap.objs.size:=by simpa using hb
 subst e
 exact I1.fpOk (Nat.le_refl _) (I1.hok.fresh (Nat.le_refl _))
theorem range_it {pins:List (Addr × Obj)} {σ:St} {H:Hp} {s:Shared} {R:It->Hp->Prop} {E:Value->Shared->Prop} {lo hi:Int} {t u v:Tok} {tk:Nat} (I:Inv X pins σ H s) (h1 : -(2 ^ 62)<=lo) (h2:lo < 2 ^ 62) (h3 : -(2 ^ 62)<=hi) (h4:hi < 2 ^ 62)
  (q:R (Itr lo (hi - lo).toNat) H):wpAny (model X.prog X.w) X.A (pyIter (.ref s.heap.objs.size)) (PIE X pins σ tg R) E { s with heap:=s.heap.push { cls:=.type "range",data:=.fields #[.int lo t,.int hi u,.int 1 v] },toks:=tk }:=by
 refine wpAny_pyIter_range (IsRange.new ..) (small_one h1 h2 h3 h4) ?_
 have I1:Inv X pins σ H { s with heap:=s.heap.push { cls:=.type "range",data:=.fields #[.int lo t,.int hi u,.int 1 v] },toks:=tk }:=I.kept fun b o e=>Heap.get?_push_of_some _ e
 refine ⟨(s.heap.push { cls:=.type "range",data:=.fields #[.int lo t,.int hi u,.int 1 v] }).objs.size,[(s.heap.push { cls:=.type "range",data:=.fields #[.int lo t,.int hi u,.int 1 v] }).objs.size],_,_,H,rfl,
  I1.kept (t':=tk) fun b o e=>Heap.get?_push_of_some _ e,turn_range _ lo (hi - lo).toNat,?_,fun b hb=>?_,q⟩
 ·have e1:lo + ((0:Nat):Int) * 1=lo:=by simp
  have e2:(((hi - lo).toNat:Nat):Int) - ((0:Nat):Int)=Builtin.Range.rangeSize lo hi 1:=by rw [rangeSize_one]; split <;> omega
  show IsRangeIter _ _ (lo + ((0:Nat):Int) * 1) ((((hi - lo).toNat:Nat):Int) - ((0:Nat):Int)) 1
  rw [e1,e2]
  exact Heap.get?_push_size _ rfl
 ·have e:b=(s.heap.push { cls:=.type "range",data:=.fields #[.int lo t,.int hi u,.int 1 v] }).objs.size:=by simpa using hb
  subst e
  exact I1.fpOk (Nat.le_refl _) (I1.hok.fresh (Nat.le_refl _))
noncomputable def iRng1 (ta:TA):TI:=fun σ H R=>ta σ H fun vs H1=>∃ j:Int,vs=[.int j]/\-(2 ^ 62)<=j/\j < 2 ^ 62/\R (Itr 0 j.toNat) H1
theorem pi_range1 {a:Expr} {ta:TA} {p pos:Pos} (hg:Gl X "range") (hm:X.mg "range" = none) (ha:PA X [a] ta) (hs:starEach [a] X.env=[(false,eval a X.env)]:=by rfl):PI X tg (.Call (.Name "range" p) [a] [] pos) (iRng1 ta):=by
 intro pins s σ H R I h
 refine Call_ (ld_blt I hg hm boot_range (PyProof.Rows.callWith_type1 (thn (ha pos pins s σ H _ I h) fun us s1 ⟨vs,H1,I1,r1,q1⟩=>?_) hs rfl))
 obtain ⟨j,e,q1,q2,q⟩:=q1
 subst e
 cases r1 with
 | cons r rr=>
  cases rr
  obtain ⟨t,rfl⟩:=r
  exact call_range_1 (range_it I1 (by omega) (by omega) q1 q2 (by simpa using q))
noncomputable def tFor (wi:TI) (g:TG) (tb:TS):TS:=fun D σ H=>wi σ H fun J H1=>∃ W:Nat->Nat->St->Hp->Prop,(∃ m,W 0 m σ H1)/\∀ i m σ H,W i m σ H->
 (J.stop i H/\D.nx σ H)\/(J.go i H/\∃ N:St->Hp->Prop,(∀ σ' H',N σ' H'->∃ m',m' < m/\W (i + 1) m' σ' H')/\∀ x H',J.yld i H x H'->g x σ H' fun σ2 H2=>tb { D with nx:=N,ct:=N,bk:=D.nx } σ2 H2)
noncomputable def pinsAt (fp:List Addr) (h:Heap):List (Addr × Obj):=fp.filterMap fun b=>(h.get? b).map fun o=>(b,o)
theorem mem_pinsAt {fp:List Addr} {h:Heap} {b:Addr} {o:Obj} (hb:b∈fp) (e:h.get? b=some o):(b,o)∈pinsAt fp h:=List.mem_filterMap.mpr ⟨b,hb,by rw [e]; rfl⟩
theorem of_pinsAt {fp:List Addr} {h:Heap} {p:Addr × Obj} (hp:p∈pinsAt fp h):p.1∈fp/\h.get? p.1=some p.2:=by
 obtain ⟨b,hb,e⟩:=List.mem_filterMap.mp hp
 cases q:h.get? b with
 | none=>rw [q] at e; cases e
 | some o=>
  rw [q] at e
  have e':(b,o)=p:=Option.some.inj e
  subst e'
  exact ⟨hb,q⟩
theorem Inv.pinned {pins:List (Addr × Obj)} {σ:St} {H:Hp} {s:Shared} {fp:List Addr} (I:Inv X pins σ H s) (hf:∀ b∈fp,FpOk X pins H b) (ho:∀ b∈fp,∃ o,s.heap.get? b=some o/\∀ v,o.data≠.cell v):Inv X (pins++pinsAt fp s.heap) σ H s:=
 I.pins_of fun p hp=>(List.mem_append.mp hp).elim (fun z=>I.pin p (List.mem_append_right _ z)) fun z=>by
  obtain ⟨hb,e⟩:=of_pinsAt z
  obtain ⟨f0,f1,f2,_⟩:=hf p.1 hb
  obtain ⟨o,e',d⟩:=ho p.1 hb
  rw [e] at e'; cases e'
  exact ⟨e,f0,f1,f2,d⟩
theorem Inv.unpinned {pins pl:List (Addr × Obj)} {σ:St} {H:Hp} {s:Shared} (I:Inv X (pins++pl) σ H s):Inv X pins σ H s:=I.pins_of fun p hp=>I.pin p (List.mem_append_right _ (List.mem_append_left _ hp))
theorem ps_for {iter:Expr} {body:List Stmt} {wi:TI} {g:TG} {tb:TS} {pos:Pos} (hp:PassesOwn (model X.prog X.w) X.A X.env X.xe) (hc:X.calm=true) (hi:PI X tg iter wi) (hg:PG X tg g) (hb:PSs X body tb)
  (hs:∀ x,foldedSetIterable iter X.env x=pure x:=by intro _; rfl):PS X (.For tg iter body [] pos) (tFor wi g tb):=by
 intro pins s σ H D I h
 refine wpAny_For (thn (hi pins s σ H _ I h) fun v s1 h1=>thn h1 fun itv s2 h2=>?_) hs
 obtain ⟨it,fp,tn,J,H2,e,I2,T,st2,f2,W,⟨m0,w0⟩,turn⟩:=h2
 subst e
 have stat:∀ {H':Hp},(∀ b∈fp,H' b=none)->∀ b∈fp,FpOk X pins H' b:=fun hn b hb=>⟨hn b hb,(f2 b hb).2⟩
 refine codeAny_forLoop_any (fun n s'=>∃ i σ' H',Inv X pins σ' H' s'/\tn i s'.heap/\(∀ b∈fp,H' b=none)/\W i n σ' H') ?_ m0 ⟨0,σ,H2,I2,st2,fun b hb=>(f2 b hb).1,w0⟩
 rintro n s3 ⟨i,σ3,H3,I3,st3,fr3,w3⟩
 rcases turn i n σ3 H3 w3 with ⟨stop,qn⟩ | ⟨go,N,hN,step⟩
 ·refine wpAny_passesOwn hp (thn (T.done X rfl rfl rfl hc i pins s3 σ3 H3 X.xe I3 (stat fr3) st3 stop) fun r s4 ⟨hr,I4⟩=>?_)
  subst hr
  exact wpAny_execs_nil ⟨σ3,H3,I4,qn⟩
 ·refine wpAny_passesOwn hp (thn (T.item X rfl rfl rfl hc i pins s3 σ3 H3 X.xe I3 (stat fr3) st3 go) fun r s4 ⟨u,hr,h4⟩=>?_)
  subst hr
  refine wpAny_passesOwn hp (thn h4 fun _ s5 ⟨x,H5,I5,r5,y5,st5,fr5⟩=>?_)
  have I5':=I5.pinned (stat fr5) (T.obj _ _ st5)
  refine wpAny_passesOwn hp (thn (hg _ s5 σ3 H5 x u _ I5' r5 (step x H5 y5)) fun _ s6 ⟨σ6,H6,I6,q6⟩=>?_)
  refine wpAny_passesOwn hp (thn (hb _ s6 σ6 H6 _ I6 q6) fun f s7 q7=>?_)
  have again:∀ {σ7:St} {H7:Hp},Inv X (pins++pinsAt fp s5.heap) σ7 H7 s7->N σ7 H7->∃ m,m < n/\∃ i σ' H',Inv X pins σ' H' s7/\tn i s7.heap/\(∀ b∈fp,H' b=none)/\W i m σ' H':=fun {σ7 H7} I7 n7=>by
   obtain ⟨m',hm,w7⟩:=hN σ7 H7 n7
   refine ⟨m',hm,i + 1,σ7,H7,I7.unpinned,T.keep _ _ _ st5 fun b hb o e=>(I7.pin (b,o) (List.mem_append_right _ (List.mem_append_right _ (mem_pinsAt hb e)))).1,fun b hb=>?_,w7⟩
   obtain ⟨o,e,d⟩:=T.obj _ _ st5 b hb
   exact (I7.pin (b,o) (List.mem_append_right _ (List.mem_append_right _ (mem_pinsAt hb e)))).2.1
  cases f with
  | next=>obtain ⟨σ7,H7,I7,n7⟩:=q7; exact again I7 n7
  | cont=>obtain ⟨σ7,H7,I7,n7⟩:=q7; exact again I7 n7
  | brk=>obtain ⟨σ7,H7,I7,q7⟩:=q7; exact ⟨σ7,H7,I7.unpinned,q7⟩
  | ret v=>obtain ⟨x7,σ7,H7,I7,r7,q7⟩:=q7; exact ⟨x7,σ7,H7,I7.unpinned,r7,q7⟩
end
theorem for_list {K:PySem.W.Frag} {a:Addr} {xs:List V} {g:TG} {tb:TS} {D:Ends} {σ:St} {H:Hp} (Pv:Nat->St->Hp->Prop) (h0:Pv 0 σ H) (hl:∀ i σ H,i<=xs.length->Pv i σ H->SqL K H a xs)
  (hs:∀ i x σ H,xs[i]? = some x->Pv i σ H->g x σ H fun σ2 H2=>tb { D with nx:=Pv (i + 1),ct:=Pv (i + 1),bk:=D.nx } σ2 H2) (hd:∀ σ H,Pv xs.length σ H->D.nx σ H) :
  ∃ W:Nat->Nat->St->Hp->Prop,(∃ m,W 0 m σ H)/\∀ i m σ H,W i m σ H->
   ((Itl K a).stop i H/\D.nx σ H)\/((Itl K a).go i H/\∃ N:St->Hp->Prop,(∀ σ' H',N σ' H'->∃ m',m' < m/\W (i + 1) m' σ' H')/\∀ x H',(Itl K a).yld i H x H'->g x σ H' fun σ2 H2=>tb { D with nx:=N,ct:=N,bk:=D.nx } σ2 H2):=by
 refine ⟨fun i m σ H=>m=xs.length - i/\i<=xs.length/\Pv i σ H,⟨xs.length,by simp,Nat.zero_le _,h0⟩,?_⟩
 rintro i m σ H ⟨rfl,hi,p⟩
 have q:=hl i σ H hi p
 by_cases hlt:i < xs.length
 ·refine .inr ⟨⟨xs,xs[i],q,by simp [hlt]⟩,Pv (i + 1),fun σ' H' p'=>⟨xs.length - (i + 1),by omega,rfl,hlt,p'⟩,fun x H' y=>?_⟩
  obtain ⟨e,y⟩:=y
  subst e
  exact hs i x σ _ (y xs q) p
 ·have e:i=xs.length:=by omega
  subst e
  exact .inl ⟨⟨xs,q,Nat.le_refl _⟩,hd σ H p⟩
theorem for_tup {K:PySem.W.Frag} {a:Addr} {xs:List V} {g:TG} {tb:TS} {D:Ends} {σ:St} {H:Hp} (Pv:Nat->St->Hp->Prop) (h0:Pv 0 σ H) (hl:∀ i σ H,i<=xs.length->Pv i σ H->SqT K H a xs)
  (hs:∀ i x σ H,xs[i]? = some x->Pv i σ H->g x σ H fun σ2 H2=>tb { D with nx:=Pv (i + 1),ct:=Pv (i + 1),bk:=D.nx } σ2 H2) (hd:∀ σ H,Pv xs.length σ H->D.nx σ H) :
  ∃ W:Nat->Nat->St->Hp->Prop,(∃ m,W 0 m σ H)/\∀ i m σ H,W i m σ H->
   ((Itt K a).stop i H/\D.nx σ H)\/((Itt K a).go i H/\∃ N:St->Hp->Prop,(∀ σ' H',N σ' H'->∃ m',m' < m/\W (i + 1) m' σ' H')/\∀ x H',(Itt K a).yld i H x H'->g x σ H' fun σ2 H2=>tb { D with nx:=N,ct:=N,bk:=D.nx } σ2 H2):=by
 refine ⟨fun i m σ H=>m=xs.length - i/\i<=xs.length/\Pv i σ H,⟨xs.length,by simp,Nat.zero_le _,h0⟩,?_⟩
 rintro i m σ H ⟨rfl,hi,p⟩
 have q:=hl i σ H hi p
 by_cases hlt:i < xs.length
 ·refine .inr ⟨⟨xs,xs[i],q,by simp [hlt]⟩,Pv (i + 1),fun σ' H' p'=>⟨xs.length - (i + 1),by omega,rfl,hlt,p'⟩,fun x H' y=>?_⟩
  obtain ⟨e,y⟩:=y
  subst e
  exact hs i x σ _ (y xs q) p
 ·have e:i=xs.length:=by omega
  subst e
  exact .inl ⟨⟨xs,q,Nat.le_refl _⟩,hd σ H p⟩
theorem for_range {lo:Int} {n:Nat} {g:TG} {tb:TS} {D:Ends} {σ:St} {H:Hp} (Pv:Nat->St->Hp->Prop) (h0:Pv 0 σ H)
  (hs:∀ i σ H,i < n->Pv i σ H->g (.int (lo + i)) σ H fun σ2 H2=>tb { D with nx:=Pv (i + 1),ct:=Pv (i + 1),bk:=D.nx } σ2 H2) (hd:∀ σ H,Pv n σ H->D.nx σ H) :
  ∃ W:Nat->Nat->St->Hp->Prop,(∃ m,W 0 m σ H)/\∀ i m σ H,W i m σ H->
   ((Itr lo n).stop i H/\D.nx σ H)\/((Itr lo n).go i H/\∃ N:St->Hp->Prop,(∀ σ' H',N σ' H'->∃ m',m' < m/\W (i + 1) m' σ' H')/\∀ x H',(Itr lo n).yld i H x H'->g x σ H' fun σ2 H2=>tb { D with nx:=N,ct:=N,bk:=D.nx } σ2 H2):=by
 refine ⟨fun i m σ H=>m=n - i/\i<=n/\Pv i σ H,⟨n,by simp,Nat.zero_le _,h0⟩,?_⟩
 rintro i m σ H ⟨rfl,hi,p⟩
 by_cases hlt:i < n
 ·refine .inr ⟨hlt,Pv (i + 1),fun σ' H' p'=>⟨n - (i + 1),by omega,rfl,hlt,p'⟩,fun x H' y=>?_⟩
  obtain ⟨e,y⟩:=y
  subst e y
  exact hs i σ _ hlt p
 ·have e:i=n:=by omega
  subst e
  exact .inl ⟨Nat.le_refl _,hd σ H p⟩
theorem while_by {c:TT} {tb:TS} {D:Ends} {σ:St} {H:Hp} (Pv:St->Hp->Prop) (μ:St->Hp->Nat) (h0:Pv σ H)
  (hs:∀ σ H,Pv σ H->c σ H fun b H1=>if b=true then tb { D with nx:=fun σ' H'=>Pv σ' H'/\μ σ' H' < μ σ H,ct:=fun σ' H'=>Pv σ' H'/\μ σ' H' < μ σ H,bk:=D.nx } σ H1 else D.nx σ H1)
  (mono:∀ σ H Q Q',(∀ b H1,Q b H1->Q' b H1)->c σ H Q->c σ H Q'):tWhile c tb D σ H:=by
 refine ⟨fun m σ H=>m=μ σ H/\Pv σ H,⟨_,rfl,h0⟩,?_⟩
 rintro m σ H ⟨rfl,p⟩
 refine mono σ H _ _ (fun b H1 q=>?_) (hs σ H p)
 cases b with
 | true=>exact ⟨_,fun σ' H' ⟨p',l⟩=>⟨_,l,rfl,p'⟩,q⟩
 | false=>exact q
end L2
namespace L2
open PySem PySem.Spec PyProof.Rows
noncomputable abbrev R2:=V->V->Hp->VK->Prop
noncomputable def OpR (X:Cx) (f:Value->Value->Sem Value) (r:R2):Prop:=
 ∀ (pins:List (Addr × Obj)) (s:Shared) (σ:St) (H:Hp) (x y:V) (v u:Value) (Q:VK),Inv X pins σ H s->RelV x v->RelV y u->r x y H Q->
  wpAny (model X.prog X.w) X.A (f v u) (EP X pins σ Q) X.xe s
noncomputable def UnR (X:Cx) (f:Value->Sem Value) (r:V->Hp->VK->Prop):Prop:=
 ∀ (pins:List (Addr × Obj)) (s:Shared) (σ:St) (H:Hp) (x:V) (v:Value) (Q:VK),Inv X pins σ H s->RelV x v->r x H Q->
  wpAny (model X.prog X.w) X.A (f v) (EP X pins σ Q) X.xe s
noncomputable def CallR (X:Cx) (f:Value) (r:List V->Hp->VK->Prop):Prop:=
 ∀ (pins:List (Addr × Obj)) (s:Shared) (σ:St) (H:Hp) (xs:List V) (us:List Value) (Q:VK),Inv X pins σ H s->Vals xs us->r xs H Q->
  wpAny (model X.prog X.w) X.A (call f us) (EP X pins σ Q) X.xe s
noncomputable def tOp (r:R2) (ta tb:TE):TE:=fun σ H Q=>ta σ H fun x H1=>tb σ H1 fun y H2=>r x y H2 Q
noncomputable def tUn (r:V->Hp->VK->Prop) (ta:TE):TE:=fun σ H Q=>ta σ H fun x H1=>r x H1 Q
noncomputable def rI (C:Int->Int->Prop) (g:Int->Int->V):R2:=fun x y H Q=>∃ i j,x=.int i/\y=.int j/\C i j/\Q (g i j) H
noncomputable def rI0 (g:Int->Int->V):R2:=fun x y H Q=>∃ i j,x=.int i/\y=.int j/\Q (g i j) H
noncomputable def rU (g:Int->V):V->Hp->VK->Prop:=fun x H Q=>∃ i,x=.int i/\Q (g i) H
section
variable {X:Cx} {a b c:Expr} {ta tb tc:TE} {pos:Pos}
theorem binT (ha:PE X a ta) (hb:PE X b tb) {pins:List (Addr × Obj)} {s:Shared} {σ:St} {H:Hp} {R:V->V->Hp->Prop} (I:Inv X pins σ H s)
  (h:ta σ H fun x H1=>tb σ H1 fun y H2=>R x y H2) {Q:Value->Shared->Prop} {f:Value->Value->Sem Value}
  (hf:∀ v u s2 x y H2,Inv X pins σ H2 s2->RelV x v->RelV y u->R x y H2->wpAny (model X.prog X.w) X.A (f v u) Q X.xe s2) :
  wpAny (model X.prog X.w) X.A (eval a X.env) (fun v s₁=>wpAny (model X.prog X.w) X.A (eval b X.env) (fun u s₂=>wpAny (model X.prog X.w) X.A (f v u) Q X.xe s₂) X.xe s₁) X.xe s:=by
 refine thn (ha pins s σ H _ I h) fun v s1 ⟨x,H1,I1,r1,q1⟩=>?_
 refine thn (hb pins s1 σ H1 _ I1 q1) fun u s2 ⟨y,H2,I2,r2,q2⟩=>?_
 exact hf v u s2 x y H2 I2 r1 r2 q2
theorem pe_op {op:Operator} {r:R2} (ho:OpR X (binaryOp op) r) (ha:PE X a ta) (hb:PE X b tb):PE X (.BinOp a op b pos) (tOp r ta tb):=by
 intro pins s σ H Q I h
 exact wpAny_BinOp (binT ha hb I h fun v u s2 x y H2 I2 rx ry q=>ho pins s2 σ H2 x y v u Q I2 rx ry q)
theorem pe_un {op:UnaryOp} {r:V->Hp->VK->Prop} (ho:UnR X (unaryOp op) r) (ha:PE X a ta):PE X (.UnaryOp op a pos) (tUn r ta):=by
 intro pins s σ H Q I h
 exact UnaryOp_ (thn (ha pins s σ H _ I h) fun v s1 ⟨x,H1,I1,r1,q1⟩=>ho pins s1 σ H1 x v Q I1 r1 q1)
theorem opI {f:Value->Value->Sem Value} {C:Int->Int->Prop} {g:Int->Int->Int}
  (rule:∀ (i j:Int) (t u:Tok) (s:Shared) (Q:Value->Shared->Prop) (E:Value->Shared->Prop),C i j->Q (.int (g i j) s.toks) { s with toks:=s.toks + 1 }->wpAny (model X.prog X.w) X.A (f (.int i t) (.int j u)) Q E s) :
  OpR X f (rI C fun i j=>.int (g i j)):=by
 intro pins s σ H x y v u Q I rx ry h
 obtain ⟨i,j,rfl,rfl,hc,q⟩:=h
 obtain ⟨t,rfl⟩:=rx
 obtain ⟨t',rfl⟩:=ry
 exact rule i j t t' s _ _ hc ⟨.int (g i j),H,I.tok _,⟨_,rfl⟩,q⟩
theorem opI0 {f:Value->Value->Sem Value} {g:Int->Int->Int}
  (rule:∀ (i j:Int) (t u:Tok) (s:Shared) (Q:Value->Shared->Prop) (E:Value->Shared->Prop),Q (.int (g i j) s.toks) { s with toks:=s.toks + 1 }->wpAny (model X.prog X.w) X.A (f (.int i t) (.int j u)) Q E s) :
  OpR X f (rI0 fun i j=>.int (g i j)):=by
 intro pins s σ H x y v u Q I rx ry h
 obtain ⟨i,j,rfl,rfl,q⟩:=h
 obtain ⟨t,rfl⟩:=rx
 obtain ⟨t',rfl⟩:=ry
 exact rule i j t t' s _ _ ⟨.int (g i j),H,I.tok _,⟨_,rfl⟩,q⟩
theorem opB0 {f:Value->Value->Sem Value} {g:Int->Int->Bool}
  (rule:∀ (i j:Int) (t u:Tok) (s:Shared) (Q:Value->Shared->Prop) (E:Value->Shared->Prop),Q (.bool (g i j)) s->wpAny (model X.prog X.w) X.A (f (.int i t) (.int j u)) Q E s) :
  OpR X f (rI0 fun i j=>.bl (g i j)):=by
 intro pins s σ H x y v u Q I rx ry h
 obtain ⟨i,j,rfl,rfl,q⟩:=h
 obtain ⟨t,rfl⟩:=rx
 obtain ⟨t',rfl⟩:=ry
 exact rule i j t t' s _ _ ⟨.bl (g i j),H,I,rfl,q⟩
noncomputable def CPow (i j:Int):Prop:=0<=j/\j<=1000000/\i.natAbs < 2 ^ 64
noncomputable def CMul (i j:Int):Prop:=(-(2 ^ 64) < i/\i < 2 ^ 64)\/(-(2 ^ 64) < j/\j < 2 ^ 64)
theorem op_add:OpR X (binaryOp .Add) (rI0 fun i j=>.int (i + j)):=opI0 fun _ _ _ _ _ _ _ q=>add_int q
theorem op_sub:OpR X (binaryOp .Sub) (rI0 fun i j=>.int (i - j)):=opI0 fun _ _ _ _ _ _ _ q=>sub_int q
theorem op_modN:OpR X (binaryOp .Mod) (rI (fun _ j=>j≠0) fun i j=>.int (i.fmod j)):=opI fun _ _ _ _ _ _ _ hc q=>mod_int' hc q
theorem op_pow:OpR X (binaryOp .Pow) (rI CPow fun i j=>.int (i ^ j.toNat)):=opI fun _ _ _ _ _ _ _ hc q=>pow_int_small hc.1 hc.2.1 hc.2.2 q
theorem unI {f:Value->Sem Value} {g:Int->Int}
  (rule:∀ (i:Int) (t:Tok) (s:Shared) (Q:Value->Shared->Prop) (E:Value->Shared->Prop),Q (.int (g i) s.toks) { s with toks:=s.toks + 1 }->wpAny (model X.prog X.w) X.A (f (.int i t)) Q E s) :
  UnR X f (rU fun i=>.int (g i)):=by
 intro pins s σ H x v Q I rx h
 obtain ⟨i,rfl,q⟩:=h
 obtain ⟨t,rfl⟩:=rx
 exact rule i t s _ _ ⟨.int (g i),H,I.tok _,⟨_,rfl⟩,q⟩
theorem un_neg:UnR X (unaryOp .USub) (rU fun i=>.int (-i)):=unI fun _ _ _ _ _ q=>neg_int q
end
noncomputable def scal:V->V->Bool
 | .non,.non=>true | .non,.int _=>true | .int _,.non=>true | .non,.bl _=>true | .bl _,.non=>true | .non,.str _=>true | .str _,.non=>true
 | .int _,.int _=>true | .bl _,.bl _=>true | .str _,.str _=>true | .byt _,.byt _=>true
 | .int _,.str _=>true | .str _,.int _=>true | .bl _,.str _=>true | .str _,.bl _=>true
 | _,_=>false
noncomputable def rEq:R2:=fun x y H Q=>scal x y=true/\Q (.bl (decide (x=y))) H
noncomputable def rNe:R2:=fun x y H Q=>scal x y=true/\Q (.bl (!decide (x=y))) H
theorem dec_int {i j:Int}:decide (V.int i=V.int j)=(i == j):=by
 rw [Bool.eq_iff_iff]
 simp
theorem dec_bl {i j:Bool}:decide (V.bl i=V.bl j)=(i == j):=by
 rw [Bool.eq_iff_iff]
 simp
theorem dec_str {i j:Str}:decide (V.str i=V.str j)=(i == j):=by
 rw [Bool.eq_iff_iff]
 simp
theorem dec_byt {i j:Array UInt8}:decide (V.byt i=V.byt j)=(i.toList == j.toList):=by
 rw [Bool.eq_iff_iff]
 cases i
 cases j
 simp
section
variable {X:Cx} {a b c:Expr} {ta tb tc:TE} {pos:Pos}
theorem fin_bl {pins:List (Addr × Obj)} {σ:St} {H:Hp} {s:Shared} {Q:VK} {k k':Bool} (I:Inv X pins σ H s) (q:Q (.bl k) H) (e:k=k'):EP X pins σ Q (.bool k') s:=by
 subst e
 exact ⟨.bl k,H,I,rfl,q⟩
theorem op_eq:OpR X (compareOp .Eq) rEq:=by
 intro pins s σ H x y v u Q I rx ry h
 obtain ⟨hs,q⟩:=h
 cases x with
 | non=>
  cases rx
  cases y with
  | non=>cases ry; exact PySem.EqNone.eq_none_none (fin_bl I q (by simp))
  | bl j=>cases ry; exact PySem.EqNone.eq_none_bool (fin_bl I q (by simp))
  | int j=>obtain ⟨t',rfl⟩:=ry; exact PySem.EqNone.eq_none_int (fin_bl I q (by simp))
  | str j=>obtain ⟨t',rfl⟩:=ry; exact PySem.EqNone.eq_none_str (fin_bl I q (by simp))
  | _=>exact absurd (show false=true from hs) Bool.false_ne_true
 | bl i=>
  cases rx
  cases y with
  | non=>cases ry; exact PySem.EqNone.eq_bool_none (fin_bl I q (by simp))
  | bl j=>cases ry; exact eq_bool (fin_bl I q dec_bl)
  | str j=>obtain ⟨t',rfl⟩:=ry; exact PySem.EqMixed.eq_bool_str (fin_bl I q (by simp))
  | _=>exact absurd (show false=true from hs) Bool.false_ne_true
 | int i=>
  obtain ⟨t,rfl⟩:=rx
  cases y with
  | non=>cases ry; exact PySem.EqNone.eq_int_none (fin_bl I q (by simp))
  | int j=>obtain ⟨t',rfl⟩:=ry; exact eq_int (fin_bl I q dec_int)
  | str j=>obtain ⟨t',rfl⟩:=ry; exact PySem.EqMixed.eq_int_str (fin_bl I q (by simp))
  | _=>exact absurd (show false=true from hs) Bool.false_ne_true
 | str i=>
  obtain ⟨t,rfl⟩:=rx
  cases y with
  | non=>cases ry; exact PySem.EqNone.eq_str_none (fin_bl I q (by simp))
  | bl j=>cases ry; exact PySem.EqMixed.eq_str_bool (fin_bl I q (by simp))
  | int j=>obtain ⟨t',rfl⟩:=ry; exact PySem.EqMixed.eq_str_int (fin_bl I q (by simp))
  | str j=>obtain ⟨t',rfl⟩:=ry; exact eq_str (fin_bl I q dec_str)
  | _=>exact absurd (show false=true from hs) Bool.false_ne_true
 | byt i=>
  obtain ⟨t,rfl⟩:=rx
  cases y with
  | byt j=>obtain ⟨t',rfl⟩:=ry; exact PySem.W.eq_bytes (fin_bl I q dec_byt)
  | _=>exact absurd (show false=true from hs) Bool.false_ne_true
 | _=>cases y <;> exact absurd (show false=true from hs) Bool.false_ne_true
theorem op_ne:OpR X (compareOp .NotEq) rNe:=by
 intro pins s σ H x y v u Q I rx ry h
 obtain ⟨hs,q⟩:=h
 cases x with
 | non=>
  cases rx
  cases y with
  | non=>cases ry; exact PySem.EqNone.ne_none_none (fin_bl I q (by simp))
  | bl j=>cases ry; exact PySem.EqNone.ne_none_bool (fin_bl I q (by simp))
  | int j=>obtain ⟨t',rfl⟩:=ry; exact PySem.EqNone.ne_none_int (fin_bl I q (by simp))
  | str j=>obtain ⟨t',rfl⟩:=ry; exact PySem.EqNone.ne_none_str (fin_bl I q (by simp))
  | _=>exact absurd (show false=true from hs) Bool.false_ne_true
 | bl i=>
  cases rx
  cases y with
  | non=>cases ry; exact PySem.EqNone.ne_bool_none (fin_bl I q (by simp))
  | bl j=>cases ry; exact ne_bool (fin_bl I q (congrArg not dec_bl))
  | str j=>obtain ⟨t',rfl⟩:=ry; exact PySem.EqMixed.ne_bool_str (fin_bl I q (by simp))
  | _=>exact absurd (show false=true from hs) Bool.false_ne_true
 | int i=>
  obtain ⟨t,rfl⟩:=rx
  cases y with
  | non=>cases ry; exact PySem.EqNone.ne_int_none (fin_bl I q (by simp))
  | int j=>obtain ⟨t',rfl⟩:=ry; exact ne_int (fin_bl I q (congrArg not dec_int))
  | str j=>obtain ⟨t',rfl⟩:=ry; exact PySem.EqMixed.ne_int_str (fin_bl I q (by simp))
  | _=>exact absurd (show false=true from hs) Bool.false_ne_true
 | str i=>
  obtain ⟨t,rfl⟩:=rx
  cases y with
  | non=>cases ry; exact PySem.EqNone.ne_str_none (fin_bl I q (by simp))
  | bl j=>cases ry; exact PySem.EqMixed.ne_str_bool (fin_bl I q (by simp))
  | int j=>obtain ⟨t',rfl⟩:=ry; exact PySem.EqMixed.ne_str_int (fin_bl I q (by simp))
  | str j=>obtain ⟨t',rfl⟩:=ry; exact ne_str (fin_bl I q (congrArg not dec_str))
  | _=>exact absurd (show false=true from hs) Bool.false_ne_true
 | byt i=>
  obtain ⟨t,rfl⟩:=rx
  cases y with
  | byt j=>obtain ⟨t',rfl⟩:=ry; exact PySem.W.ne_bytes (fin_bl I q (congrArg not dec_byt))
  | _=>exact absurd (show false=true from hs) Bool.false_ne_true
 | _=>cases y <;> exact absurd (show false=true from hs) Bool.false_ne_true
theorem op_lt:OpR X (compareOp .Lt) (rI0 fun i j=>.bl (decide (i < j))):=opB0 fun _ _ _ _ _ _ _ q=>lt_int q
theorem op_le:OpR X (compareOp .LtE) (rI0 fun i j=>.bl (decide (i<=j))):=opB0 fun _ _ _ _ _ _ _ q=>le_int q
theorem op_gt:OpR X (compareOp .Gt) (rI0 fun i j=>.bl (decide (j < i))):=opB0 fun _ _ _ _ _ _ _ q=>gt_int q
theorem op_ge:OpR X (compareOp .GtE) (rI0 fun i j=>.bl (decide (j<=i))):=opB0 fun _ _ _ _ _ _ _ q=>ge_int q
theorem nomark (b:Expr) {op:CmpOp} (h:op≠.In:=by decide) (h2:op≠.NotIn:=by decide):behindInMarks op b=false:=by
 have e1:(op == CmpOp.In)=false:=by cases op <;> first | rfl | exact absurd rfl h
 have e2:(op == CmpOp.NotIn)=false:=by cases op <;> first | rfl | exact absurd rfl h2
 cases b <;> simp [behindInMarks,e1,e2]
theorem pe_cmpR {op:CmpOp} {r:R2} (ho:OpR X (compareOp op) r) (ha:PE X a ta) (hb:PE X b tb) (hm:behindInMarks op b=false):PE X (.Compare a [op] [b] pos) (tOp r ta tb):=by
 intro pins s σ H Q I h
 exact wpAny_Compare1 (binT ha hb I h fun v u s2 x y H2 I2 rx ry q=>ho pins s2 σ H2 x y v u Q I2 rx ry q) hm
noncomputable def tTest (t:TE):TT:=fun σ H Q=>t σ H fun x H'=>∃ k,x=.bl k/\Q k H'
theorem pt_cmpR {op:CmpOp} {r:R2} (ho:OpR X (compareOp op) r) (ha:PE X a ta) (hb:PE X b tb) (hm:behindInMarks op b=false):PT X (.Compare a [op] [b] pos) (tTest (tOp r ta tb)):=by
 intro pins s σ H Q I h
 refine wpAny_isTrue_Compare1 (thn (ha pins s σ H _ I h) fun v s1 ⟨x,H1,I1,r1,q1⟩=>thn (hb pins s1 σ H1 _ I1 q1) fun u s2 ⟨y,H2,I2,r2,q2⟩=>
  thn (ho pins s2 σ H2 x y v u _ I2 r1 r2 q2) fun c s3 ⟨z,H3,I3,r3,k,e,q3⟩=>?_) hm
 subst e
 cases r3
 exact wpAny_truthy_bool ⟨H3,I3,q3⟩
theorem line63:(sizeLine:Nat) < 2 ^ 63:=by rw [sizeLine_eq]; decide
theorem vals1 {x:V} {us:List Value} (r:Vals [x] us):∃ u,us=[u]/\RelV x u:=by
 cases r with
 | cons r1 r2=>cases r2; exact ⟨_,rfl,r1⟩
theorem vals2 {x y:V} {us:List Value} (r:Vals [x,y] us):∃ u w',us=[u,w']/\RelV x u/\RelV y w':=by
 cases r with
 | cons r1 r2=>
  cases r2 with
  | cons r3 r4=>cases r4; exact ⟨_,_,rfl,r1,r3⟩
theorem call_abs:CallR X (.builtin "abs") (fun xs H Q=>∃ i,xs=[.int i]/\Q (.int (if i < 0 then -i else i)) H):=by
 intro pins s σ H xs us Q I r h
 obtain ⟨i,rfl,q⟩:=h
 obtain ⟨u,rfl,t,rfl⟩:=vals1 r
 exact call_abs_int fun u tk=>⟨.int (if i < 0 then -i else i),H,I.tok _,⟨_,rfl⟩,q⟩
theorem call_int1:CallR X (.type "int") (fun xs H Q=>(∃ i,xs=[.int i]/\Q (.int i) H)\/∃ k,xs=[.bl k]/\Q (.int (if k then 1 else 0)) H):=by
 intro pins s σ H xs us Q I r h
 rcases h with ⟨i,rfl,q⟩ | ⟨k,rfl,q⟩
 ·obtain ⟨u,rfl,t,rfl⟩:=vals1 r
  exact call_int_int ⟨.int i,H,I,⟨_,rfl⟩,q⟩
 ·obtain ⟨u,rfl,r1⟩:=vals1 r
  cases r1
  exact call_int_bool ⟨.int (if k then 1 else 0),H,I.tok _,⟨_,rfl⟩,q⟩
end
end L2
namespace L2
open PySem PySem.Spec PyProof.Rows
structure ObjM (h:Heap) (x dx C:Addr) (mA:Str->Option Value):Prop where
 obj:h.get? x=some (PySem.W.instObj C dx)
 ns:h.Ns1 dx mA
 ne:dx≠x
theorem lookIn_ns {h:Heap} {dx:Addr} {mA:Str->Option Value} (n:h.Ns1 dx mA):∃ od,h.get? dx=some od/\∀ name,PySem.W.lookIn name od=some (mA name):=by
 obtain ⟨o,es,ep,ho,hd,hk,_,hm⟩:=n
 refine ⟨o,ho,fun name=>?_⟩
 have e:=hm name
 unfold nsFind findBy at e
 rw [<- Array.find?_toList] at e
 unfold PySem.W.lookIn
 rw [hd]
 dsimp only
 split
 ·rename_i y q
  rw [q] at e
  exact congrArg some e
 ·rename_i q
  rw [q] at e
  have a:es.toList.any (·.refKey)=false:=by
   rw [List.any_eq_false]
   intro y hy
   obtain ⟨z,t,hkey⟩:=hk y (Array.mem_toList_iff.mp hy)
   simp [DictEntry.refKey,hkey]
  have a':¬ es.toList.any (·.refKey)=true:=by rw [a]; exact Bool.false_ne_true
  rw [if_neg a']
  exact congrArg some e
theorem ObjM.look {h:Heap} {x dx C:Addr} {mA:Str->Option Value} (I:ObjM h x dx C mA):∃ od,PySem.W.InstAt h x (PySem.W.instObj C dx) C (some od)/\∀ name,PySem.W.lookIn name od=some (mA name):=
 let ⟨od,ho,hl⟩:=lookIn_ns I.ns
 ⟨od,⟨I.obj,rfl,rfl,ho⟩,hl⟩
section
variable {prog:Program} {w:World} {A:Around} {E:Value->Shared->Prop} {s:Shared} {K:PySem.W.Frag} {x dx C f:Addr} {mA:Str->Option Value} {name:Str} {v:Value}
theorem get_map {expr:Bool} {Q:Value->Shared->Prop} (X:K.In s.heap) (I:ObjM s.heap x dx C mA) (hg:PySem.W.plainGet K C name=true) (hh:PySem.W.hasDictIn K C=true)
  (ha:PySem.W.findIn K (.ref C) name=some none) (hv:mA name=some v) (hv':PySem.W.handedIn v=true) (h:Q v { s with toks:=s.toks + 1 }) :
  wpAny (model prog w) A (getAttr (.ref x) name expr) Q E s:=by
 obtain ⟨od,J,hl⟩:=I.look
 exact PySem.W.get_value X J (PySem.W.plainGet_of hg).1 (PySem.W.findObj_own hh ha rfl (by rw [hl,hv])) hv' h
theorem get_meth {pl:Sem Bool} {Q:Value × List Value->Shared->Prop} (X:K.In s.heap) (I:ObjM s.heap x dx C mA) (hg:PySem.W.plainGet K C name=true)
  (hf:PySem.W.findIn K (.ref C) name=some (some (.ref f))) (ht:PySem.W.isFn K (.ref f)=true) (hv:mA name=none) (h:Q (.ref f,[.ref x]) s) :
  wpAny (model prog w) A (getMethod (.ref x) name pl) Q E s:=by
 obtain ⟨od,J,hl⟩:=I.look
 exact PySem.W.method_fn X J (PySem.W.plainGet_of hg).1 (PySem.W.plainGet_of hg).2 hf (beq_iff_eq.mp ht) (by show (PySem.W.lookIn name od).map (·.isSome)=some false; rw [hl,hv]; rfl) h
theorem set_map {ns:List Str} {Q:Unit->Shared->Prop} (X:K.In s.heap) (I:ObjM s.heap x dx C mA)
  (hs:PySem.W.findIn K (.ref C) "__setattr__" = some (some (.builtin "object.__setattr__"))) (hp:PySem.W.plainOver K C=true) (ht:PySem.W.takerIn K C name=some none) (hh:PySem.W.hasDictIn K C=true)
  (hw:PySem.Within mA ns) (hsz:ns.length<=sizeLine)
  (h:∀ h',ObjM h' x dx C (fun y=>if y=name then some v else mA y)->Heap.SameBut dx s.heap h'->Q () { s with heap:=h',toks:=s.toks + 2 }) :
  wpAny (model prog w) A (setAttr (.ref x) name v) Q E s:=by
 obtain ⟨od,J,hl⟩:=I.look
 refine PySem.W.set_plain X J hs (PySem.W.osa_open (s:={ s with toks:=s.toks + 1 }) (r:=none) X J hp ht fun b=>?_)
 obtain ⟨cd,hc,hd'⟩:=PySem.W.any_some hh
 have hx:s.heap.get? x=some ⟨.ref C,some dx,.plain,#[]⟩:=I.obj
 refine wpAny_bind (wpAny_pure (wpAny_bind (wpAny_bind (wpAny_loadPart hx (wpAny_bind (PySem.W.Looks.here (s:={ s with toks:=s.toks + 1 }) (PySem.W.looks_clsIn X hc) ?_))))))
 rw [hd']
 refine wpAny_pure (a:=some dx) (wpAny_bind (wpAny_pure (wpAny_bind ?_)))
 refine wpAny_nsSet1 (s:={ s with toks:=s.toks + 1 }) I.ns fun h' hn2 hs2=>?_
 obtain ⟨oD,esD,epD,hoD,hdD,hcD⟩:=hn2.count (PySem.Within.cons name v hw)
 refine wpAny_bind (wpAny_lookBehind hoD (by rw [hdD]; exact pastItsLine_dict (Nat.le_trans hcD (by rw [List.length_cons]; omega))) ?_)
 exact wpAny_pure (h _ ⟨(hs2.2 _ (Ne.symm I.ne)).trans I.obj,hn2,I.ne⟩ hs2)
theorem make_map {R:Result->Shared->Prop} {vs:List Value} {kw:List (Str × Value)} (X:K.In s.heap) (hm:PySem.W.makesIn K C=true)
  (hi:PySem.W.findIn K (.ref C) "__init__" = some (some (.ref f))) (hf:PySem.W.typeIn K (.ref f)=some (.type "function"))
  (h:codeAny (model prog w) (A.under (.builtin "type.__call__" ⟨.ref C :: vs,kw⟩)) (.call (.ref f) ⟨.ref (s.heap.objs.size + 1) :: vs,kw⟩) (PySem.W.InitBack (s.heap.objs.size + 1) R)
   { s with heap:=(s.heap.push PySem.W.emptyDict).push (PySem.W.instObj C s.heap.objs.size) }) :
  codeAny (model prog w) A (.call (.ref C) ⟨vs,kw⟩) R s:=by
 obtain ⟨hh,g,d,t,os⟩:=s
 exact PySem.W.make_core (PySem.W.makes_of X hm) (PySem.W.looks_findIn X hi) (fun self=>PySem.W.bind_fn X self hf) (.inl rfl) h
end
noncomputable def putF (f:Str) (v:V):List (Str × V)->List (Str × V)
 | []=>[(f,v)]
 | (g,x) :: r=>if g=f then (g,v) :: r else (g,x) :: putF f v r
theorem lookup_putF (f g:Str) (v:V):∀ fs:List (Str × V),(putF f v fs).lookup g=if g=f then some v else fs.lookup g
 | []=>by
  show List.lookup g [(f,v)]=_
  by_cases h:g=f
  ·have hb:(g == f)=true:=beq_iff_eq.mpr h
   simp only [List.lookup,hb,if_pos h]
  ·have hb:(g == f)=false:=beq_eq_false_iff_ne.mpr h
   simp only [List.lookup,hb,if_neg h]
 | (k,x) :: r=>by
  have ih:=lookup_putF f g v r
  rw [show putF f v ((k,x) :: r)=(if k=f then (k,v) :: r else (k,x) :: putF f v r) from rfl]
  by_cases hk:k=f
  ·rw [if_pos hk]
   by_cases h:g=k
   ·have hb:(g == k)=true:=beq_iff_eq.mpr h
    simp only [List.lookup,hb,if_pos (h.trans hk)]
   ·have hb:(g == k)=false:=beq_eq_false_iff_ne.mpr h
    simp only [List.lookup,hb,if_neg (fun e:g=f=>h (e.trans hk.symm))]
  ·rw [if_neg hk]
   by_cases h:g=k
   ·have hb:(g == k)=true:=beq_iff_eq.mpr h
    simp only [List.lookup,hb,if_neg (fun e:g=f=>hk (h.symm.trans e))]
   ·have hb:(g == k)=false:=beq_eq_false_iff_ne.mpr h
    simp only [List.lookup,hb]
    exact ih
theorem keys_putF (f:Str) (v:V):∀ fs:List (Str × V),f∈(putF f v fs).map (·.1)/\∀ g,g∈fs.map (·.1)->g∈(putF f v fs).map (·.1)
 | []=>⟨by simp [putF],fun g h=>by simp at h⟩
 | (k,x) :: r=>by
  obtain ⟨i1,i2⟩:=keys_putF f v r
  rw [show putF f v ((k,x) :: r)=(if k=f then (k,v) :: r else (k,x) :: putF f v r) from rfl]
  by_cases hk:k=f
  ·rw [if_pos hk]
   subst hk
   exact ⟨by simp,fun g h=>by simpa using h⟩
  ·rw [if_neg hk]
   refine ⟨?_,fun g h=>?_⟩
   ·rw [List.map_cons]
    exact List.mem_cons_of_mem _ i1
   ·rw [List.map_cons] at h |-
    rcases List.mem_cons.mp h with e | e
    ·exact List.mem_cons.mpr (.inl e)
    ·exact List.mem_cons_of_mem _ (i2 g e)
theorem length_putF (f:Str) (v:V):∀ fs:List (Str × V),(putF f v fs).length<=fs.length + 1
 | []=>by simp [putF]
 | (k,x) :: r=>by
  have ih:=length_putF f v r
  rw [show putF f v ((k,x) :: r)=(if k=f then (k,v) :: r else (k,x) :: putF f v r) from rfl]
  by_cases hk:k=f
  ·rw [if_pos hk,List.length_cons,List.length_cons]; omega
  ·rw [if_neg hk,List.length_cons,List.length_cons]; omega
theorem RelO.some_of {v:V} {o:Option Value} (r:RelO (some v) o):∃ u,o=some u/\RelV v u:=by
 cases o with
 | none=>exact (show False from r).elim
 | some u=>exact ⟨u,rfl,r⟩
theorem RelO.none_of {o:Option Value} (r:RelO none o):o=none:=by
 cases o with
 | none=>rfl
 | some u=>exact (show False from r).elim
theorem handed_of {v:V} {u:Value} (r:RelV v u):PySem.W.handedIn u=true:=by
 cases v with
 | non=>cases (show u=Value.none from r); rfl
 | bl b=>cases (show u=Value.bool b from r); rfl
 | int i=>obtain ⟨t,e⟩:=(show ∃ t,u=Value.int i t from r); cases e; rfl
 | str x=>obtain ⟨t,e⟩:=(show ∃ t,u=Value.str x t from r); cases e; rfl
 | byt b=>obtain ⟨t,e⟩:=(show ∃ t,u=Value.bytes b t from r); cases e; rfl
 | flt b=>obtain ⟨t,e⟩:=(show ∃ t,u=Value.float b t from r); cases e; rfl
 | ref a=>cases (show u=Value.ref a from r); rfl
 | ty n=>cases (show u=Value.type n from r); rfl
section
variable {P:Program} {w:World} {H H':Hp} {h h':Heap} {a C dx:Addr} {fs fs':List (Str × V)}
theorem ins_get (hok:HOk P w H h) (e:H a=some (.ins C dx fs)):∃ mA,ObjM h a dx C mA/\(∀ f,RelO (fs.lookup f) (mA f))/\PySem.Within mA (fs.map (·.1))/\fs.length<=1000/\H dx=some (.own a):=by
 obtain ⟨d,z,ne,ob,mA,n,r,q⟩:=(show ObjOk P w H h a (.ins C dx fs) from hok a _ e)
 exact ⟨mA,⟨ob,n,ne⟩,r,q,z,d⟩
end
structure Cls (K:PySem.W.Frag) (C:Addr):Prop where
 pg:PySem.W.plainGet K C Str.empty=true
 hd:PySem.W.hasDictIn K C=true
 po:PySem.W.plainOver K C=true
 sa:PySem.W.findIn K (.ref C) "__setattr__" = some (some (.builtin "object.__setattr__"))
theorem Cls.get {K:PySem.W.Frag} {C:Addr} (c:Cls K C) (f:Str):PySem.W.plainGet K C f=true:=c.pg
noncomputable def NoAttr (K:PySem.W.Frag) (C:Addr) (f:Str):Prop:=PySem.W.findIn K (.ref C) f=some none
theorem NoAttr.taker {K:PySem.W.Frag} {C:Addr} {f:Str} (n:NoAttr K C f):PySem.W.takerIn K C f=some none:=by
 unfold PySem.W.takerIn
 rw [show PySem.W.findIn K (.ref C) f=some none from n]
 rfl
structure Meth (K:PySem.W.Frag) (C:Addr) (m:Str) (f:Addr):Prop where
 at_:PySem.W.findIn K (.ref C) m=some (some (.ref f))
 fn:PySem.W.isFn K (.ref f)=true
 kp:PySem.W.keepIn K (.ref f)=true
section
variable {X:Cx} {pins:List (Addr × Obj)} {σ:St} {H:Hp} {s:Shared} {a C dx:Addr} {fs:List (Str × V)} {f:Str} {v:V} {A:Around} {E:Value->Shared->Prop}
theorem getattr_ok {b:Bool} {Q:Value->Shared->Prop} (I:Inv X pins σ H s) (e:H a=some (.ins C dx fs)) (c:Cls X.K C) (n:NoAttr X.K C f) (l:fs.lookup f=some v)
  (h:∀ u s',Inv X pins σ H s'->RelV v u->Q u s'):wpAny (model X.prog X.w) A (getAttr (.ref a) f b) Q E s:=by
 obtain ⟨mA,O,r,_,_,_⟩:=ins_get I.hok e
 obtain ⟨u,hu,ru⟩:=RelO.some_of (v:=v) (o:=mA f) (by rw [<- l]; exact r f)
 exact get_map I.kIn O (c.get f) c.hd n hu (handed_of ru) (h u _ (I.tok _) ru)
theorem getmeth_ok {m:Str} {g:Addr} {pl:Sem Bool} {Q:Value × List Value->Shared->Prop} (I:Inv X pins σ H s) (e:H a=some (.ins C dx fs)) (c:Cls X.K C) (k:Meth X.K C m g) (l:fs.lookup m=none)
  (h:Q (.ref g,[.ref a]) s):wpAny (model X.prog X.w) A (getMethod (.ref a) m pl) Q E s:=by
 obtain ⟨mA,O,r,_,_,_⟩:=ins_get I.hok e
 have hn:mA m=none:=RelO.none_of (by rw [<- l]; exact r m)
 exact get_meth I.kIn O (c.get m) k.at_ k.fn hn h
theorem setattr_ok {y:V} {u:Value} {Q:Unit->Shared->Prop} (I:Inv X pins σ H s) (e:H a=some (.ins C dx fs)) (c:Cls X.K C) (n:NoAttr X.K C f) (hl:fs.length < 1000) (ry:RelV y u)
  (h:∀ s',Inv X pins σ (upd H a (.ins C dx (putF f y fs))) s'->Q () s'):wpAny (model X.prog X.w) A (setAttr (.ref a) f u) Q E s:=by
 obtain ⟨mA,O,r,wi,_,ho⟩:=ins_get I.hok e
 have hz:(fs.map (·.1)).length<=sizeLine:=by rw [List.length_map,sizeLine_eq]; omega
 refine set_map I.kIn O c.sa c.po n.taker c.hd wi hz fun h' O' sb=>h _ ?_
 have hd:∃ o,h'.get? dx=some o:=let ⟨o,_,_,e',_⟩:=O'.ns; ⟨o,e'⟩
 refine I.write (x:=a) (e:=dx) (by rw [e]; exact True.intro) (.inr ho) (fun b q hb z=>(sb.2 b hb).trans z) hd ?_
 refine ⟨by rw [upd_ne O.ne]; exact ho,?_,O.ne,O'.obj,_,O'.ns,fun g=>?_,fun g hg=>?_⟩
 ·have:=length_putF f y fs; omega
 ·show RelO ((putF f y fs).lookup g) (if g=f then some u else mA g)
  rw [lookup_putF]
  by_cases q:g=f
  ·rw [if_pos q,if_pos q]; exact ry
  ·rw [if_neg q,if_neg q]; exact r g
 ·by_cases q:g=f
  ·rw [q]; exact (keys_putF f y fs).1
  ·refine (keys_putF f y fs).2 g (wi g fun z=>hg ?_)
   show (if g=f then some u else mA g)=none
   rw [if_neg q]; exact z
theorem Inv.made (I:Inv X pins σ H s):Inv X pins σ (upd (upd H s.heap.objs.size (.own (s.heap.objs.size + 1))) (s.heap.objs.size + 1) (.ins C s.heap.objs.size []))
  { s with heap:=(s.heap.push PySem.W.emptyDict).push (PySem.W.instObj C s.heap.objs.size) }:=by
 have e1:(s.heap.push PySem.W.emptyDict).get? s.heap.objs.size=some PySem.W.emptyDict:=Heap.get?_push_size s.heap rfl
 have e2:((s.heap.push PySem.W.emptyDict).push (PySem.W.instObj C s.heap.objs.size)).get? (s.heap.objs.size + 1)=some (PySem.W.instObj C s.heap.objs.size):=by
  have:=Heap.get?_push_size (s.heap.push PySem.W.emptyDict) (o:=PySem.W.instObj C s.heap.objs.size) rfl
  rwa [Heap.size_push] at this
 have e3:(s.heap.push PySem.W.emptyDict).Ns s.heap.objs.size (fun _=>none):=⟨PySem.W.emptyDict,#[],_,e1,rfl,(fun e he=>absurd he (by simp)),fun _=>rfl⟩
 have I1:=I.laid (a:=s.heap.objs.size) (o:=.own (s.heap.objs.size + 1)) (h':=s.heap.push PySem.W.emptyDict) (t':=s.toks) (fun b u q=>Heap.get?_push_of_some _ q) (Nat.le_refl _) ⟨_,e1⟩
 refine I1.laid (a:=s.heap.objs.size + 1) (o:=.ins C s.heap.objs.size []) (t':=s.toks) (fun b u q=>Heap.get?_push_of_some _ q) (Nat.le_of_eq (Heap.size_push _ _)) ?_
 have ne:s.heap.objs.size≠s.heap.objs.size + 1:=Nat.ne_of_lt (Nat.lt_succ_self _)
 refine ⟨by rw [upd_ne ne,upd_same],Nat.zero_le _,ne,e2,fun _=>none,(Heap.Ns1.of_empty e3).at fun o q=>Heap.get?_push_of_some _ q,fun _=>True.intro,fun y hy=>absurd rfl hy⟩
theorem attr_of {prog:Program} {w:World} {env:Env} {e:Expr} {f:Str} {pos:Pos} {s:Shared} {Q:Value->Shared->Prop} (hb:attributeBase e f env (eval e env)=eval e env)
  (h:wpAny (model prog w) A (eval e env) (fun o s₁=>wpAny (model prog w) A (getAttr o f true) Q E s₁) E s):wpAny (model prog w) A (eval (.Attribute e f pos) env) Q E s:=
 Attribute_any_ h (by rw [arm_eval_Attribute,hb])
end
noncomputable def tFld (K:PySem.W.Frag) (ta:TE) (f:Str):TE:=fun σ H Q=>ta σ H fun x H1=>∃ a C dx fs v,x=.ref a/\H1 a=some (.ins C dx fs)/\Cls K C/\NoAttr K C f/\fs.lookup f=some v/\Q v H1
noncomputable def sFld (K:PySem.W.Frag) (ta tv:TE) (f:Str):TS:=fun D σ H=>tv σ H fun y H1=>ta σ H1 fun x H2=>∃ a C dx fs,x=.ref a/\H2 a=some (.ins C dx fs)/\Cls K C/\NoAttr K C f/\fs.length < 1000∧
 D.nx σ (upd H2 a (.ins C dx (putF f y fs)))
section
variable {X:Cx} {o e value:Expr} {f:Str} {pos pos' tpos:Pos} {ta tv:TE}
theorem pe_fld (he:PE X e ta) (hb:attributeBase e f X.env (eval e X.env)=eval e X.env):PE X (.Attribute e f pos) (tFld X.K ta f):=by
 intro pins s σ H Q I h
 refine attr_of hb (thn (he pins s σ H _ I h) fun u s1 ⟨x,H1,I1,rx,a,C,dx,fs,v,ex,ea,c,n,l,q⟩=>?_)
 subst ex
 obtain rfl:u=Value.ref a:=rx
 exact getattr_ok I1 ea c n l fun u' s2 I2 ru=>⟨v,H1,I2,ru,q⟩
theorem ps_fld (ha:PE X o ta) (hv:PE X value tv) (hs:swapsWith value (some (.Attribute o f pos')) pos.line X.env=pure false):PS X (.Assign [.Attribute o f pos'] value pos) (sFld X.K ta tv f):=by
 intro pins s σ H D I h
 refine plainObj_wpAny_Assign_Attribute (thn (hv pins s σ H _ I h) fun u s1 ⟨y,H1,I1,ry,q⟩=>thn (ha pins s1 σ H1 _ I1 q) fun ov s2 ⟨x,H2,I2,rx,a,C,dx,fs,ex,ea,c,n,l,q2⟩=>?_) hs
 subst ex
 obtain rfl:ov=Value.ref a:=rx
 exact setattr_ok I2 ea c n l ry fun s3 I3=>⟨σ,_,I3,q2⟩
end
section
variable {X:Cx} {pins:List (Addr × Obj)} {σ:St} {H:Hp} {s:Shared} {A:Around} {E:Value->Shared->Prop} {Q:Value->Shared->Prop} {c:Value} {b:Bool}
inductive TyOf (K:PySem.W.Frag) (H:Hp):V->Value->Prop where
 | non:TyOf K H .non (.type "NoneType")
 | bl (x:Bool):TyOf K H (.bl x) (.type "bool")
 | int (i:Int):TyOf K H (.int i) (.type "int")
 | str (x:Str):TyOf K H (.str x) (.type "str")
 | flt (x:UInt64):TyOf K H (.flt x) (.type "float")
 | lst {a:Addr} {xs:List V} (e:H a=some (.lst xs)):TyOf K H (.ref a) (.type "list")
 | frz {a:Addr} {o:Obj} {xs:List V} (e:H a=some (.frz o (.lst xs))):TyOf K H (.ref a) (.type "list")
 | tup {a:Addr} {xs:List V} (e:H a=some (.tup xs)):TyOf K H (.ref a) (.type "tuple")
 | dK {a:Addr} {kvs:List (Key × V)} (e:H a=some (.dK kvs)):TyOf K H (.ref a) (.type "dict")
 | dT {a:Addr} {kvs:List (List Key × V)} (e:H a=some (.dT kvs)):TyOf K H (.ref a) (.type "dict")
 | ins {a C dx:Addr} {fs:List (Str × V)} (e:H a=some (.ins C dx fs)) (cl:Cls K C) (ha:PySem.W.findIn K (.ref C) "__class__" = some (some (.builtin "object.__class__")))
   (hn:PySem.W.specialIn K (.builtin "object.__class__") "__get__" = some (some (.builtin "getset_descriptor.__get__"))) (htk:PySem.W.takesIn K (.builtin "object.__class__")=some true)
   (hm:PySem.W.mroIn K C (.type "object")=some true):TyOf K H (.ref a) (.ref C)
theorem isinst_ok {x:V} {u t:Value} (I:Inv X pins σ H s) (rx:RelV x u) (ty:TyOf X.K H x t) (e:PySem.W.kitOne X.K t c=some b) (h:∀ tk,Q (.bool b) { s with toks:=tk }) :
  wpAny (model X.prog X.w) A (call (.builtin "isinstance") [u,c]) Q E s:=by
 cases ty with
 | non=>cases (show u=Value.none from rx); exact PySem.W.kia_one PySem.W.kitx_none I.kIn True.intro e (fun z=>nomatch z) h
 | bl y=>cases (show u=Value.bool y from rx); exact PySem.W.kia_one PySem.W.kitx_bool I.kIn True.intro e (fun z=>nomatch z) h
 | int i=>obtain ⟨t,q⟩:=(show ∃ t,u=Value.int i t from rx); cases q; exact PySem.W.kia_one PySem.W.kitx_int I.kIn True.intro e (fun z=>nomatch z) h
 | str y=>obtain ⟨t,q⟩:=(show ∃ t,u=Value.str y t from rx); cases q; exact PySem.W.kia_one PySem.W.kitx_str I.kIn True.intro e (fun z=>nomatch z) h
 | flt y=>obtain ⟨t,q⟩:=(show ∃ t,u=Value.float y t from rx); cases q; exact PySem.W.kia_one PySem.W.kitx_float I.kIn True.intro e (fun z=>nomatch z) h
 | @lst a xs ea=>
  cases (show u=Value.ref a from rx)
  obtain ⟨_,_,n,_,h1⟩:=(show ObjOk X.prog X.w H s.heap a (.lst xs) from I.hok a _ ea)
  exact PySem.W.kia_one PySem.W.kitx_list I.kIn ⟨_,h1,rfl⟩ e (fun z=>nomatch z) h
 | @frz a ob xs ea=>
  cases (show u=Value.ref a from rx)
  obtain ⟨_,_,_,n,_,h1⟩:=(show ObjOk X.prog X.w H s.heap a (.frz ob (.lst xs)) from I.hok a _ ea)
  exact PySem.W.kia_one PySem.W.kitx_list I.kIn ⟨_,h1,rfl⟩ e (fun z=>nomatch z) h
 | @tup a xs ea=>
  cases (show u=Value.ref a from rx)
  obtain ⟨_,_,_,p⟩:=(show ObjOk X.prog X.w H s.heap a (.tup xs) from I.hok a _ ea)
  obtain ⟨o,h1,h2,_⟩:=p
  exact PySem.W.kia_one PySem.W.kitx_tuple I.kIn ⟨o,h1,h2⟩ e (fun z=>nomatch z) h
 | @dK a kvs ea=>
  cases (show u=Value.ref a from rx)
  obtain ⟨_,_,vs,_,p⟩:=(show ObjOk X.prog X.w H s.heap a (.dK kvs) from I.hok a _ ea)
  obtain ⟨o,es,ep,h1,h2,_⟩:=p
  exact PySem.W.kia_one PySem.W.kitx_dict I.kIn ⟨o,h1,h2.1⟩ e (fun z=>nomatch z) h
 | @dT a kvs ea=>
  cases (show u=Value.ref a from rx)
  obtain ⟨_,_,xs,_,o,es,ep,h1,h2,_⟩:=(show ObjOk X.prog X.w H s.heap a (.dT kvs) from I.hok a _ ea)
  exact PySem.W.kia_one PySem.W.kitx_dict I.kIn ⟨o,h1,h2.1⟩ e (fun z=>nomatch z) h
 | @ins a C dx fs ea cl ha hn htk hm=>
  cases (show u=Value.ref a from rx)
  obtain ⟨mA,O,_⟩:=ins_get I.hok ea
  obtain ⟨od,J,_⟩:=O.look
  exact PySem.W.kia_one (PySem.W.kitx_own (cl.get _) cl.hd ha hn htk hm) I.kIn J e (fun z=>nomatch z) h
end
end L2
namespace L2
open PySem PySem.Spec PyProof.Rows
structure Room (k:Nat) (A:Around):Prop where
 hd:A.handled=none
 dp:A.depth + 3 * k + 5 < recursionLimit
 un:A.units + 16 * k + 200 < cLine
theorem Room.mono {j k:Nat} {A:Around} (r:Room k A) (h:j<=k):Room j A:=⟨r.hd,by have:=r.dp; omega,by have:=r.un; omega⟩
theorem Room.deeper {k:Nat} {A:Around} (r:Room (k + 1) A) (env:Env):Room k (A.deeper env):=
 ⟨r.hd,by have:=r.dp; show A.depth + 1 + 3 * k + 5 < _; omega,by have:=r.un; show A.units + 3 + 16 * k + 200 < _; omega⟩
theorem make_depth {A:Around} {C:Addr} {us:List Value} {kw:List (Str × Value)}:(A.under (.builtin "type.__call__" ⟨.ref C :: us,kw⟩)).depth=A.depth + 1:=by
 first | rfl | simp [Around.under,Code.weight,Code.isCreation,Code.isGuard,Code.isCaller,Code.frames,Code.isFrame,guardIds]
theorem make_units {A:Around} {C:Addr} {us:List Value} {kw:List (Str × Value)}:(A.under (.builtin "type.__call__" ⟨.ref C :: us,kw⟩)).units=A.units + 1:=by
 first | rfl | simp [Around.under,Code.cUnits,Code.frames,Code.isFrame]
theorem Room.make {k:Nat} {A:Around} (r:Room (k + 1) A) (C:Addr) (us:List Value) (kw:List (Str × Value)):Room k (A.under (.builtin "type.__call__" ⟨.ref C :: us,kw⟩)):=
 ⟨r.hd,by have:=r.dp; rw [make_depth]; omega,by have:=r.un; rw [make_units]; omega⟩
theorem Room.depth {k:Nat} {A:Around} (r:Room k A):A.depth < recursionLimit:=by have:=r.dp; omega
theorem Room.units {k:Nat} {A:Around} (r:Room k A):A.units + 64 < cLine:=by have:=r.un; omega
noncomputable def tNil:TA:=fun _ H Q=>Q [] H
noncomputable def tCons (ta:TE) (tr:TA):TA:=fun σ H Q=>ta σ H fun x H1=>tr σ H1 fun xs H2=>Q (x :: xs) H2
section
variable {X:Cx} {e:Expr} {es:List Expr} {te:TE} {t:TA} {pos:Pos}
theorem pa_nil:PA X [] tNil:=fun _ _ _ _ H Q I h=>Calls.spliced_nil ⟨[],H,I,.nil,h⟩
theorem pa_cons (ha:PE X e te) (hr:PA X es t) (hs:starEach (e :: es) X.env=(false,eval e X.env) :: starEach es X.env:=by rfl):PA X (e :: es) (tCons te t):=by
 intro pos pins s σ H Q I h
 rw [hs]
 show wpAny _ _ (spliced ((false,eval e X.env) :: backTo pos (starEach es X.env))) _ _ s
 refine Calls.spliced_cons (thn (ha pins s σ H _ I h) fun u s1 ⟨x,H1,I1,r1,q1⟩=>?_)
 exact thn (hr pos pins s1 σ H1 _ I1 q1) fun us s2 ⟨xs,H2,I2,r2,q2⟩=>⟨x :: xs,H2,I2,.cons r1 r2,q2⟩
noncomputable def tTup (t:TA):TE:=fun σ H Q=>t σ H fun xs H1=>xs.length<=sizeLine/\∀ p,H1 p=none->Q (.ref p) (upd H1 p (.tup xs))
noncomputable def tLst (t:TA):TE:=fun σ H Q=>t σ H fun xs H1=>xs.length<=sizeLine/\∀ p,H1 p=none->Q (.ref p) (upd H1 p (.lst xs))
theorem pe_tup {x1} (h:PA X es t):PE X (.Tuple es x1 pos) (tTup t):=by
 intro pins s σ H Q I hq
 refine wpAny_Tuple_spliced (thn (h pos pins s σ H _ I hq) fun us s1 ⟨xs,H1,I1,r,z,q⟩=>⟨by rw [<- r.length]; exact z,?_⟩)
 have hf:H1 s1.heap.objs.size=none:=I1.hok.fresh (Nat.le_refl _)
 refine ⟨.ref s1.heap.objs.size,upd H1 s1.heap.objs.size (.tup xs),I1.laid (t':=s1.toks) (fun b u e=>Heap.get?_push_of_some _ e) (Nat.le_refl _) ?_,rfl,q _ hf⟩
 exact ⟨z,us,r,⟨_,Heap.get?_push_size _ rfl,rfl,_,rfl⟩⟩
theorem pe_lst (h:PA X es t):PE X (.List es pos) (tLst t):=by
 intro pins s σ H Q I hq
 refine wpAny_List_spliced (thn (h pos pins s σ H _ I hq) fun us s1 ⟨xs,H1,I1,r,z,q⟩=>⟨by rw [<- r.length]; exact z,?_⟩)
 have hf:H1 s1.heap.objs.size=none:=I1.hok.fresh (Nat.le_refl _)
 refine ⟨.ref s1.heap.objs.size,upd H1 s1.heap.objs.size (.lst xs),I1.laid (t':=s1.toks) (fun b u e=>Heap.get?_push_of_some _ e) (Nat.le_refl _) ?_,rfl,q _ hf⟩
 exact ⟨z,us,0,r,Heap.get?_push_size _ rfl⟩
end
noncomputable abbrev Sp:=List V->Hp->VK->XK->Prop
noncomputable abbrev CXT:=List Env->Hp->Shared->XK->Value->Shared->Prop
structure Env0 (P:Program) (w:World) (K:PySem.W.Frag) (mg:Str->Option Value) (base:Heap) (A:Around) (outer:List Env) (s:Shared) (H:Hp):Prop where
 frames:A.frames=some outer
 mod:Mod K mg base
 bs:∀ b o,base.get? b=some o->s.heap.get? b=some o/\H b=none
 bsz:base.objs.size<=s.heap.objs.size
 funs:s.heap.FunFrames base outer
 frf:∀ b∈frs outer,H b=none
 hok:HOk P w H s.heap
 bare:AllBare s.gens
noncomputable def CE (outer:List Env) (P:Program) (w:World) (H:Hp) (s:Shared) (Q:VK) (u:Value) (s':Shared):Prop:=
 ∃ v H',s'.os=s.os/\AllBare s'.gens/\Un (frs outer) [] H H' s.heap s'.heap/\HOk P w H' s'.heap/\RelV v u/\Q v H'
noncomputable def CR (CX:CXT) (outer:List Env) (P:Program) (w:World) (H:Hp) (s:Shared) (Q:VK) (E:XK) (r:Result) (s':Shared):Prop:=
 match r with
 | .ok (.ret u)=>CE outer P w H s Q u s'
 | .ok _=>False
 | .error e=>CX outer H s E e s'
structure FnOk (P:Program) (w:World) (K:PySem.W.Frag) (mg:Str->Option Value) (base:Heap) (CX:CXT) (k:Nat) (f:Addr) (fd:FuncData) (ps:List Str) (sp:Sp):Prop where
 len:∀ vs H Q E,sp vs H Q E->vs.length=ps.length
 run:∀ (A:Around) (outer:List Env) (s:Shared) (H:Hp) (args:Args) (us:List Value) (vs:List V) (Q:VK) (E:XK),Room k A->Env0 P w K mg base A outer s H->BindsTo s fd args (ps.zip us)->Vals vs us->sp vs H Q E->
  codeAny (model P w) A (.call (.ref f) args) (CR CX outer P w H s Q E) s
theorem FnOk.mono {P:Program} {w:World} {K:PySem.W.Frag} {mg:Str->Option Value} {base:Heap} {CX:CXT} {j k:Nat} {f:Addr} {fd:FuncData} {ps:List Str} {sp:Sp} (F:FnOk P w K mg base CX j f fd ps sp) (h:j<=k) :
  FnOk P w K mg base CX k f fd ps sp:=⟨F.len,fun A outer s H args us vs Q E hr=>F.run A outer s H args us vs Q E (hr.mono h)⟩
theorem Env0.make {P:Program} {w:World} {K:PySem.W.Frag} {mg:Str->Option Value} {base:Heap} {A:Around} {outer:List Env} {s:Shared} {H:Hp} (e:Env0 P w K mg base A outer s H) (C:Addr) (us:List Value) (kw:List (Str × Value)) :
  Env0 P w K mg base (A.under (.builtin "type.__call__" ⟨.ref C :: us,kw⟩)) outer s H:=⟨by first | exact e.frames | (simpa [Around.under,Code.envs,Code.isFrame,pushEnvs] using e.frames),e.mod,e.bs,e.bsz,e.funs,e.frf,e.hok,e.bare⟩
section
variable {X:Cx} {pins:List (Addr × Obj)} {σ:St} {H:Hp} {s s':Shared}
theorem Inv.env0 (I:Inv X pins σ H s):Env0 X.prog X.w X.K X.mg X.base X.A X.stack s H:=
 ⟨I.ok.frames,I.ok.mod,I.bs,Nat.le_trans I.ok.bsz I.sz,I.stack,I.stkFree,I.hok,I.bare⟩
theorem Inv.after {Q:VK} {u:Value} (I:Inv X pins σ H s) (h:CE X.stack X.prog X.w H s Q u s'):EP X pins σ Q u s':=by
 obtain ⟨v,H',os,bare,un,hok,r,q⟩:=h
 obtain ⟨hh,g,d,t,os'⟩:=s'
 obtain rfl:os'=s.os:=os
 exact ⟨v,H',I.call (h':=hh) (g':=g) (d':=d) (t':=t) (ch:=[]) un hok bare (fun b z=>absurd z (by simp)),r,q⟩
end
noncomputable def tCall (sp:Sp) (dvs:List V) (E:XK) (t:TA):TE:=fun σ H Q=>t σ H fun vs H1=>sp (vs++dvs) H1 Q E
noncomputable def tMeth (C:Addr) (m:Str) (sp:Sp) (dvs:List V) (E:XK) (ta:TE) (t:TA):TE:=fun σ H Q=>ta σ H fun x H1=>∃ a dx fs,x=.ref a/\H1 a=some (.ins C dx fs)/\fs.lookup m=none∧
 t σ H1 fun vs H2=>sp (x :: (vs++dvs)) H2 Q E
noncomputable def tMake (C:Addr) (sp:Sp) (dvs:List V) (E:XK) (t:TA):TE:=fun σ H Q=>t σ H fun vs H1=>∀ x dx,H1 x=none->H1 dx=none->dx≠x->
 sp (.ref x :: (vs++dvs)) (upd (upd H1 dx (.own x)) x (.ins C dx [])) (fun v H2=>v=.non/\Q (.ref x) H2) E
noncomputable def Binds (K:PySem.W.Frag) (fd:FuncData) (ps:List Str) (ds:List Value):Prop:=
 ∀ (s:Shared) (us:List Value),K.In s.heap->(us++ds).length=ps.length->BindsTo s fd ⟨us,[]⟩ (ps.zip (us++ds))
theorem Binds.all {K:PySem.W.Frag} {fd:FuncData} {ps:List Str} (h:∀ us:List Value,us.length=ps.length->bindArgs fd ⟨us,[]⟩=pure (ps.zip us)):Binds K fd ps []:=fun s us _ hl=>by
 rw [List.append_nil] at hl |-
 exact .of_eq (h us hl)
noncomputable def Passes (CX:CXT) (X:Cx) (E:XK):Prop:=∀ (pins:List (Addr × Obj)) (σ:St) (H:Hp) (s:Shared) (e:Value) (s':Shared),Inv X pins σ H s->CX X.stack H s E e s'->X.xe e s'
section
variable {X:Cx} {CX:CXT} {k:Nat} {f C:Addr} {fd:FuncData} {ps:List Str} {sp:Sp} {dvs:List V} {ds:List Value} {E:XK} {x m:Str} {p pos apos:Pos} {e o:Expr} {es:List Expr} {ta:TE} {t:TA}
theorem run_fn {pins:List (Addr × Obj)} {σ:St} {H:Hp} {s:Shared} {Q:VK} {us:List Value} {vs:List V} (F:FnOk X.prog X.w X.K X.mg X.base CX k f fd ps sp) (hr:Room k X.A) (hb:Binds X.K fd ps ds) (hd:Vals dvs ds) (hx:Passes CX X E)
  (I:Inv X pins σ H s) (r:Vals vs us) (h:sp (vs++dvs) H Q E):wpAny (model X.prog X.w) X.A (call (.ref f) us) (EP X pins σ Q) X.xe s:=by
 have r2:Vals (vs++dvs) (us++ds):=r.append hd
 have hl:(us++ds).length=ps.length:=by rw [<- r2.length]; exact F.len _ _ _ _ h
 refine wpAny_call (codeAny_mono (F.run X.A X.stack s H ⟨us,[]⟩ (us++ds) (vs++dvs) Q E hr I.env0 (hb s us I.kIn hl) r2 h) fun r s' hq=>?_)
 cases r with
 | error e=>exact hx pins σ H s e s' I hq
 | ok fl=>
  cases fl with
  | ret u=>exact I.after hq
  | next=>exact False.elim hq
  | brk=>exact False.elim hq
  | cont=>exact False.elim hq
theorem pe_call (F:FnOk X.prog X.w X.K X.mg X.base CX k f fd ps sp) (hr:Room k X.A) (hg:Gl X x) (hm:X.mg x=some (.ref f)) (hk:PySem.W.keepIn X.K (.ref f)=true) (hb:Binds X.K fd ps ds) (hd:Vals dvs ds) (hx:Passes CX X E)
  (ha:PA X (e :: es) t) (hdb:(x == ("__debug__" : Str))=false:=by decide) (he:starEach (e :: es) X.env=(false,eval e X.env) :: starEach es X.env:=by rfl) (hpl:(backTo pos (starEach es X.env)).any (·.1)=false:=by rfl) :
  PE X (.Call (.Name x p) (e :: es) [] pos) (tCall sp dvs E t):=by
 intro pins s σ H Q I h
 refine wpAny_Call_Name_kw (ld_glob I hg hm ?_ hdb)
 refine PySem.W.callWith_K (h₀:=X.base) I.ok.mod.kin hk (thn (ha pos pins s σ H _ I h) fun us s1 ⟨vs,H1,I1,r,q⟩=>⟨I1.kIn,?_⟩) he hpl
 exact run_fn F hr hb hd hx I1 r q
theorem pe_meth0 {pl:Sem Bool} (he:PE X o ta) (c:Cls X.K C) (hm:Meth X.K C m f) (F:FnOk X.prog X.w X.K X.mg X.base CX k f fd ps sp) (hr:Room k X.A) (hb:Binds X.K fd ps ds) (hd:Vals dvs ds) (hx:Passes CX X E)
  (ht:eval (.Call (.Attribute o m apos) [] [] pos) X.env=(do
   let ov <- eval o X.env
   standAt apos.atName
   let (f,first) <- holding [ov] (getMethod ov m pl)
   callWith pos f first (backTo pos (starEach [] X.env)) (backToKw pos (keywordEach [] X.env))):=by rfl) :
  PE X (.Call (.Attribute o m apos) [] [] pos) (tMeth C m sp dvs E ta tNil):=by
 intro pins s σ H Q I h
 refine PySem.W.methodCall_KW (pl:=pl) (thn (he pins s σ H _ I h) fun u s1 ⟨x,H1,I1,rx,a,dx,fs,ex,ea,l,q⟩=>?_) ht
 subst ex
 obtain rfl:u=Value.ref a:=rx
 refine getmeth_ok I1 ea c hm l ?_
 exact PySem.W.callWith_K0 (first:=[.ref a]) I1.kIn hm.kp (run_fn (us:=[.ref a]) (vs:=[.ref a]) F hr hb hd hx I1 (.cons rfl .nil) q)
structure Mk (K:PySem.W.Frag) (C f:Addr):Prop where
 makes:PySem.W.makesIn K C=true
 init:PySem.W.findIn K (.ref C) "__init__" = some (some (.ref f))
 fn:PySem.W.isFn K (.ref f)=true
 kp:PySem.W.keepIn K (.ref C)=true
theorem run_make {pins:List (Addr × Obj)} {σ:St} {H:Hp} {s:Shared} {Q:VK} {us:List Value} {vs:List V} (M:Mk X.K C f) (F:FnOk X.prog X.w X.K X.mg X.base CX k f fd ps sp) (hr:Room (k + 1) X.A) (hb:Binds X.K fd ps ds) (hd:Vals dvs ds)
  (hx:Passes CX X E) (I:Inv X pins σ H s) (r:Vals vs us)
  (h:∀ x dx,H x=none->H dx=none->dx≠x->sp (.ref x :: (vs++dvs)) (upd (upd H dx (.own x)) x (.ins C dx [])) (fun v H2=>v=.non/\Q (.ref x) H2) E) :
  wpAny (model X.prog X.w) X.A (call (.ref C) us) (EP X pins σ Q) X.xe s:=by
 have hq:=h (s.heap.objs.size + 1) s.heap.objs.size (I.hok.fresh (Nat.le_succ _)) (I.hok.fresh (Nat.le_refl _)) (Nat.ne_of_lt (Nat.lt_succ_self _))
 have I2:=Inv.made (C:=C) I
 have r2:Vals (V.ref (s.heap.objs.size + 1) :: (vs++dvs)) (Value.ref (s.heap.objs.size + 1) :: (us++ds)):=.cons rfl (r.append hd)
 have hl:(Value.ref (s.heap.objs.size + 1) :: us++ds).length=ps.length:=by
  have e:=r2.length
  rw [F.len _ _ _ _ hq] at e
  exact e.symm
 refine wpAny_call (make_map (f:=f) I.kIn M.makes M.init (beq_iff_eq.mp M.fn) (codeAny_mono (F.run _ X.stack _ _ ⟨Value.ref (s.heap.objs.size + 1) :: us,[]⟩ (Value.ref (s.heap.objs.size + 1) :: (us++ds)) _ _ E (hr.make C us [])
  (I2.env0.make C us []) (hb _ (Value.ref (s.heap.objs.size + 1) :: us) I2.kIn hl) r2 hq) fun r s' hq'=>?_))
 cases r with
 | error e=>exact hx pins σ _ _ e s' I2 hq'
 | ok fl=>
  cases fl with
  | ret u=>
   obtain ⟨v,H',I3,rv,ev,q3⟩:=I2.after hq'
   subst ev
   exact ⟨rv,⟨V.ref (s.heap.objs.size + 1),H',I3,rfl,q3⟩⟩
  | next=>exact False.elim hq'
  | brk=>exact False.elim hq'
  | cont=>exact False.elim hq'
theorem pe_make (M:Mk X.K C f) (F:FnOk X.prog X.w X.K X.mg X.base CX k f fd ps sp) (hr:Room (k + 1) X.A) (hg:Gl X x) (hm:X.mg x=some (.ref C)) (hb:Binds X.K fd ps ds) (hd:Vals dvs ds) (hx:Passes CX X E)
  (ha:PA X (e :: es) t) (hdb:(x == ("__debug__" : Str))=false:=by decide) (he:starEach (e :: es) X.env=(false,eval e X.env) :: starEach es X.env:=by rfl) (hpl:(backTo pos (starEach es X.env)).any (·.1)=false:=by rfl) :
  PE X (.Call (.Name x p) (e :: es) [] pos) (tMake C sp dvs E t):=by
 intro pins s σ H Q I h
 refine wpAny_Call_Name_kw (ld_glob I hg hm ?_ hdb)
 refine PySem.W.callWith_K (h₀:=X.base) I.ok.mod.kin M.kp (thn (ha pos pins s σ H _ I h) fun us s1 ⟨vs,H1,I1,r,q⟩=>⟨I1.kIn,?_⟩) he hpl
 exact run_make M F hr hb hd hx I1 r q
end
section
variable {X:Cx} {CX:CXT} {k:Nat} {f C:Addr} {fd:FuncData} {ps ks:List Str} {sp:Sp} {E:XK} {x m:Str} {p pos apos kpos:Pos} {e o:Expr} {es:List Expr} {kws:List Keyword} {te ta:TE} {t tk:TA} {nm:Option Str}
variable {g:List Value->List Value->List Value} {gV:List V->List V->List V}
end
structure FnScope (N P:List Str) (sc:Scope):Prop where
 kind:sc.kind=.function
 co:sc.isCoroutine=false
 gen:sc.isGenerator=false
 nd:N.Nodup
 pre:N.take P.length=P
 par:∀ x∈P,sc.names.lookup x=some .local\/sc.names.lookup x=some .cell
 nofree:∀ y∈sc.names,y.2≠.free
theorem bindL_out {kindOf:Str->Option NameKind} {x:Str}:∀ {binds:List (Str × Value)} {m:Str->Option Value},(∀ v,(x,v)∉binds)->bindL kindOf binds m x=m x
 | [],_,_=>rfl
 | (n,v) :: r,m,h=>by
  unfold bindL
  rw [bindL_out fun w hw=>h w (List.mem_cons_of_mem _ hw)]
  split
  ·have:x≠n:=by rintro rfl; exact h v List.mem_cons_self
   simp [this]
  ·rfl
theorem bindC_out {kindOf:Str->Option NameKind} {x:Str}:∀ {binds:List (Str × Value)} {m:Str->Option Value},(∀ v,(x,v)∉binds)->bindC kindOf binds m x=m x
 | [],_,_=>rfl
 | (n,v) :: r,m,h=>by
  unfold bindC
  rw [bindC_out fun w hw=>h w (List.mem_cons_of_mem _ hw)]
  split
  ·rfl
  ·have:x≠n:=by rintro rfl; exact h v List.mem_cons_self
   simp [this]
theorem bindL_get {kindOf:Str->Option NameKind} {x:Str} {v:Value}:∀ {P:List Str} {vs:List Value} {i:Nat} {m:Str->Option Value},P.Nodup->P[i]? = some x->vs[i]? = some v->kindOf x=some .local->
  bindL kindOf (P.zip vs) m x=some v
 | [],_,_,_,_,h,_,_=>by simp at h
 | _ :: _,[],_,_,_,_,h,_=>by simp at h
 | p :: P,w :: vs,0,m,nd,h1,h2,hk=>by
  simp at h1 h2; subst h1; subst h2
  show bindL kindOf ((p,w) :: P.zip vs) m p=_
  unfold bindL
  rw [bindL_out fun v hv=>(List.nodup_cons.mp nd).1 (List.of_mem_zip hv).1,if_pos hk]
  simp
 | p :: P,w :: vs,i + 1,m,nd,h1,h2,hk=>by
  show bindL kindOf ((p,w) :: P.zip vs) m x=_
  unfold bindL
  exact bindL_get (i:=i) (List.nodup_cons.mp nd).2 (by simpa using h1) (by simpa using h2) hk
theorem bindC_get {kindOf:Str->Option NameKind} {x:Str} {v:Value}:∀ {P:List Str} {vs:List Value} {i:Nat} {m:Str->Option Value},P.Nodup->P[i]? = some x->vs[i]? = some v->kindOf x≠some .local->
  bindC kindOf (P.zip vs) m x=some v
 | [],_,_,_,_,h,_,_=>by simp at h
 | _ :: _,[],_,_,_,_,h,_=>by simp at h
 | p :: P,w :: vs,0,m,nd,h1,h2,hk=>by
  simp at h1 h2; subst h1; subst h2
  show bindC kindOf ((p,w) :: P.zip vs) m p=_
  unfold bindC
  rw [bindC_out fun v hv=>(List.nodup_cons.mp nd).1 (List.of_mem_zip hv).1,if_neg hk]
  simp
 | p :: P,w :: vs,i + 1,m,nd,h1,h2,hk=>by
  show bindC kindOf ((p,w) :: P.zip vs) m x=_
  unfold bindC
  exact bindC_get (i:=i) (List.nodup_cons.mp nd).2 (by simpa using h1) (by simpa using h2) hk
noncomputable def start (N:List Str) (vs:List V):St:=vs.map some++List.replicate (N.length - vs.length) none
noncomputable def cxOf (CX:CXT) (P:Program) (w:World) (K:PySem.W.Frag) (mg:Str->Option Value) (base:Heap) (N:List Str) (qual:Str) (scope:Scope) (f:Addr) (cd:Value) (A:Around) (outer:List Env) (s:Shared) (H:Hp) (E:XK):Cx where
 prog:=P
 w:=w
 K:=K
 mg:=mg
 base:=base
 A:=A.deeper (envOfC qual scope s.heap.objs.size f cd)
 N:=N
 s₀:=s
 H₀:=H
 env:=envOfC qual scope s.heap.objs.size f cd
 outer:=outer
 stack:=envOfC qual scope s.heap.objs.size f cd :: outer
 ex:=[]
 calm:=true
 fn:=fun _=>true
 pn:=[]
 xe:=fun e s'=>wpAny (model P w) (A.deeper (envOfC qual scope s.heap.objs.size f cd)) (leaving (envOfC qual scope s.heap.objs.size f cd) e) (fun _ s''=>CX outer H s E e s'') (fun e' s''=>CX outer H s E e' s'') s'
theorem cell_has {sc:Scope} {n:Nat} {x:Str} (h:sc.names.lookup x=some .cell):∃ c,(cellsFrom n sc.names []).lookup x=some c:=by
 have q:=PySem.W.cellsFrom_some sc.names n [] (.inl h)
 exact Option.isSome_iff_exists.mp q
theorem inv_start {CX:CXT} {P:Program} {w:World} {K:PySem.W.Frag} {mg:Str->Option Value} {base:Heap} {N ps:List Str} {qual:Str} {scope:Scope} {f:Addr} {cd:Value} {A:Around} {outer:List Env} {s s1:Shared} {H:Hp} {E:XK} {us:List Value} {vs:List V}
  (S:FnScope N ps scope) (hd:A.handled=none) (e0:Env0 P w K mg base A outer s H) (hl:vs.length=ps.length) (r:Vals vs us)
  (x:InCallC s s.heap.objs.size (bindL (envOfC qual scope s.heap.objs.size f cd).kindOf (ps.zip us) fun _=>none) (cellsFrom (s.heap.objs.size + 1) scope.names []) (bindC (envOfC qual scope s.heap.objs.size f cd).kindOf (ps.zip us) fun _=>none) s1) :
  Inv (cxOf CX P w K mg base N qual scope f cd A outer s H E) [] (start N vs) H s1:=by
 have hpl:ps.length<=N.length:=by have:=congrArg List.length S.pre; rw [List.length_take] at this; omega
 obtain ⟨h1,tk,rfl,hk⟩:=x.done
 have noA:∀ b:Addr,b∉(cxOf CX P w K mg base N qual scope f cd A outer s H E).ex:=fun b z=>absurd (show b∈([]:List Addr) from z) (by simp)
 refine ⟨⟨e0.mod,S.kind,rfl,rfl,Nat.le_refl _,fun y z c h1 h2=>?_,fun y hy=>?_,fun y c _ h=>?_,fun _=>hd,Around.frames_deeper e0.frames,.inr ⟨rfl,rfl⟩,fun b z=>absurd z (noA b),e0.bs,e0.bsz,fun b _ _=>noA b,fun b z=>absurd z (noA b),e0.funs,e0.frf⟩,
  rfl,e0.bare,Un.kept hk,⟨_,x.toInCall.ns,fun i y v h1 h2 h3=>?_⟩,fun y c h=>⟨_,x.cell y c h⟩,e0.hok.fresh (Nat.le_refl _),fun y c h=>?_,fun p hp=>absurd (show p∈([]:List (Addr × Obj)) from hp) (by simp),e0.hok.kept hk,?_⟩
 ·exact name_of_addr x.apart (PySem.mem_of_lookup h1) (PySem.mem_of_lookup h2)
 ·have hy:scope.names.lookup y=some .cell\/scope.names.lookup y=some .free:=hy
  rcases hy with hy | hy
  ·exact cell_has hy
  ·exact absurd rfl (S.nofree _ (PySem.mem_of_lookup hy))
 ·exact Nat.le_of_lt (x.above y c (PySem.mem_of_lookup h))
 ·have hi:i < vs.length:=by
   unfold start at h2
   by_cases hi:i < vs.length
   ·exact hi
   ·rw [List.getElem?_append_right (by simpa using hi)] at h2
    rw [List.getElem?_replicate] at h2
    split at h2 <;> cases h2
  have ha:vs[i]? = some v:=by
   unfold start at h2
   rw [List.getElem?_append_left (by simpa using hi),List.getElem?_map] at h2
   cases e:vs[i]? with
   | none=>rw [e] at h2; cases h2
   | some a=>rw [e] at h2; cases h2; rfl
  obtain ⟨u,hu,rv⟩:=r.get ha
  have hp:ps[i]? = some y:=by
   rw [<- S.pre,List.getElem?_take_of_lt (by omega)]; exact h1
  have ndP:ps.Nodup:=by rw [<- S.pre]; exact S.nd.sublist (List.take_sublist _ _)
  refine ⟨u,rv,?_⟩
  rcases S.par y (List.mem_of_getElem? hp) with k | k
  ·exact .inl ⟨k,bindL_get ndP hp hu k⟩
  ·obtain ⟨c,e⟩:=cell_has (n:=s.heap.objs.size + 1) k
   refine .inr ⟨.inl k,c,e,?_⟩
   have q:=x.cell y c e
   rw [bindC_get ndP hp hu (by show scope.names.lookup y≠_; rw [k]; decide)] at q
   exact q
 ·exact e0.hok.fresh (Nat.le_of_lt (x.above y c (PySem.mem_of_lookup h)))
 ·unfold start
  show _=N.length
  rw [List.length_append,List.length_map,List.length_replicate]
  omega
theorem fn_of {CX:CXT} {P:Program} {w:World} {K:PySem.W.Frag} {mg:Str->Option Value} {base:Heap} {k:Nat} {f:Addr} {name qual:Str} {params:Arguments} {body:List Stmt} {scope:Scope} {dV kV doc pm cdv ct oc:Value} {an od:Option Addr}
  {osl:Array (Option Value)} {N ps:List Str} {sp:Sp} (lk:K.lookup f=some ⟨oc,od,.func (PySem.W.fnOf name qual params body scope dV kV doc pm an cdv ct),osl⟩) (hcd:PySem.W.codeIn K cdv qual=true) (S:FnScope N ps scope)
  (len:∀ vs H Q E,sp vs H Q E->vs.length=ps.length)
  (hbody:∀ (A:Around) (outer:List Env) (s:Shared) (H:Hp) (vs:List V) (Q:VK) (E:XK),Room k (A.deeper (envOfC qual scope s.heap.objs.size f cdv))->sp vs H Q E->
   ∃ t,PSs (cxOf CX P w K mg base N qual scope f cdv A outer s H E) body t/\t { nx:=fun _ H'=>Q .non H',rt:=Q } (start N vs) H) :
  FnOk P w K mg base CX (k + 1) f (PySem.W.fnOf name qual params body scope dV kV doc pm an cdv ct) ps sp:=by
 refine ⟨len,fun A outer s H args us vs Q E hr e0 hb r hsp=>?_⟩
 have hl:=len _ _ _ _ hsp
 have KX:K.In s.heap:=e0.mod.kin.keeps fun b o e=>(e0.bs b o e).1
 have lim:s.heap.NoLimit:=e0.mod.nolimit.keeps fun b o e=>(e0.bs b o e).1
 have hkind:∀ y∈ps.zip us,scope.names.lookup y.1=some .local\/(scope.names.lookup y.1=some .cell/\((cellsFrom (s.heap.objs.size + 1) scope.names []).lookup y.1).isSome=true):=fun ⟨n,v⟩ hy=>by
  rcases S.par n (List.of_mem_zip hy).1 with q | q
  ·exact .inl q
  ·exact .inr ⟨q,PySem.W.cellsFrom_some _ _ _ (.inl q)⟩
 refine codeAny_call_function hr.depth (KX _ _ lk) rfl S.co S.gen rfl (PySem.W.codeRec_of KX hcd) (hb _ _ _ _ ?_)
 refine wpAny_newFunctionEnv_cells S.kind hkind fun env he s1 x=>?_
 subst he
 refine ⟨lim.keeps x.toInCall.keep,codeAny_func ?_⟩
 obtain ⟨t,ht,hq⟩:=hbody A outer s H vs Q E (hr.deeper _) hsp
 have I:Inv (cxOf CX P w K mg base N qual scope f cdv A outer s H E) [] (start N vs) H s1:=inv_start S hr.hd e0 hl r x
 refine wpAny_mono (ht [] s1 (start N vs) H _ I hq) (fun fl s' hs=>?_) fun e s' hs=>hs
 have fin:∀ {σ':St} {H':Hp} {v:V} {u:Value},Inv (cxOf CX P w K mg base N qual scope f cdv A outer s H E) [] σ' H' s'->RelV v u->Q v H'->CE outer P w H s Q u s':=
  fun {σ' H' v u} J rv q=>⟨v,H',J.os,J.bare,J.base,J.hok,rv,q⟩
 cases fl with
 | ret u=>
  obtain ⟨v,σ',H',J,rv,q⟩:=hs
  exact fin J rv q
 | next=>
  obtain ⟨σ',H',J,q⟩:=hs
  exact fin (v:=V.non) (u:=Value.none) J rfl q
 | brk=>
  obtain ⟨_,_,_,q⟩:=hs
  exact False.elim q
 | cont=>
  obtain ⟨_,_,_,q⟩:=hs
  exact False.elim q
end L2
namespace L2
open PySem PySem.Spec PyProof.Rows
section
variable {X:Cx} {x:Str} {p pos:Pos} {e:Expr} {es:List Expr} {t:TA} {id T:String} {r:List V->Hp->VK->Prop}
noncomputable def tCB (r:List V->Hp->VK->Prop) (t:TA):TE:=fun σ H Q=>t σ H fun vs H1=>r vs H1 Q
theorem pe_callB (hc:CallR X (.builtin id) r) (hg:Gl X x) (hm:X.mg x=none) (hv:bootBuiltins x=some (.builtin id)) (ha:PA X (e :: es) t) (hn:x≠"__name__":=by decide) (hdb:(x == ("__debug__" : Str))=false:=by decide)
  (he:starEach (e :: es) X.env=(false,eval e X.env) :: starEach es X.env:=by rfl) (hpl:(backTo pos (starEach es X.env)).any (·.1)=false:=by rfl):PE X (.Call (.Name x p) (e :: es) [] pos) (tCB r t):=by
 intro pins s σ H Q I h
 refine wpAny_Call_Name_kw (ld_blt I hg hm hv ?_ hn hdb)
 exact PyProof.Rows.callWith_builtin1 (thn (ha pos pins s σ H _ I h) fun us s1 ⟨vs,H1,I1,r1,q1⟩=>hc pins s1 σ H1 vs us Q I1 r1 q1) he hpl
theorem pe_callTy (hc:CallR X (.type T) r) (hg:Gl X x) (hm:X.mg x=none) (hv:bootBuiltins x=some (.type T)) (ha:PA X (e :: es) t) (hn:x≠"__name__":=by decide) (hdb:(x == ("__debug__" : Str))=false:=by decide)
  (he:starEach (e :: es) X.env=(false,eval e X.env) :: starEach es X.env:=by rfl) (hpl:(backTo pos (starEach es X.env)).any (·.1)=false:=by rfl):PE X (.Call (.Name x p) (e :: es) [] pos) (tCB r t):=by
 intro pins s σ H Q I h
 refine wpAny_Call_Name_kw (ld_blt I hg hm hv ?_ hn hdb)
 exact PyProof.Rows.callWith_type1 (thn (ha pos pins s σ H _ I h) fun us s1 ⟨vs,H1,I1,r1,q1⟩=>hc pins s1 σ H1 vs us Q I1 r1 q1) he hpl
end
end L2
namespace HT
open PySem PyProof.Rows
section
open PySem.SeqAt
open PySem.AutoSeq1 (wpAny_loadPart')
open PySem.MeetsSeq PySem.MeetsSeq2 PySem.MeetsSeq3
end
section
variable {prog:Program} {w:World} {A:Around} {E:Value->Shared->Prop} {s:Shared}
theorem cat_tup {t b:Addr} {vs ws:List Value} {Q:Value->Shared->Prop} (ht:IsTup s.heap t vs.toArray) (hb:IsTup s.heap b ws.toArray) (hv:vs≠[])
  (h1:ws=[]->Q (.ref t) s) (h2:ws≠[]->Q (.ref s.heap.objs.size) { s with heap:=s.heap.push { cls:=.type "tuple",data:=.seq (vs++ws).toArray } })
  (hsz:vs.length + ws.length<=sizeLine):wpAny (model prog w) A (binaryOp .Add (.ref t) (.ref b)) Q E s:=by
 obtain ⟨⟨cls,dd,data,sl⟩,ho,hc,n,hd⟩:=id ht
 obtain ⟨⟨cls2,dd2,data2,sl2⟩,ho2,hc2,n2,hd2⟩:=id hb
 simp only at hc hd hc2 hd2
 subst hc hd hc2 hd2
 have e:vs.toArray++ws.toArray=(vs++ws).toArray:=by simp
 by_cases hw:ws=[]
 ·exact concat_meets ⟨_,ho,rfl⟩ ⟨_,ho2,rfl⟩ noFill_tuple_add seq_tuple_add PySem.F.slot_tuple_add PySem.F.entry_tuple_add (PySem.F.args_tuple_add_2 _ _)
   (tuple_addW1 t b vs.toArray ws.toArray n n2 dd dd2 sl sl2 (by simpa using hv) (by simp [hw])) ⟨ho,ho2,h1 hw⟩
 ·refine concat_meets ⟨_,ho,rfl⟩ ⟨_,ho2,rfl⟩ noFill_tuple_add seq_tuple_add PySem.F.slot_tuple_add PySem.F.entry_tuple_add (PySem.F.args_tuple_add_2 _ _)
   (tuple_addW2 t b vs.toArray ws.toArray n n2 dd dd2 sl sl2 (by simpa using hv) (by simpa using hw) (by rw [List.size_toArray,List.size_toArray]; exact hsz)) ⟨ho,ho2,?_⟩
  rw [e]
  exact h2 hw
noncomputable def sIx (n d:Nat):Option Int->Nat
 | none=>d
 | some v=>if v < 0 then (v + (n:Int)).toNat else min v.toNat n
theorem sIx_none (n d:Nat):sIx n d none=d:=rfl
theorem sIx_nat (n d k:Nat):sIx n d (some (k:Int))=min k n:=by
 show (if (k:Int) < 0 then ((k:Int) + (n:Int)).toNat else min (k:Int).toNat n)=min k n
 rw [if_neg (by omega),Int.toNat_natCast]
theorem sIx_le (n d:Nat) (hd:d<=n) (o:Option Int):sIx n d o<=n:=by
 cases o with
 | none=>exact hd
 | some v=>
  show (if v < 0 then (v + (n:Int)).toNat else min v.toNat n)<=n
  by_cases hv:v < 0
  ·rw [if_pos hv]; omega
  ·rw [if_neg hv]; exact Nat.min_le_right _ _
theorem clip_eq (v:Int) (n d:Nat):(if v < 0 then max (v + (n:Int)) 0 else min v (n:Int))=((sIx n d (some v):Nat):Int):=by
 show (if v < 0 then max (v + (n:Int)) 0 else min v (n:Int))=(((if v < 0 then (v + (n:Int)).toNat else min v.toNat n):Nat):Int)
 by_cases hv:v < 0
 ·simp only [if_pos hv]; omega
 ·simp only [if_neg hv]; omega
theorem adjust_gen (lo hi:Option Int) (n:Nat):Builtin.Slice.sliceAdjust lo hi 1 (n:Int)=(((sIx n 0 lo:Nat):Int),((sIx n n hi:Nat):Int)):=by
 have h1:¬ ((1:Int) < 0):=by omega
 unfold Builtin.Slice.sliceAdjust
 simp only [h1,if_false]
 refine Prod.ext ?_ ?_
 ·cases lo with
  | none=>rfl
  | some v=>exact clip_eq v n 0
 ·cases hi with
  | none=>rfl
  | some v=>exact clip_eq v n n
theorem places_gen (i j:Nat):Builtin.Slice.slicePlaces (i:Int) (j:Int) 1=j - i:=by
 unfold Builtin.Slice.slicePlaces
 have h1:(1:Int) > 0:=by omega
 simp only [h1,if_true,Int.ediv_one]
 split <;> omega
theorem slicePart_ {v:Value} {o:Option Int} {Q:Option Int->Shared->Prop} (p:IsPart v o) (h:Q o s):wpAny (model prog w) A (Builtin.Slice.slicePartIndex v) Q E s:=by
 cases p with
 | none=>exact slicePart_none h
 | int i t=>exact slicePart_int h
theorem sliceApplied_gen {sl:Addr} {vl vu:Value} {lo hi:Option Int} {n:Nat} {Q:Int × Int × Nat->Shared->Prop} (hs:s.heap.IsSliceOf sl vl vu .none) (pl:IsPart vl lo) (pu:IsPart vu hi)
  (h:Q (((sIx n 0 lo:Nat):Int),1,sIx n n hi - sIx n 0 lo) s):wpAny (model prog w) A (Builtin.Slice.sliceApplied (.ref sl) (pure (n:Int))) Q E s:=by
 obtain ⟨os,hos,hcs,hds⟩:=id hs
 unfold Builtin.Slice.sliceApplied Builtin.Slice.sliceFields
 refine wpAny_bind (wpAny_bind (wpAny_field hos hds (x:=vl) rfl (wpAny_bind (wpAny_field hos hds (x:=vu) rfl (wpAny_bind (wpAny_field hos hds (x:=.none) rfl (wpAny_pure ?_)))))))
 refine wpAny_bind (slicePart_none ?_)
 show wpAny _ _ (if ((1:Int) == 0)=true then _ else _) _ _ s
 rw [if_neg (by decide)]
 refine wpAny_bind (slicePart_ pl (wpAny_bind (slicePart_ pu (wpAny_bind (wpAny_pure ?_)))))
 show wpAny _ _ (match Builtin.Slice.sliceAdjust lo hi 1 (n:Int) with | (lo,hi)=>pure (lo,(1:Int),Builtin.Slice.slicePlaces lo hi 1)) _ _ s
 rw [adjust_gen lo hi n]
 show wpAny _ _ (pure (((sIx n 0 lo:Nat):Int),(1:Int),Builtin.Slice.slicePlaces ((sIx n 0 lo:Nat):Int) ((sIx n n hi:Nat):Int) 1)) _ _ s
 rw [places_gen]
 exact wpAny_pure h
theorem pick_gen (xs:Array Value) (i k:Nat):((List.range k).filterMap fun (m:Nat)=>xs[((i:Int) + (m:Int) * 1).toNat]?).toArray=((xs.toList.drop i).take k).toArray:=by
 have e:(fun (m:Nat)=>xs[((i:Int) + (m:Int) * 1).toNat]?)=fun m=>xs[i + m]?:=by
  funext m
  have:((i:Int) + (m:Int) * 1).toNat=i + m:=by omega
  rw [this]
 rw [e]
 have:=pick_run xs i k
 rw [List.filterMap_map] at this
 have e2:((fun x=>xs[x]?) ∘ fun x=>i + x)=fun m=>xs[i + m]?:=rfl
 rw [e2] at this
 rw [this]
theorem getItem_tuple_cut {t sl:Addr} {items:Array Value} {vl vu:Value} {lo hi:Option Int} {Q:Value->Shared->Prop} (ht:IsTup s.heap t items) (hs:s.heap.IsSliceOf sl vl vu .none) (pl:IsPart vl lo) (pu:IsPart vu hi)
  (hw:¬ (sIx items.size 0 lo=0/\sIx items.size items.size hi=items.size))
  (h:Q (.ref s.heap.objs.size) { s with heap:=s.heap.push { cls:=.type "tuple",data:=.seq ((items.toList.drop (sIx items.size 0 lo)).take (sIx items.size items.size hi - sIx items.size 0 lo)).toArray } })
  (hsz:items.size<=sizeLine):wpAny (model prog w) A (getItem (.ref t) (.ref sl)) Q E s:=by
 have htake:sizeOk (.seq ((items.toList.drop (sIx items.size 0 lo)).take (sIx items.size items.size hi - sIx items.size 0 lo)).toArray):=by
  show ((items.toList.drop (sIx items.size 0 lo)).take (sIx items.size items.size hi - sIx items.size 0 lo)).toArray.size<=sizeLine
  rw [List.size_toArray,List.length_take,List.length_drop,Array.length_toList]
  omega
 have hj:sIx items.size items.size hi<=items.size:=sIx_le _ _ (Nat.le_refl _) hi
 obtain ⟨os,hos,hcs,hds⟩:=id hs
 have hTs:s.TypeIs (.ref sl) "slice":=⟨os,hos,hcs⟩
 unfold getItem
 try with_reducible refine wpAny_holding ?_
 first | refine wpAny_bind (wpAny_pure ?_) | skip
 refine wpAny_bind (wpAny_sequenceKey ht.typeIs (by decide) ?_)
 refine wpAny_bind (wpAny_callSpecial?_slot (name:=Str.ofString "__getitem__") ht.typeIs PyProof.Rows.slot_tuple_getitem
  (wpAny_call_entry PyProof.Rows.slot_tuple_getitem ht.typeIs entry_tuple_getitem ?_ (args_tuple_getitem _ _)))
 show wpAny _ _ (Builtin.Tuple.tupleItemsOf (.ref t) >>= _) _ _ s
 refine wpAny_bind (tupleItemsOf_ ht ?_)
 refine wpAny_bind (wpAny_typeOf hTs ?_)
 rw [if_pos (by decide)]
 refine wpAny_bind (sliceApplied_gen hs pl pu ?_)
 have hno:¬ ((((sIx items.size 0 lo:Nat):Int) == 0 && (1:Int) == 1 && (sIx items.size items.size hi - sIx items.size 0 lo) == items.size)=true):=by
  intro q
  rw [Bool.and_eq_true,Bool.and_eq_true] at q
  have q1:((sIx items.size 0 lo:Nat):Int)=0:=eq_of_beq q.1.1
  have q2:sIx items.size items.size hi - sIx items.size 0 lo=items.size:=eq_of_beq q.2
  exact hw ⟨by omega,by omega⟩
 show wpAny _ _ (if (((sIx items.size 0 lo:Nat):Int) == 0 && (1:Int) == 1 && (sIx items.size items.size hi - sIx items.size 0 lo) == items.size)=true then _ else _) _ _ s
 rw [if_neg hno,pick_gen]
 first
  | exact wpAny_bind (m:=Builtin.Tuple.tupleExact _) (wpAny_newObj_type (wpAny_pure ⟨_,rfl,wpAny_pure h⟩) htake)
  | exact wpAny_bind (m:=Builtin.Tuple.tupleExact _) (wpAny_newObj_type (wpAny_bind (wpAny_pure (wpAny_pure ⟨_,rfl,wpAny_pure h⟩))) htake)
  | exact wpAny_bind (wpAny_bind (m:=Builtin.Tuple.tupleExact _) (wpAny_newObj_type (wpAny_pure (wpAny_pure ⟨_,rfl,wpAny_pure h⟩)) htake))
  | exact wpAny_bind (wpAny_bind (m:=Builtin.Tuple.tupleExact _) (wpAny_newObj_type (wpAny_pure ⟨_,rfl,wpAny_pure h⟩) htake))
end
end HT
namespace L2
open PySem PySem.Spec PyProof.Rows
noncomputable abbrev TO:=St->Hp->(Option Int->Hp->Prop)->Prop
noncomputable def PO (X:Cx) (e:Option Expr) (t:TO):Prop:=
 ∀ (pins:List (Addr × Obj)) (s:Shared) (σ:St) (H:Hp) (Q:Option Int->Hp->Prop),Inv X pins σ H s->t σ H Q->
  wpAny (model X.prog X.w) X.A (evalPart e X.env) (fun u s'=>∃ o H',Inv X pins σ H' s'/\IsPart u o/\Q o H') X.xe s
noncomputable def tNoPart:TO:=fun _ H Q=>Q none H
noncomputable def tPart (t:TE):TO:=fun σ H Q=>t σ H fun x H1=>∃ i,x=.int i/\Q (some i) H1
section
variable {X:Cx} {e:Expr} {te:TE} {lo hi:Option Expr} {tl th:TO} {pos p2:Pos}
theorem po_none:PO X none tNoPart:=by
 intro pins s σ H Q I h
 rw [evalPart_none]
 exact wpAny_pure ⟨none,H,I,.none,h⟩
theorem po_some (h:PE X e te):PO X (some e) (tPart te):=by
 intro pins s σ H Q I hw
 rw [evalPart_some]
 refine thn (h pins s σ H _ I hw) fun u s1 ⟨x,H1,I1,r1,q1⟩=>?_
 obtain ⟨i,rfl,q⟩:=q1
 obtain ⟨t,rfl⟩:=r1
 exact ⟨some i,H1,I1,.int i t,q⟩
noncomputable def SlR (X:Cx) (r:V->Option Int->Option Int->Hp->VK->Prop):Prop:=
 ∀ (pins:List (Addr × Obj)) (s:Shared) (σ:St) (H:Hp) (x:V) (v vl vu:Value) (lo hi:Option Int) (sl:Addr) (Q:VK),Inv X pins σ H s->RelV x v->s.heap.IsSliceOf sl vl vu .none->IsPart vl lo->IsPart vu hi->r x lo hi H Q->
  ∃ T id,typeLookup (.type T) "__getitem__" = pure (some (.builtin id))/\s.TypeIs v T/\wpAny (model X.prog X.w) X.A (getItem v (.ref sl)) (EP X pins σ Q) X.xe s
noncomputable def tSl (r:V->Option Int->Option Int->Hp->VK->Prop) (te:TE) (tl th:TO):TE:=fun σ H Q=>te σ H fun x H1=>tl σ H1 fun l H2=>th σ H2 fun u H3=>r x l u H3 Q
theorem pe_slice {r:V->Option Int->Option Int->Hp->VK->Prop} (hr:SlR X r) (he:PE X e te) (hl:PO X lo tl) (hu:PO X hi th):PE X (.Subscript e (.Slice lo hi none p2) pos) (tSl r te tl th):=by
 intro pins s σ H Q I h
 refine Subscript_ (thn (he pins s σ H _ I h) fun v s1 ⟨x,H1,I1,r1,q1⟩=>?_)
 refine wpAny_Slice (thn (hl pins s1 σ H1 _ I1 q1) fun vl s2 ⟨l,H2,I2,pl,q2⟩=>thn (hu pins s2 σ H2 _ I2 q2) fun vu s3 ⟨u,H3,I3,pu,q3⟩=>?_)
 rw [evalPart_none]
 refine wpAny_pure ?_
 have I4:Inv X pins σ H3 { s3 with heap:=s3.heap.push { cls:=.type "slice",data:=.fields #[vl,vu,.none] } }:=I3.kept (t':=s3.toks) fun b ob q=>Heap.get?_push_of_some _ q
 obtain ⟨T,id,hT,ht,hg⟩:=hr pins { s3 with heap:=s3.heap.push { cls:=.type "slice",data:=.fields #[vl,vu,.none] } } σ H3 x v vl vu l u s3.heap.objs.size Q I4 r1 (Heap.IsSliceOf.new ..) pl pu q3
 show wpAny (model X.prog X.w) X.A (subscriptTail e (.Slice lo hi none p2) v (.ref s3.heap.objs.size)) (EP X pins σ Q) X.xe { s3 with heap:=s3.heap.push { cls:=.type "slice",data:=.fields #[vl,vu,.none] } }
 exact tail_any (ops:=[.ref s3.heap.objs.size,v]) ht hT hg (by with_unfolding_all rfl)
noncomputable def cutV (xs:List V) (lo hi:Option Int):List V:=(xs.drop (HT.sIx xs.length 0 lo)).take (HT.sIx xs.length xs.length hi - HT.sIx xs.length 0 lo)
theorem cutV_length (xs:List V) (lo hi:Option Int):(cutV xs lo hi).length<=xs.length:=by
 unfold cutV
 rw [List.length_take,List.length_drop]
 omega
noncomputable def rSlT (K:PySem.W.Frag):V->Option Int->Option Int->Hp->VK->Prop:=fun x lo hi H Q=>∃ a xs,x=.ref a/\SqT K H a xs∧
 ¬ (HT.sIx xs.length 0 lo=0/\HT.sIx xs.length xs.length hi=xs.length)/\∀ p,H p=none->Q (.ref p) (upd H p (.tup (cutV xs lo hi)))
theorem sl_tup:SlR X (rSlT X.K):=by
 intro pins s σ H x v vl vu lo hi sl Q I rx hs pl pu h
 obtain ⟨a,xs,rfl,hx,hw,q⟩:=h
 cases rx
 obtain ⟨its,r,ht,hz⟩:=I.tuple hx
 have hlen:its.toArray.size=xs.length:=by rw [List.size_toArray]; exact r.length.symm
 refine ⟨"tuple",_,PyProof.Rows.slot_tuple_getitem.lookup,ht.typeIs,?_⟩
 refine HT.getItem_tuple_cut ht hs pl pu (by rw [hlen]; exact hw) ?_ (by rw [hlen]; exact hz)
 rw [hlen]
 refine ⟨.ref s.heap.objs.size,_,I.laid (t':=s.toks) (o:=.tup (cutV xs lo hi)) (fun b ob q=>Heap.get?_push_of_some _ q) (Nat.le_refl _) ?_,rfl,q _ (I.hok.fresh (Nat.le_refl _))⟩
 exact ⟨Nat.le_trans (cutV_length xs lo hi) hz,_,(r.drop (HT.sIx xs.length 0 lo)).take (HT.sIx xs.length xs.length hi - HT.sIx xs.length 0 lo),IsTup.new _ _⟩
noncomputable def rCatT (K:PySem.W.Frag):R2:=fun x y H Q=>∃ a b xs ys,x=.ref a/\y=.ref b/\SqT K H a xs/\SqT K H b ys/\xs≠[]/\xs.length + ys.length<=sizeLine∧
 (ys=[]->Q (.ref a) H)/\(ys≠[]->∀ p,H p=none->Q (.ref p) (upd H p (.tup (xs++ys))))
theorem Vals.nil_iff {xs:List V} {us:List Value} (r:Vals xs us):us=[] ↔ xs=[]:=by
 cases r with
 | nil=>simp
 | cons _ _=>simp
theorem op_catT:OpR X (binaryOp .Add) (rCatT X.K):=by
 intro pins s σ H x y v u Q I rx ry h
 obtain ⟨a,b,xs,ys,rfl,rfl,ha,hb,hx,hz,q1,q2⟩:=h
 cases rx
 cases ry
 obtain ⟨its,r1,p1,_⟩:=I.tuple ha
 obtain ⟨its2,r2,p2,_⟩:=I.tuple hb
 refine HT.cat_tup p1 p2 (fun z=>hx (r1.nil_iff.mp z)) (fun z=>⟨.ref a,H,I,rfl,q1 (r2.nil_iff.mp z)⟩) (fun z=>?_) (by rw [<- r1.length,<- r2.length]; exact hz)
 refine ⟨.ref s.heap.objs.size,_,I.laid (t':=s.toks) (o:=.tup (xs++ys)) (fun b ob q=>Heap.get?_push_of_some _ q) (Nat.le_refl _) ?_,rfl,q2 (fun w=>z (r2.nil_iff.mpr w)) _ (I.hok.fresh (Nat.le_refl _))⟩
 exact ⟨by rw [List.length_append]; exact hz,_,r1.append r2,IsTup.new _ _⟩
end
end L2
namespace L2
open PySem PySem.Spec PyProof.Rows
noncomputable def ixN (n:Nat) (i:Int):Option Nat:=if 0<=i then (if i < n then some i.toNat else none) else if -(n:Int)<=i then some (i + n).toNat else none
noncomputable def atI {α:Type} (xs:List α) (i:Int):Option α:=(ixN xs.length i).bind fun j=>xs[j]?
theorem ixN_seq {n:Nat} {i:Int} {j:Nat} (h:ixN n i=some j):seqIndex? i n=some j/\j < n/\-(n:Int)<=i/\i < n:=by
 unfold ixN at h
 by_cases h0:0<=i
 ·rw [if_pos h0] at h
  by_cases h1:i < n
  ·rw [if_pos h1] at h
   have e:i.toNat=j:=Option.some.inj h
   exact ⟨by rw [seqIndex_of h0 h1,e],by omega,by omega,h1⟩
  ·rw [if_neg h1] at h; cases h
 ·rw [if_neg h0] at h
  by_cases h1 : -(n:Int)<=i
  ·rw [if_pos h1] at h
   have e:(i + n).toNat=j:=Option.some.inj h
   exact ⟨by rw [seqIndex_neg (by omega) h1,e],by omega,h1,by omega⟩
  ·rw [if_neg h1] at h; cases h
theorem atI_get {α:Type} {xs:List α} {i:Int} {v:α} (h:atI xs i=some v):∃ j,seqIndex? i xs.length=some j/\xs[j]? = some v/\j < xs.length/\-(xs.length:Int)<=i/\i < xs.length:=by
 unfold atI at h
 cases e:ixN xs.length i with
 | none=>rw [e] at h; cases h
 | some j=>
  rw [e] at h
  obtain ⟨h1,h2,h3,h4⟩:=ixN_seq e
  exact ⟨j,h1,h,h2,h3,h4⟩
theorem atI_nat {α:Type} {xs:List α} {j:Nat} {v:α} (h:xs[j]? = some v):atI xs (j:Int)=some v:=by
 have hj:j < xs.length:=(List.getElem?_eq_some_iff.mp h).1
 have e:ixN xs.length (j:Int)=some j:=by
  unfold ixN
  rw [if_pos (by omega),if_pos (by omega)]; simp
 unfold atI; rw [e]; exact h
theorem atI_last {α:Type} (xs:List α) (v:α):atI (xs++[v]) (-1)=some v:=by
 have hl:(xs++[v]).length=xs.length + 1:=by simp
 have e:ixN (xs++[v]).length (-1)=some xs.length:=by
  unfold ixN
  rw [hl,if_neg (by decide),if_pos (by omega)]
  congr 1
  omega
 unfold atI
 rw [e]
 show (xs++[v])[xs.length]? = some v
 simp
noncomputable def PlainIx (b:Expr):Prop:=∀ o i,subscripted b false o i=operate [o,i] (getItem o i)
noncomputable def IxR (X:Cx) (r:R2):Prop:=
 ∀ (value slice:Expr) (pins:List (Addr × Obj)) (s:Shared) (σ:St) (H:Hp) (x y:V) (v u:Value) (Q:VK),Inv X pins σ H s->RelV x v->RelV y u->r x y H Q->
  subscripted slice false v u=operate [v,u] (getItem v u)->wpAny (model X.prog X.w) X.A (subscriptTail value slice v u) (EP X pins σ Q) X.xe s
noncomputable def MtR (X:Cx) (id:String) (r:V->List V->Hp->VK->Prop):Prop:=
 ∀ (pins:List (Addr × Obj)) (s:Shared) (σ:St) (H:Hp) (x:V) (xs:List V) (v:Value) (us:List Value) (Q:VK),Inv X pins σ H s->RelV x v->Vals xs us->r x xs H Q->
  wpAny (model X.prog X.w) X.A (call (.builtin id) (v :: us)) (EP X pins σ Q) X.xe s
section
variable {X:Cx} {a b:Expr} {ta tb:TE} {pos:Pos}
theorem pe_ix {r:R2} (hr:IxR X r) (ha:PE X a ta) (hb:PE X b tb) (hs:PlainIx b):PE X (.Subscript a b pos) (tOp r ta tb):=by
 intro pins s σ H Q I h
 exact Subscript_ (binT ha hb I h fun v u s2 x y H2 I2 rx ry q=>hr a b pins s2 σ H2 x y v u Q I2 rx ry q (hs _ _))
noncomputable def rIxL (K:PySem.W.Frag):R2:=fun x y H Q=>∃ p xs i v,x=.ref p/\y=.int i/\SqL K H p xs/\atI xs i=some v/\Q v H
noncomputable def rIxT (K:PySem.W.Frag):R2:=fun x y H Q=>∃ p xs i v,x=.ref p/\y=.int i/\SqT K H p xs/\atI xs i=some v/\Q v H
theorem ix_list:IxR X (rIxL X.K):=by
 intro value slice pins s σ H x y v u Q I rx ry h hs
 obtain ⟨p,xs,i,z,rfl,rfl,hq,he,q⟩:=h
 cases rx
 obtain ⟨t,rfl⟩:=ry
 obtain ⟨its,r,pl,hz⟩:=I.list hq
 obtain ⟨j,h1,h2,h3,h4,h5⟩:=atI_get he
 obtain ⟨w,ew,rw'⟩:=r.get h2
 have hl:=r.length
 have hn:=line63
 have fin:EP X pins σ Q w s:=⟨z,H,I,rw',q⟩
 by_cases h0:0<=i
 ·have hj:i.toNat=j:=by
   rw [seqIndex_of h0 h5] at h1
   exact Option.some.inj h1
  exact item_listR pl.isList h0 (by omega) (by rw [hj]; simpa using ew) fin hs
 ·have hj:(i + (its.toArray.size:Int)).toNat=j:=by
   rw [seqIndex_neg (by omega) h4] at h1
   rw [List.size_toArray,<- hl]
   exact Option.some.inj h1
  exact subscriptTail_builtinR (x:=w) pl.isList.typeIs slot_list_getitem.lookup
   (wpAny_getItem_list_neg (Q:=fun r s'=>r=w/\EP X pins σ Q r s') pl.isList (by omega) (by rw [List.size_toArray] <;> omega) (by omega) (by rw [hj]; simpa using ew) ⟨rfl,fin⟩) hs
theorem ix_tup:IxR X (rIxT X.K):=by
 intro value slice pins s σ H x y v u Q I rx ry h hs
 obtain ⟨p,xs,i,z,rfl,rfl,hq,he,q⟩:=h
 cases rx
 obtain ⟨t,rfl⟩:=ry
 obtain ⟨its,r,pl,hz⟩:=I.tuple hq
 obtain ⟨j,h1,h2,h3,h4,h5⟩:=atI_get he
 obtain ⟨w,ew,rw'⟩:=r.get h2
 have hl:=r.length
 have hn:=line63
 have fin:EP X pins σ Q w s:=⟨z,H,I,rw',q⟩
 exact subscriptTail_builtinR (x:=w) pl.typeIs slot_tuple_getitem.lookup
  (getItem_tuple (j:=j) (Q:=fun r s'=>r=w/\EP X pins σ Q r s') pl (by omega) (by omega) (by rw [List.size_toArray,<- hl]; exact h1) (by simpa using ew) ⟨rfl,fin⟩) hs
theorem mapSeq_set (its:List Value) (n j:Nat) (u:Value):Obj.mapSeq (·.setIfInBounds j u) { cls:=.type "list",data:=.seq its.toArray n }={ cls:=.type "list",data:=.seq (its.set j u).toArray n }:=by
 simp [Obj.mapSeq]
theorem Inv.lst {pins:List (Addr × Obj)} {σ:St} {H:Hp} {s:Shared} {p:Addr} {xs:List V} (I:Inv X pins σ H s) (h:H p=some (.lst xs)) :
  ∃ (its:List Value) (n:Nat),Vals xs its/\s.heap.get? p=some { cls:=.type "list",data:=.seq its.toArray n }/\xs.length<=sizeLine:=by
 obtain ⟨z,its,n,r,e⟩:=I.hok p _ h
 exact ⟨its,n,r,e,z⟩
theorem Inv.lstUpd {pins:List (Addr × Obj)} {σ:St} {H:Hp} {s:Shared} {p:Addr} {xs ys:List V} {its its':List Value} {n n':Nat} {f:Obj->Obj} (I:Inv X pins σ H s) (h:H p=some (.lst xs))
  (ho:s.heap.get? p=some { cls:=.type "list",data:=.seq its.toArray n }) (hf:f { cls:=.type "list",data:=.seq its.toArray n }={ cls:=.type "list",data:=.seq its'.toArray n' }) (r:Vals ys its') (hz:ys.length<=sizeLine) (t:Nat) :
  Inv X pins σ (upd H p (.lst ys)) { s with heap:=s.heap.update p f,toks:=t }:=by
 have e:(s.heap.update p f).get? p=some { cls:=.type "list",data:=.seq its'.toArray n' }:=by
  rw [Heap.get?_update_self f ho (by rw [hf] <;> rfl),hf]
 refine I.write (x:=p) (e:=p) (by rw [h]; trivial) (.inl rfl) (fun b u hb q=>(Heap.get?_update_other _ _ (Ne.symm hb)).trans q) ⟨_,e⟩ ?_
 exact ⟨hz,its',n',r,e⟩
noncomputable def rSetL:V->V->V->Hp->(Hp->Prop)->Prop:=fun o i v H Q=>∃ p xs k j,o=.ref p/\i=.int k/\H p=some (.lst xs)/\ixN xs.length k=some j/\Q (upd H p (.lst (xs.set j v)))
theorem set_list:PSet X rSetL:=by
 intro pins s σ H o i v ov iv u Q I ro ri rv h
 obtain ⟨p,xs,k,j,rfl,rfl,hp,hj,q⟩:=h
 cases ro
 obtain ⟨t,rfl⟩:=ri
 obtain ⟨its,n,r,ho,hz⟩:=I.lst hp
 obtain ⟨h1,h2,h3,h4⟩:=ixN_seq hj
 have hl:=r.length
 have hn:=line63
 have I':Inv X pins σ (upd H p (.lst (xs.set j v))) { s with heap:=s.heap.update p (Obj.mapSeq (·.setIfInBounds j u)) }:=
  I.lstUpd hp ho (mapSeq_set its n j u) (r.set rv j) (by rw [List.length_set]; exact hz) s.toks
 by_cases h0:0<=k
 ·have hk:k.toNat=j:=by
   rw [seqIndex_of h0 h4] at h1
   exact Option.some.inj h1
  exact PySem.W.ki_setAt ho h0 (by omega) (by rw [List.size_toArray,<- hl]; exact h4) (by rw [hk]; exact ⟨_,I',q⟩)
 ·have hk:(k + (its.toArray.size:Int)).toNat=j:=by
   rw [seqIndex_neg (by omega) h3] at h1
   rw [List.size_toArray,<- hl]
   exact Option.some.inj h1
  exact PySem.W.ki_setBack ho (by omega) (by rw [List.size_toArray,<- hl]; exact h3) (by omega) (by rw [hk]; exact ⟨_,I',q⟩)
theorem slice_bounds (lo hi:Option Int) (n:Nat):(sliceBounds lo hi none n).1=((HT.sIx n 0 lo:Nat):Int)/\(sliceBounds lo hi none n).2.1=((HT.sIx n n hi:Nat):Int)/\(sliceBounds lo hi none n).2.2=1:=by
 refine ⟨?_,?_,rfl⟩
 ·cases lo with
  | none=>simp [sliceBounds,HT.sIx]
  | some i=>
   simp only [sliceBounds,HT.sIx,Option.getD_none,show (1:Int) > 0 by decide,if_true]
   by_cases h:i < 0
   ·simp only [h,if_true] <;> omega
   ·simp only [h,if_false] <;> omega
 ·cases hi with
  | none=>simp [sliceBounds,HT.sIx]
  | some i=>
   simp only [sliceBounds,HT.sIx,Option.getD_none,show (1:Int) > 0 by decide,if_true]
   by_cases h:i < 0
   ·simp only [h,if_true] <;> omega
   ·simp only [h,if_false] <;> omega
theorem slicePick_cut (its:List Value) (lo hi:Option Int):slicePick its.toArray lo hi none=((its.drop (HT.sIx its.length 0 lo)).take (HT.sIx its.length its.length hi - HT.sIx its.length 0 lo)).toArray:=by
 obtain ⟨h1,h2,h3⟩:=slice_bounds lo hi its.toArray.size
 unfold slicePick
 rw [h1,h2,h3]
 simp only [sliceRange_one,pick_run,List.size_toArray] <;> rfl
noncomputable def rSlL (K:PySem.W.Frag):V->Option Int->Option Int->Hp->VK->Prop:=fun x lo hi H Q=>∃ a xs,x=.ref a/\SqL K H a xs/\∀ p,H p=none->Q (.ref p) (upd H p (.lst (cutV xs lo hi)))
theorem sl_list:SlR X (rSlL X.K):=by
 intro pins s σ H x v vl vu lo hi sl Q I rx hs pl pu h
 obtain ⟨a,xs,rfl,hx,q⟩:=h
 cases rx
 obtain ⟨its,r,ht,hz⟩:=I.list hx
 have hlen:=r.length
 refine ⟨"list",_,slot_list_getitem.lookup,ht.isList.typeIs,?_⟩
 refine wpAny_getItem_list_slice ht.isList hs pl pu .none (by simp) ?_ (by rw [List.size_toArray] <;> omega)
 rw [slicePick_cut,<- hlen]
 refine ⟨.ref s.heap.objs.size,_,I.laid (t':=s.toks) (o:=.lst (cutV xs lo hi)) (fun b ob q=>Heap.get?_push_of_some _ q) (Nat.le_refl _) ?_,rfl,q _ (I.hok.fresh (Nat.le_refl _))⟩
 exact ⟨Nat.le_trans (cutV_length xs lo hi) hz,_,0,(r.drop (HT.sIx xs.length 0 lo)).take (HT.sIx xs.length xs.length hi - HT.sIx xs.length 0 lo),Heap.get?_push_size _ rfl⟩
theorem call_len_seq:CallR X (.builtin "len") (fun xs H Q=>∃ p ys,xs=[.ref p]/\(SqL X.K H p ys\/SqT X.K H p ys)/\Q (.int ys.length) H):=by
 intro pins s σ H xs us Q I r h
 obtain ⟨p,ys,rfl,hq,q⟩:=h
 obtain ⟨u,rfl,rx⟩:=vals1 r
 cases rx
 have hn:=line63
 rcases hq with hq | hq
 ·obtain ⟨its,r',pl,hz⟩:=I.list hq
  have hlen:=r'.length
  exact Calls.call_len_list pl.isList (by simp only [List.size_toArray] <;> omega) ⟨.int ys.length,H,I.tok _,⟨s.toks + 1,by rw [List.size_toArray,hlen]⟩,q⟩
 ·obtain ⟨its,r',pl,hz⟩:=I.tuple hq
  have hlen:=r'.length
  exact len_tuple pl (by simp only [List.size_toArray] <;> omega) ⟨.int ys.length,H,I.tok _,⟨s.toks + 1,by rw [List.size_toArray,hlen]⟩,q⟩
theorem call_list_of:CallR X (.type "list") (fun xs H Q=>∃ p ys,xs=[.ref p]/\(SqL X.K H p ys\/SqT X.K H p ys)/\∀ l,H l=none->Q (.ref l) (upd H l (.lst ys))):=by
 intro pins s σ H xs us Q I r h
 obtain ⟨p,ys,rfl,hq,q⟩:=h
 obtain ⟨u,rfl,rx⟩:=vals1 r
 cases rx
 have fin:∀ (its:List Value),Vals ys its->ys.length<=sizeLine->∀ (h':Heap) (c':Nat),(∀ b o',s.heap.get? b=some o'->h'.get? b=some o')->
   h'.get? s.heap.objs.size=some { cls:=.type "list",dict:=none,data:=.seq its.toArray c',slots:=#[] }->EP X pins σ Q (.ref s.heap.objs.size) { s with heap:=h' }:=fun its r' hz h' c' kp e=>
  ⟨.ref s.heap.objs.size,_,I.laid (t':=s.toks) kp (Nat.le_refl _) (show ObjOk X.prog X.w _ h' _ (.lst ys) from ⟨hz,its,c',r',e⟩),rfl,q _ (I.hok.fresh (Nat.le_refl _))⟩
 rcases hq with hq | hq
 ·obtain ⟨its,r',pl,hz⟩:=I.list hq
  have hlen:=r'.length
  obtain ⟨o,ho,hc,n,hd⟩:=pl.isList
  exact call_list_seq p (.inl rfl) ho hc hd (fun h' c' kp e=>fin its r' hz h' c' kp e) (by simp only [List.size_toArray] <;> omega)
 ·obtain ⟨its,r',pl,hz⟩:=I.tuple hq
  have hlen:=r'.length
  obtain ⟨o,ho,hc,n,hd⟩:=pl
  exact call_list_seq p (.inr rfl) ho hc hd (fun h' c' kp e=>fin its r' hz h' c' kp e) (by simp only [List.size_toArray] <;> omega)
theorem call_tuple_of:CallR X (.type "tuple") (fun xs H Q=>∃ p ys,xs=[.ref p]/\((SqL X.K H p ys/\∀ l,H l=none->Q (.ref l) (upd H l (.tup ys)))\/(SqT X.K H p ys/\Q (.ref p) H))):=by
 intro pins s σ H xs us Q I r h
 obtain ⟨p,ys,rfl,h⟩:=h
 obtain ⟨u,rfl,rx⟩:=vals1 r
 cases rx
 rcases h with ⟨hq,q⟩ | ⟨hq,q⟩
 ·obtain ⟨its,r',pl,hz⟩:=I.list hq
  have hlen:=r'.length
  refine call_tuple_list pl.isList (fun h' kp=>?_) (by simp only [List.size_toArray] <;> omega)
  have I1:Inv X pins σ H { s with heap:=h' }:=I.kept (t':=s.toks) kp
  have I2:Inv X pins σ (upd H h'.objs.size (.tup ys)) { s with heap:=h'.push { cls:=.type "tuple",data:=.seq its.toArray } }:=
   I1.laid (t':=s.toks) (fun b o e=>Heap.get?_push_of_some _ e) (Nat.le_refl _) (show ObjOk X.prog X.w _ _ _ (.tup ys) from ⟨hz,its,r',IsTup.new _ _⟩)
  exact ⟨.ref h'.objs.size,_,I2,rfl,q _ (I1.hok.fresh (Nat.le_refl _))⟩
 ·obtain ⟨its,r',pl,hz⟩:=I.tuple hq
  exact call_tuple_same pl ⟨.ref p,H,I,rfl,q⟩
noncomputable def tyV (K:PySem.W.Frag) (T:String) (x:V) (H:Hp):Prop:=match x with
 | .str _=>T = "str"
 | .int _=>T = "int"
 | .ref p=>(T = "list"/\∃ xs,SqL K H p xs)\/(T = "tuple"/\∃ o,K.lookup p=some o/\o.cls=.type "tuple"/\o.dict=none)∨
   (T = "dict"/\((∃ kvs,H p=some (.dK kvs))\/∃ kvs,H p=some (.dT kvs)))\/(T = "set"/\∃ S n,H p=some (.set S n))
 | _=>False
theorem tyV_is {pins:List (Addr × Obj)} {σ:St} {H:Hp} {s:Shared} {T:String} {x:V} {v:Value} (I:Inv X pins σ H s) (r:RelV x v) (ty:tyV X.K T x H) :
  s.TypeIs v T/\∀ a,v=.ref a->∃ ob,s.heap.get? a=some ob/\ob.dict=none:=by
 cases x with
 | str z=>
  obtain ⟨t,rfl⟩:=r
  cases (show T = "str" from ty)
  exact ⟨typeIs_str s z t,fun _ e=>nomatch e⟩
 | int i=>
  obtain ⟨t,rfl⟩:=r
  cases (show T = "int" from ty)
  exact ⟨typeIs_int s i t,fun _ e=>nomatch e⟩
 | ref p=>
  cases r
  rcases ty with ⟨rfl,xs,hq⟩ | ⟨rfl,o,hk,hc,hd⟩ | ⟨rfl,hk⟩ | ⟨rfl,S,n,hk⟩
  ·obtain ⟨its,_,pl,_⟩:=I.list hq
   refine ⟨pl.isList.typeIs,fun a e=>?_⟩
   cases e
   obtain ⟨o,n,e,c,hd,_⟩:=pl
   exact ⟨o,e,hd⟩
  ·refine ⟨⟨o,I.kIn p o hk,hc⟩,fun a e=>?_⟩
   cases e
   exact ⟨o,I.kIn _ o hk,hd⟩
  ·have z:∃ o,s.heap.get? p=some o/\o.ExactDict:=by
    rcases hk with ⟨kvs,hk⟩ | ⟨kvs,hk⟩
    ·obtain ⟨_,_,_,_,o,_,_,e,ex,_⟩:=I.hok p _ hk
     exact ⟨o,e,ex⟩
    ·obtain ⟨_,_,_,_,o,_,_,e,ex,_⟩:=I.hok p _ hk
     exact ⟨o,e,ex⟩
   obtain ⟨o,e,ex⟩:=z
   refine ⟨⟨o,e,ex.1⟩,fun a e2=>?_⟩
   cases e2
   exact ⟨o,e,ex.2.1⟩
  ·obtain ⟨o,_,_,_,e,ex,_⟩:=I.hok p _ hk
   refine ⟨⟨o,e,ex.1⟩,fun a e2=>?_⟩
   cases e2
   exact ⟨o,e,ex.2.1⟩
 | _=>exact False.elim ty
noncomputable def tBM (K:PySem.W.Frag) (T:String) (r:V->List V->Hp->VK->Prop) (to:TE) (t:TA):TE:=fun σ H Q=>to σ H fun x H1=>tyV K T x H1/\t σ H1 fun xs H2=>r x xs H2 Q
variable {o e:Expr} {es:List Expr} {to:TE} {t:TA} {name:Str} {apos cpos:Pos} {T id:String} {r:V->List V->Hp->VK->Prop}
theorem pe_bm (pa:PlainAttrs T) (slot:Slot T name id) (hty:typeOf (.builtin id)=pure (.type "method_descriptor")) (hm:MtR X id r) (ho:PE X o to) (ha:PA X (e :: es) t)
  (hbase:attributeBase o name X.env (eval o X.env)=eval o X.env:=by rfl)
  (hfew:((backTo cpos (starEach (e :: es) X.env)).all (fun x=>!x.1) && (backToKw cpos (keywordEach [] X.env)).all (fun x=>x.1.isSome)
   && decide ((e :: es).length + ([]:List Keyword).length + (if ([]:List Keyword).isEmpty then 0 else 1) < 30))=true:=by rfl)
  (hline:(apos.endLine == cpos.line)=true:=by rfl) (hs:starEach (e :: es) X.env=(false,eval e X.env) :: starEach es X.env:=by rfl) (hplain:(backTo cpos (starEach es X.env)).any (·.1)=false:=by rfl) :
  PE X (.Call (.Attribute o name apos) (e :: es) [] cpos) (tBM X.K T r to t):=by
 intro pins s σ H Q I h
 refine wpAny_Call_method_late hbase hfew hline rfl (thn (ho pins s σ H _ I h) fun v s1 ⟨x,H1,I1,r1,ty,q1⟩=>?_)
 obtain ⟨h1,h2⟩:=tyV_is I1 r1 ty
 refine ⟨T,id,pa,slot,hty,h1,h2,?_⟩
 have hA:=ha cpos pins s1 σ H1 _ I1 q1
 rw [hs] at hA |-
 refine Calls.callWith_builtin (by show (false || (backTo cpos (starEach es X.env)).any (·.1))=false; rw [hplain] <;> rfl) (Calls.evalArgs_plain ?_)
 exact thn hA fun us s2 ⟨vs,H2,I2,r2,q2⟩=>hm pins s2 σ H2 x vs v us Q I2 r1 r2 q2
/- xs.append(e),list.index on a module's tuple .. are MtR facts of 06m -/
end
end L2
namespace L2
open PySem PySem.Spec PyProof.Rows
noncomputable def MtM (X:Cx) (id:String) (r:V->List V->Hp->VK->Prop):Prop:=
 ∀ (pins:List (Addr × Obj)) (s:Shared) (σ:St) (H:Hp) (x:V) (xs:List V) (v:Value) (us:List Value) (Q:VK),Inv X pins σ H s->RelV x v->Vals xs us->r x xs H Q->
  wpAny (model X.prog X.w) X.A (call (.builtin id) (v :: us)) (EP X pins σ Q) X.xe s
theorem Vals.one:∀ {x:V} {us:List Value},Vals [x] us->∃ u,us=[u]/\RelV x u
 | _,_,.cons r .nil=>⟨_,rfl,r⟩
theorem Vals.rep {xs:List V} {us:List Value} (h:Vals xs us):∀ k:Nat,Vals (List.replicate k xs).flatten (List.replicate k us).flatten
 | 0=>.nil
 | k + 1=>by
  rw [List.replicate_succ,List.replicate_succ,List.flatten_cons,List.flatten_cons]
  exact Vals.append h (Vals.rep h k)
theorem foldl_rep (its:List Value):∀ (k:Nat) (acc:List Value),
  List.foldl (fun x1 x2=>x1++x2) acc.toArray (List.replicate k its.toArray)=(acc++(List.replicate k its).flatten).toArray
 | 0,acc=>by simp
 | k + 1,acc=>by
  have e:acc.toArray++its.toArray=(acc++its).toArray:=by simp
  have e2:(acc++its)++(List.replicate k its).flatten=acc++(List.replicate (k + 1) its).flatten:=by
   rw [List.replicate_succ,List.flatten_cons,List.append_assoc]
  rw [<- e2,<- foldl_rep its k (acc++its),<- e,List.replicate_succ,List.foldl_cons]
section
variable {X:Cx} {pins:List (Addr × Obj)} {σ:St} {H:Hp} {s:Shared} {l b:Addr} {xs ys zs:List V}
theorem Inv.lset {its its':List Value} {n:Nat} {f:Array Value->Array Value} {t':Nat} (I:Inv X pins σ H s) (hH:H l=some (.lst xs))
  (e:s.heap.get? l=some { cls:=.type "list",data:=.seq its.toArray n }) (hf:f its.toArray=its'.toArray) (hv:Vals ys its') (hz:ys.length<=sizeLine) :
  Inv X pins σ (upd H l (.lst ys)) { s with heap:=s.heap.update l (Obj.mapSeq f),toks:=t' }:=by
 have q:=PySem.IsL.update e f
 rw [hf] at q
 refine I.write (x:=l) (e:=l) (by rw [hH]; exact trivial) (.inl rfl) (fun b' u hb hu=>(Heap.get?_update_other s.heap (Obj.mapSeq f) (Ne.symm hb)).trans hu) ⟨_,q⟩ ?_
 exact ⟨hz,its',_,hv,q⟩
theorem Inv.lnew {its:List Value} {t':Nat} (I:Inv X pins σ H s) (hv:Vals ys its) (hz:ys.length<=sizeLine) :
  Inv X pins σ (upd H s.heap.objs.size (.lst ys)) { s with heap:=s.heap.push { cls:=.type "list",data:=.seq its.toArray },toks:=t' }:=
 I.laid (fun _ _ q=>Heap.get?_push_of_some _ q) (Nat.le_refl _) ⟨hz,its,0,hv,Heap.get?_push_size _ rfl⟩
theorem Inv.fresh (I:Inv X pins σ H s):H s.heap.objs.size=none:=I.hok.fresh (Nat.le_refl _)
theorem Inv.lstM (I:Inv X pins σ H s) (hH:H l=some (.lst xs)):xs.length<=sizeLine/\∃ (its:List Value) (n:Nat),Vals xs its/\xs.length=its.length/\s.heap.get? l=some { cls:=.type "list",data:=.seq its.toArray n }:=by
 obtain ⟨z,its,n,r,e⟩:=I.hok l _ hH
 exact ⟨z,its,n,r,r.length,e⟩
theorem notLongL {n:Nat} (h:n<=sizeLine):Builtin.List.listTooLong n=false:=by
 unfold Builtin.List.listTooLong
 exact decide_eq_false (by omega)
end
section
variable {X:Cx}
noncomputable def rAppend:V->List V->Hp->VK->Prop:=fun x vs H Q=>∃ l xs y,x=.ref l/\vs=[y]/\H l=some (.lst xs)/\xs.length < sizeLine/\Q .non (upd H l (.lst (xs++[y])))
theorem mt_append:MtM X "list.append" rAppend:=by
 intro pins s σ H x vs v us Q I rx rv h
 obtain ⟨l,xs,y,rfl,rfl,hH,hz,q⟩:=h
 cases rx
 obtain ⟨u,rfl,ru⟩:=rv.one
 obtain ⟨z,its,n,r,hl,e⟩:=I.lstM hH
 refine call_meets F.slot_list_append ⟨_,e,rfl⟩ F.entry_list_append (F.args_list_append_2 _ _) (PySem.list_append l its.toArray n u (by rw [List.size_toArray]; omega)) ⟨e,?_⟩
 refine ⟨.non,_,I.lset (its':=its++[u]) hH e (by simp) (r.append (.cons ru .nil)) ?_,rfl,q⟩
 rw [List.length_append,List.length_singleton]
 omega
noncomputable def rCat:R2:=fun x y H Q=>∃ l b xs zs,x=.ref l/\y=.ref b/\H l=some (.lst xs)/\H b=some (.lst zs)/\xs.length + zs.length<=sizeLine/\∀ p,H p=none->Q (.ref p) (upd H p (.lst (xs++zs)))
theorem op_cat:OpR X (binaryOp .Add) rCat:=by
 intro pins s σ H x y v u Q I rx ry h
 obtain ⟨l,b,xs,zs,rfl,rfl,hH,hB,hz,q⟩:=h
 cases rx
 cases ry
 obtain ⟨z,its,n,r,hl,e⟩:=I.lstM hH
 obtain ⟨z2,its2,n2,r2,hl2,e2⟩:=I.lstM hB
 refine PySem.P.add_list e e2 ?_ (by rw [List.size_toArray,List.size_toArray]; omega)
 have ea:its.toArray++its2.toArray=(its++its2).toArray:=by simp
 rw [ea]
 exact ⟨.ref _,_,I.lnew (t':=s.toks) (r.append r2) (by rw [List.length_append]; omega),rfl,q _ I.fresh⟩
noncomputable def rRep:R2:=fun x y H Q=>∃ l k xs,x=.ref l/\y=.int k/\H l=some (.lst xs)/\-(2 ^ 63)<=k/\k < 2 ^ 63/\xs.length * k.toNat<=sizeLine∧
 ∀ p,H p=none->Q (.ref p) (upd H p (.lst (List.replicate k.toNat xs).flatten))
theorem len_rep {α:Type} (xs:List α) (k:Nat):(List.replicate k xs).flatten.length=k * xs.length:=by
 induction k with
 | zero=>simp
 | succ k ih=>rw [List.replicate_succ,List.flatten_cons,List.length_append,ih,Nat.succ_mul,Nat.add_comm]
theorem op_rep:OpR X (binaryOp .Mult) rRep:=by
 intro pins s σ H x y v u Q I rx ry h
 obtain ⟨l,k,xs,rfl,rfl,hH,h1,h2,hz,q⟩:=h
 cases rx
 obtain ⟨t,rfl⟩:=ry
 obtain ⟨z,its,n,r,hl,e⟩:=I.lstM hH
 have hlen:its.toArray.size * k.toNat<=sizeLine:=by rw [List.size_toArray,<- hl]; exact hz
 have hcap:¬ its.toArray.size * k.toNat > (2 ^ 63 - 1) / 8:=by
  have:(sizeLine:Nat)<=(2 ^ 63 - 1) / 8:=by decide
  omega
 have hfit:¬ (!Builtin.List.listFitsIndex k)=true:=by
  rw [fitsIndex_both h1 h2]
  exact Bool.false_ne_true
 have hlong:¬ Builtin.List.listTooLong (its.toArray.size * k.toNat)=true:=by
  rw [notLongL hlen]
  exact Bool.false_ne_true
 have hnew:List.foldl (fun x1 x2=>x1++x2) #[] (List.replicate (if its.toArray.isEmpty=true then 0 else k.toNat) its.toArray)=(List.replicate k.toNat its).flatten.toArray:=by
  have f0:∀ m:Nat,List.foldl (fun x1 x2=>x1++x2) #[] (List.replicate m its.toArray)=(List.replicate m its).flatten.toArray:=fun m=>by
   have:=foldl_rep its m []
   rw [List.nil_append] at this
   exact this
  rw [f0]
  cases its with
  | nil=>simp
  | cons a r'=>rw [if_neg (by simp)]
 refine wpAny_binaryOp_repeat_ref (T:="list") (U:="int") (by decide) ⟨_,e,rfl⟩ (fun s'=>typeIs_int s' k t) noFill_list_mul F.fills_int_mul F.slot_int_rmul repeat_list F.slot_int_index.lookup
  (call_meets F.slot_int_rmul (typeIs_int s k t) F.entry_int_rmul (F.args_int_rmul_2 _ _) (int___rmul___int_list k t l its.toArray n)
   ⟨e,rfl,⟨_,e,rfl⟩,call_meets F.slot_list_mul ⟨_,e,rfl⟩ F.entry_list_mul (F.args_list_mul_2 _ _) (AutoListH.list___mul___list_int_3 l its.toArray n k t hfit hcap hlong) ⟨e,?_⟩⟩)
 rw [hnew]
 exact ⟨.ref _,_,I.lnew (t':=s.toks) (r.rep k.toNat) (by rw [len_rep,Nat.mul_comm]; exact hz),rfl,q _ I.fresh⟩
end
section
variable {prog:Program} {w:World} {A:Around} {E:Value->Shared->Prop} {s:Shared}
end
section
variable {X:Cx}
end
end L2
namespace Att
open PySem PySem.W PySem.Calls PyProof.Rows
theorem ints_of_wellAll {P:Params} {h:Heap}:∀ (ns:List Int) (vs:List Value),WellAll P h vs (ns.map WData.int)->IntsAre vs ns:=by
 intro ns
 induction ns with
 | nil=>
  intro vs w
  rw [List.map_nil] at w
  cases w
  exact .nil
 | cons n ns ih=>
  intro vs w
  rw [List.map_cons] at w
  cases w with
  | cons a b=>
   cases a
   exact .cons _ _ (ih _ b)
theorem script_of {l:OpenLaw} {n:Nat} (hn:l.most=some n) {P:Params} {h:Heap} {args:List WData} {vals:List Value}
  (hpre:l.row.toRowW.claim.pre args=true) (hwl:WellAll P h vals args) :
  ∃ a vs ns,vals=[Value.ref a]/\args=[WData.list (ns.map WData.int)]/\h.get? a=some { cls:=.type "list",data:=.seq vs.toArray }/\IntsAre vs ns/\ns.length<=n:=by
 have hsh:WShape.hasAll [] args [.list .int]=true:=(pre_splitW hpre).1
 have hc:l.pre.holds [] { args:=args }=true:=(pre_splitW hpre).2
 obtain ⟨d,r,rfl,h1,h2⟩:=hasAllW_cons hsh
 obtain rfl:=hasAllW_nil h2
 obtain ⟨xs,rfl,h3⟩:=hasW_list h1
 obtain ⟨ns,rfl⟩:=items_int h3
 have hlen:ns.length<=n:=by
  unfold OpenLaw.pre at hc
  have h4:(WTm.not (.lt (.lit (.int (n:Int))) (.len (.arg 0)))).holds [] { args:=[.list (ns.map .int)] }=true:=by
   have h4:=(holds_andW hc).1
   rw [hn] at h4
   exact h4
  have h5:=condW_of h4 (w_not (w_lt w_lit (w_len_list (w_arg rfl))))
  rw [List.length_map] at h5
  refine Nat.le_of_not_lt fun q=>?_
  have q':(n:Int) < ((ns.length:Nat):Int):=by omega
  first
   | (rw [decide_eq_true q'] at h5; exact absurd h5 (by decide))
   | (simp at h5; omega)
 cases hwl with
 | cons w1 w2=>
  cases w2
  cases w1 with
  | list ho hall=>exact ⟨_,_,ns,rfl,rfl,ho,ints_of_wellAll ns _ hall,hlen⟩
theorem post_true (l:OpenLaw) (args:List WData):l.row.toRowW.claim.post args (.bool true) args=true:=
 postW_of (r:=l.row.toRowW) (X:=(true == true))
  (show WShape.has [] (.bool true) .bool=true by first | rfl | decide | simp [WShape.has,WShape.arms,WShape.armsAll])
  (show (WTm.eq .res (.lit (.bool true))).value [] { args:=args,res:=some (.bool true),after:=args }=some (.bool (true == true)) from w_eq_bool (w_res rfl) w_lit) rfl
theorem attach_call {l:OpenLaw} {n:Nat} {q:Program} {loose:List Str} {XP:(Str->Option Value)->Heap->Prop} {YP:World->Heap->Prop} {d:DefRec}
  (hn:l.most=some n) (hdf:d.params.defaults=[])
  (call:∀ (w:World) (s₀ s₁:Shared) (mg mb:Str->Option Value) (fa:Addr) (o:Obj) (pm cd doc:Value) (a:Addr) (vs:List Value) (ns:List Int),
   Ground q loose [] XP w s₀ mg mb s₁.heap->YP w s₁.heap->
   s₁.heap.get? fa=some o->o.data=.func (docDef d.name d.params d.body d.scope pm cd doc)->s₁.heap.CodeRec cd d.name->mg d.name=some (.ref fa)->
   s₁.heap.get? a=some { cls:=.type "list",data:=.seq vs.toArray }->IntsAre vs ns->ns.length<=n->s₁.gens=#[]->
   codeAny (model l.prog w) callerA (.call (.ref fa) ⟨[.ref a],[]⟩) (fun r s'=>r=.ok (.ret (.bool true))/\OldK s₁.heap s'.heap/\s'.os=s₁.os/\AllBare s'.gens) s₁) :
  WalkO q loose XP YP l.row.toRowW d [] (fun f vs=>PySem.call f vs):=by
 intro w s₀ s₁ mg mb G Y fa o pm cd doc dV kV ho hd hcd hD hmg hg args vals as hpre hlay hrd hwl hlo
 obtain rfl:dV=.none:=Dflts.none hD hdf
 obtain rfl:kV=.none:=Dflts.noKw hD
 obtain ⟨a,vs,ns,rfl,rfl,hobj,hints,hlen⟩:=script_of hn hpre hwl
 refine enter_call (codeAny_mono (call w s₀ s₁ mg mb fa o pm cd doc a vs ns G Y ho (fd_plain hd) hcd hmg hobj hints hlen hg) fun r s' hq=>?_)
 obtain ⟨rfl,h2,h3,h4⟩:=hq
 exact ⟨.inl ⟨.bool true,.bool true,[],rfl,fun _=>rfl,.bool true,post_true l _,fun _=>⟨List.Pairwise.nil,fun _ hm=>(nomatch hm)⟩⟩,h2,h3,h4⟩
section
variable {prog:Program} {w:World} {A:Around} {E:Value->Shared->Prop} {s:Shared} {K:Frag}
end
end Att
namespace L2
open PySem PySem.Spec PyProof.Rows
theorem vals_ints:∀ {vs:List Value} {ns:List Int},IntsAre vs ns->Vals (ns.map V.int) vs
 | _,_,.nil=>.nil
 | _,_,.cons n t h=>.cons ⟨t,rfl⟩ (vals_ints h)
noncomputable def Only (H:Hp):Prop:=∀ b,H b=none\/∃ o xs,H b=some (.frz o (.lst xs))
theorem law_call {P:Program} {w:World} {K:PySem.W.Frag} {mg mb:Str->Option Value} {CX:CXT} {k:Nat} {fa a:Addr} {fd:FuncData} {x:Str} {sp:Sp} {s₁:Shared} {vs:List Value} {ns:List Int}
  (KX:K.In s₁.heap) (hns:s₁.heap.Ns mainGlobals mg) (hb:s₁.heap.Ns builtinsNs mb) (hbb:∀ x:Str,x≠"__name__"->mb x=bootBuiltins x) (hlim:s₁.heap.NoLimit) (hg:s₁.gens=#[])
  (ha:s₁.heap.get? a=some { cls:=.type "list",data:=.seq vs.toArray }) (hi:IntsAre vs ns) (hl:ns.length<=sizeLine) (hr:Room k callerA)
  (F:∀ base:Heap,K.In base->base.Ns mainGlobals mg->FnOk P w K mg base CX k fa fd [x] sp) (hbind:∀ (s:Shared) (u:Value),BindsTo s fd ⟨[u],[]⟩ [(x,u)])
  (hsp:∀ H:Hp,Only H->SqL K H a (ns.map V.int)->sp [.ref a] H (fun v _=>v=.bl true) fun _ _ _=>False)
  (hCX:∀ H e s',CX [] H s₁ (fun _ _ _=>False) e s'->False) :
  codeAny (model P w) callerA (.call (.ref fa) ⟨[.ref a],[]⟩) (fun r s'=>r=.ok (.ret (.bool true))/\OldK s₁.heap s'.heap/\s'.os=s₁.os/\AllBare s'.gens) s₁:=by
 have rv:=vals_ints hi
 have lenV:=hi.length
 have core:∀ H:Hp,Only H->SqL K H a (ns.map V.int)->HOk P w H s₁.heap->(∀ b,H b≠none->b=a)->(H a≠none->K.lookup a=none)->
   codeAny (model P w) callerA (.call (.ref fa) ⟨[.ref a],[]⟩) (fun r s'=>r=.ok (.ret (.bool true))/\OldK s₁.heap s'.heap/\s'.os=s₁.os/\AllBare s'.gens) s₁:=by
  intro H hO hS hok hA hK
  have base_of:∀ {b:Addr} {o:Obj},s₁.heap.get? b=some o->H b=none->(hidT s₁.heap H).get? b=some o:=fun e n=>hidT_get e n
  have noA:∀ {b:Addr} {o:Obj} {es:Array DictEntry} {ep:Nat},s₁.heap.get? b=some o->o.data=.dict es ep->H b=none:=fun {b o es ep} e d=>by
   cases q:H b with
   | none=>rfl
   | some u=>
    have e':b=a:=hA b (by rw [q]; simp)
    subst e'
    rw [ha] at e; cases e
    have d':Data.seq vs.toArray _=Data.dict es ep:=d
    cases d'
  have nsK:∀ {b:Addr} {m:Str->Option Value},s₁.heap.Ns b m->(hidT s₁.heap H).Ns b m:=fun {b m} ⟨o,es,ep,e,d,r⟩=>⟨o,es,ep,base_of e (noA e d),d,r⟩
  have hKb:K.In (hidT s₁.heap H):=fun b o e=>base_of (KX b o e) (by
   cases q:H b with
   | none=>rfl
   | some u=>
    have e':b=a:=hA b (by rw [q]; simp)
    subst e'
    rw [hK (by rw [q]; simp)] at e; cases e)
  have hM:Mod K mg (hidT s₁.heap H):=⟨hKb,nsK hns,⟨mb,nsK hb,hbb⟩,let ⟨mc,h1,h2⟩:=hlim; ⟨mc,nsK h1,h2⟩⟩
  have e0:Env0 P w K mg (hidT s₁.heap H) callerA [] s₁ H:=⟨rfl,hM,fun b o e=>of_hidT e,Nat.le_of_eq (hidT_size _ _),trivial,fun b hb=>absurd (show b∈([]:List Addr) from hb) (by simp),hok,.of_eq hg⟩
  refine codeAny_mono ((F _ hKb (nsK hns)).run callerA [] s₁ H ⟨[.ref a],[]⟩ [.ref a] [.ref a] _ _ hr e0 (hbind s₁ (.ref a)) (.cons rfl .nil) (hsp H hO hS)) fun r s' h=>?_
  cases r with
  | error e=>exact (hCX H e s' h).elim
  | ok fl=>
   cases fl with
   | next=>exact False.elim h
   | brk=>exact False.elim h
   | cont=>exact False.elim h
   | ret u=>
    obtain ⟨v,H',os,bare,un,hok',r',q⟩:=h
    have q':v=.bl true:=q
    subst q'
    obtain rfl:u=Value.bool true:=r'
    refine ⟨rfl,OldK.of_keep fun b o e=>?_,os,bare⟩
    cases q:H b with
    | none=>exact un.keep b o e q (by intro z; exact absurd (show b∈([]:List Addr) from z) (by simp)) (by simp)
    | some u=>
     rcases hO b with z | ⟨ob,xs,z⟩
     ·rw [q] at z; cases z
     ·have z2:=un.frzs b ob _ z
      obtain ⟨e1,_⟩:=hok b _ z
      obtain ⟨e2,_⟩:=hok' b _ z2
      rw [e] at e1; cases e1
      exact e2
 cases hk:K.lookup a with
 | some o=>
  have e:=KX a o hk
  rw [ha] at e
  cases e
  refine core (fun _=>none) (fun _=>.inl rfl) (.inr ⟨_,vs.toArray,_,hk,rfl,rfl,rfl,by rw [List.size_toArray,lenV]; exact hl,by simpa using rv⟩) (fun b u z=>by have z':(none:Option HO)=some u:=z; cases z') (fun b z=>absurd rfl z) fun z=>absurd rfl z
 | none=>
  refine core (fun b=>if b=a then some (.frz { cls:=.type "list",data:=.seq vs.toArray } (.lst (ns.map V.int))) else none) (fun b=>?_) (.inl (.inr ⟨{ cls:=.type "list",data:=.seq vs.toArray },if_pos rfl⟩)) (fun b u z=>?_) (fun b z=>?_) fun _=>hk
  ·by_cases hb:b=a
   ·exact .inr ⟨_,_,if_pos hb⟩
   ·exact .inl (if_neg hb)
  ·by_cases hb:b=a
   ·have z':=(if_pos hb).symm.trans z
    cases z'
    subst hb
    exact ⟨ha,by rw [List.length_map]; exact hl,vs,_,rv,ha⟩
   ·have z':=(if_neg hb).symm.trans z
    cases z'
  ·by_cases hb:b=a
   ·exact hb
   ·exact absurd (if_neg hb) z
end L2
namespace L2
open PySem PySem.Spec PyProof.Rows
theorem walk_of {l:PySem.W.OpenLaw} {n k:Nat} {q:Program} {loose:List Str} {XP:(Str->Option Value)->Heap->Prop} {YP:World->Heap->Prop} {d:DefRec} {K:Params->PySem.W.Frag} {CX:World->CXT} {sp:World->Sp} {x:Str}
  (hn:l.most=some n) (hn2:n<=sizeLine) (hdf:d.params.defaults=[]) (hr:Room k callerA)
  (hY:∀ (w:World) (h:Heap),YP w h->(K w.params).In h)
  (F:∀ (w:World) (mg:Str->Option Value) (fa:Addr) (h:Heap),(K w.params).In h->h.Ns mainGlobals mg->mg d.name=some (.ref fa)->
   ∃ fd:FuncData,(∀ (s:Shared) (u:Value),BindsTo s fd ⟨[u],[]⟩ [(x,u)])∧
    ∀ base:Heap,(K w.params).In base->base.Ns mainGlobals mg->FnOk l.prog w (K w.params) mg base (CX w) k fa fd [x] (sp w))
  (hsp:∀ (w:World) (H:Hp) (a:Addr) (ns:List Int),ns.length<=n->Only H->SqL (K w.params) H a (ns.map V.int)->sp w [.ref a] H (fun v _=>v=.bl true) fun _ _ _=>False)
  (hCX:∀ (w:World) (H:Hp) (s:Shared) (e:Value) (s':Shared),CX w [] H s (fun _ _ _=>False) e s'->False) :
  PySem.W.WalkO q loose XP YP l.row.toRowW d [] (fun f vs=>PySem.call f vs):=by
 refine Att.attach_call hn hdf fun w s₀ s₁ mg mb fa o pm cd doc a vs ns G Y ho hd hcd hmg hobj hints hlen hg=>?_
 have KX:=hY w _ Y
 obtain ⟨fd,hb,hF⟩:=F w mg fa _ KX G.T.g hmg
 exact law_call KX G.T.g G.T.b G.T.builtins G.T.nolimit hg hobj hints (Nat.le_trans hlen hn2) hr hF hb (fun H hO hS=>hsp w H a ns hlen hO hS) fun H e s'=>hCX w H s₁ e s'
end L2
namespace L2
open PySem PySem.Spec PyProof.Rows
noncomputable def inClass (s:Stmt) (j:Nat):Stmt:=match s with
 | .ClassDef _ _ _ body _ _ _ _ _ _ _=>body.getD j (.Pass ⟨0,0,0,0⟩)
 | _=>.Pass ⟨0,0,0,0⟩
noncomputable def defArgs (s:Stmt):Arguments:=match s with
 | .FunctionDef _ a _ _ _ _ _ _ _ _=>a
 | _=>{ posonlyargs:=[],args:=[],vararg:=none,kwonlyargs:=[],kw_defaults:=[],kwarg:=none,defaults:=[] }
noncomputable def defBody (s:Stmt):List Stmt:=match s with
 | .FunctionDef _ _ b _ _ _ _ _ _ _=>b
 | _=>[]
noncomputable def defScope (s:Stmt):Scope:=match s with
 | .FunctionDef _ _ _ _ _ _ sc _ _ _=>sc
 | _=>{ kind:=.function,names:=[],isGenerator:=false,isCoroutine:=false }
noncomputable abbrev CX0:CXT:=fun _ _ _ _ _ _=>False
noncomputable abbrev E0:XK:=fun _ _ _=>False
theorem pass0 {X:Cx}:Passes CX0 X E0:=fun _ _ _ _ _ _ _ h=>h.elim
structure Fun (K:PySem.W.Frag) (x qual:Str) (st:Stmt) (f:Addr) (fd:FuncData):Prop where
 ex:∃ (oc:Value) (od:Option Addr) (kV doc pm:Value) (an:Option Addr) (cdv ct:Value) (osl:Array (Option Value)),
  fd=PySem.W.fnOf x qual (defArgs st) (defBody st) (defScope st) .none kV doc pm an cdv ct/\K.lookup f=some ⟨oc,od,.func fd,osl⟩/\PySem.W.codeIn K cdv qual=true
 kp:PySem.W.keepIn K (.ref f)=true
section
variable {P:Program} {w:World} {K:PySem.W.Frag} {mg:Str->Option Value} {base:Heap}
theorem Fun.ok {x qual:Str} {st:Stmt} {f:Addr} {fd:FuncData} {N ps:List Str} {k:Nat} {sp:Sp} (F:Fun K x qual st f fd) (S:FnScope N ps (defScope st)) (len:∀ vs H Q E,sp vs H Q E->vs.length=ps.length)
  (hbody:∀ (cdv:Value) (A:Around) (outer:List Env) (s:Shared) (H:Hp) (vs:List V) (Q:VK) (E:XK),Room k (A.deeper (envOfC qual (defScope st) s.heap.objs.size f cdv))->sp vs H Q E->
   ∃ t,PSs (cxOf CX0 P w K mg base N qual (defScope st) f cdv A outer s H E).nox (defBody st) t/\t { nx:=fun _ H'=>Q .non H',rt:=Q } (start N vs) H):FnOk P w K mg base CX0 (k + 1) f fd ps sp:=by
 obtain ⟨oc,od,kV,doc,pm,an,cdv,ct,osl,rfl,lk,hcd⟩:=F.ex
 refine fn_of lk hcd S len fun A outer s H vs Q E hr hsp=>?_
 obtain ⟨t,h,q⟩:=hbody cdv A outer s H vs Q E hr hsp
 exact ⟨t,h.nox,q⟩
theorem Fun.binds {x qual:Str} {st:Stmt} {f:Addr} {fd:FuncData} {ps:List Str} (F:Fun K x qual st f fd)
  (h:∀ (kV doc pm:Value) (an:Option Addr) (cdv ct:Value) (us:List Value),us.length=ps.length->bindArgs (PySem.W.fnOf x qual (defArgs st) (defBody st) (defScope st) .none kV doc pm an cdv ct) ⟨us,[]⟩=pure (ps.zip us)):Binds K fd ps []:=by
 obtain ⟨oc,od,kV,doc,pm,an,cdv,ct,osl,rfl,lk,hcd⟩:=F.ex
 exact .all (h kV doc pm an cdv ct)
theorem fun_mk {x qual:Str} {st:Stmt} {f:Addr} {oc:Value} {od an:Option Addr} {osl:Array (Option Value)} {kV doc pm cdv ct:Value} (l:K.lookup f=some ⟨oc,od,.func (PySem.W.fnOf x qual (defArgs st) (defBody st) (defScope st) .none kV doc pm an cdv ct),osl⟩)
  (c:PySem.W.codeIn K cdv qual=true) (k:PySem.W.keepIn K (.ref f)=true):Fun K x qual st f (PySem.W.fnOf x qual (defArgs st) (defBody st) (defScope st) .none kV doc pm an cdv ct):=⟨⟨oc,od,kV,doc,pm,an,cdv,ct,osl,rfl,l,c⟩,k⟩
end
theorem small1000 {n:Nat} (h:n<=1000):n < sizeLine:=Nat.lt_of_le_of_lt h (by decide)
section
variable {X:Cx}
theorem pv (i:Nat) {x:Str} {pos:Pos} (hN:X.N[i]? = some x:=by rfl) (hv:Vis X.env.scope x:=by first | exact Or.inl rfl | exact Or.inr (Or.inl rfl) | exact Or.inr (Or.inr rfl)) (hd:(x == ("__debug__" : Str))=false:=by decide)
  (hcd:(x == ("__classdict__" : Str))=false:=by decide):PE X (.Name x pos) (tVar i):=pe_var hN hv hd hcd
end
theorem iteF {A B:Prop} (h:B):if false=true then A else B:=by
 rw [if_neg Bool.false_ne_true]
 exact h
theorem iteT {A B:Prop} (h:A):if true=true then A else B:=by
 rw [if_pos rfl]
 exact h
theorem ite2 {c A B:Prop} [Decidable c] (h1:c->A) (h2:¬ c->B):if c then A else B:=by
 by_cases h:c
 ·rw [if_pos h]
  exact h1 h
 ·rw [if_neg h]
  exact h2 h
theorem iteNS {c A B:Prop} [Decidable c] (hc:c) (h:B):if (!decide c)=true then A else B:=by
 rw [decide_eq_true hc]
 exact iteF h
noncomputable def Same (H H':Hp):Prop:=∀ b o,H b=some o->H' b=some o
theorem Same.refl (H:Hp):Same H H:=fun _ _ h=>h
theorem Same.trans {H H1 H2:Hp} (a:Same H H1) (b:Same H1 H2):Same H H2:=fun c o h=>b c o (a c o h)
theorem Same.free {H H':Hp} (e:Same H H') {l:Addr} (h:H' l=Option.none):H l=Option.none:=by
 cases q:H l with
 | none=>rfl
 | some o=>
  rw [e l o q] at h
  cases h
theorem Same.seq {K:PySem.W.Frag} {H H':Hp} {a:Addr} {xs:List V} (e:Same H H') (h:SqL K H a xs):SqL K H' a xs:=by
 rcases h with (h | ⟨o,h⟩) | h
 ·exact .inl (.inl (e _ _ h))
 ·exact .inl (.inr ⟨o,e _ _ h⟩)
 ·exact .inr h
end L2
set_option maxHeartbeats 4000000
namespace Sh
noncomputable def gcdAll (ns:List Int):Int:=ns.foldl (fun c n=>(Int.gcd c n:Int)) 0
theorem gcdAll_two (a b:Int):gcdAll [a,b]=(Int.gcd a b:Int):=by
 show ((Int.gcd (Int.gcd 0 a:Int) b:Nat):Int)=_
 congr 1
 rw [Int.gcd_zero_left,Int.gcd_eq_natAbs_gcd_natAbs,Int.gcd_eq_natAbs_gcd_natAbs,Int.natAbs_natCast]
theorem gcdAll_snoc (ns:List Int) (n:Int):gcdAll (ns++[n])=(Int.gcd (gcdAll ns) n:Int):=by
 unfold gcdAll
 rw [List.foldl_append]
 rfl
theorem gcdAll_nonneg (ns:List Int):0<=gcdAll ns:=by
 rcases List.eq_nil_or_concat ns with rfl | ⟨l,a,rfl⟩
 ·exact Int.le_refl 0
 ·rw [List.concat_eq_append,gcdAll_snoc]
  exact Int.natCast_nonneg _
theorem gcd_turn (c r:Int):Int.gcd r (c.fmod r)=Int.gcd c r:=by
 rw [Int.fmod_def,Int.gcd_sub_mul_left_right,Int.gcd_comm]
theorem gcd_abs (c i:Int):Int.gcd c (if i < 0 then -i else i)=Int.gcd c i:=by
 split
 ·rw [Int.gcd_neg]
 ·rfl
noncomputable def cm (t b:Int):Int:=if b < 0 then -(Int.gcd t b:Int) else (Int.gcd t b:Int)
noncomputable def lowT (t b:Int):Int:=t.fdiv (cm t b)
noncomputable def lowB (t b:Int):Int:=b.fdiv (cm t b)
theorem gcd_pos {t b:Int} (h:b≠0):0 < (Int.gcd t b:Int):=by
 have:0 < Int.gcd t b:=Int.gcd_pos_of_ne_zero_right _ h
 omega
theorem cm_ne {t b:Int} (h:b≠0):cm t b≠0:=by
 have:=gcd_pos (t:=t) h
 unfold cm
 split <;> omega
theorem cm_dvd_t (t b:Int):cm t b ∣ t:=by
 unfold cm
 split
 ·exact Int.neg_dvd.mpr (Int.gcd_dvd_left t b)
 ·exact Int.gcd_dvd_left t b
theorem cm_dvd_b (t b:Int):cm t b ∣ b:=by
 unfold cm
 split
 ·exact Int.neg_dvd.mpr (Int.gcd_dvd_right t b)
 ·exact Int.gcd_dvd_right t b
theorem lowT_mul (t b:Int):lowT t b * cm t b=t:=Int.fdiv_mul_cancel (cm_dvd_t t b)
theorem lowB_mul (t b:Int):lowB t b * cm t b=b:=Int.fdiv_mul_cancel (cm_dvd_b t b)
theorem lowB_pos {t b:Int} (h:b≠0):0 < lowB t b:=by
 have e:=lowB_mul t b
 have g:=gcd_pos (t:=t) h
 rcases Int.lt_trichotomy (lowB t b) 0 with hl | hl | hl
 ·exfalso
  unfold cm at e
  split at e
  ·rename_i hb
   have:=Int.mul_pos_of_neg_of_neg hl (show -(Int.gcd t b:Int) < 0 by omega)
   omega
  ·have:=Int.mul_neg_of_neg_of_pos hl g
   omega
 ·exfalso
  rw [hl,Int.zero_mul] at e
  omega
 ·exact hl
theorem low_gcd {t b:Int} (h:b≠0):Int.gcd (lowT t b) (lowB t b)=1:=by
 have g:=gcd_pos (t:=t) h
 have e:Int.gcd (cm t b * lowT t b) (cm t b * lowB t b)=(cm t b).natAbs * Int.gcd (lowT t b) (lowB t b):=Int.gcd_mul_left _ _ _
 rw [Int.mul_comm (cm t b),Int.mul_comm (cm t b),lowT_mul,lowB_mul] at e
 have c:(cm t b).natAbs=Int.gcd t b:=by
  unfold cm
  split
  ·rw [Int.natAbs_neg,Int.natAbs_natCast]
  ·rw [Int.natAbs_natCast]
 rw [c] at e
 have g':0 < Int.gcd t b:=by omega
 exact Nat.eq_of_mul_eq_mul_left g' (by rw [Nat.mul_one]; exact e.symm)
theorem low_cross {t b:Int} (h:b≠0):lowT t b * b=t * lowB t b:=by
 have e1:=lowT_mul t b
 have e2:=lowB_mul t b
 calc lowT t b * b=lowT t b * (lowB t b * cm t b):=by rw [e2]
  _=(lowT t b * cm t b) * lowB t b:=by rw [Int.mul_assoc,Int.mul_comm (lowB t b)]
  _=t * lowB t b:=by rw [e1]
theorem cm_pos_eq {t b:Int} (h:0 < b):cm t b=(Int.gcd t b:Int):=by
 unfold cm
 rw [if_neg (by omega)]
end Sh
namespace Sh
noncomputable def alStep (st:Int × Int) (p:Int × Int × Int):Int × Int:=(st.1 * p.2.2 + p.1 * p.2.1 * st.2,st.2 * p.2.2)
noncomputable def alFold (ws:List Int) (pts:List (Int × Int)):Int × Int:=(ws.zip pts).foldl alStep (0,1)
noncomputable def prodB (l:List (Int × Int × Int)):Int:=(l.map fun p=>p.2.2).foldl (· * ·) 1
theorem foldl_mul (l:List Int) (c:Int):l.foldl (· * ·) c=c * l.foldl (· * ·) 1:=by
 induction l generalizing c with
 | nil=>simp
 | cons a r ih=>
  rw [List.foldl_cons,List.foldl_cons,ih (c * a),ih (1 * a),Int.one_mul,Int.mul_assoc]
theorem prodB_cons (p:Int × Int × Int) (l:List (Int × Int × Int)):prodB (p :: l)=p.2.2 * prodB l:=by
 unfold prodB
 rw [List.map_cons,List.foldl_cons,foldl_mul,Int.one_mul]
noncomputable def sumQ (R:Int) (l:List (Int × Int × Int)):Int:=(l.map fun p=>p.1 * p.2.1 * (R.fdiv p.2.2)).sum
theorem prodB_pos {l:List (Int × Int × Int)} (h:∀ p∈l,0 < p.2.2):0 < prodB l:=by
 induction l with
 | nil=>decide
 | cons p r ih=>
  rw [prodB_cons]
  exact Int.mul_pos (h p List.mem_cons_self) (ih fun q hq=>h q (List.mem_cons_of_mem _ hq))
theorem dvd_prodB {l:List (Int × Int × Int)} {p:Int × Int × Int} (h:p∈l):p.2.2 ∣ prodB l:=by
 induction l with
 | nil=>cases h
 | cons q r ih=>
  rw [prodB_cons]
  rcases List.mem_cons.mp h with rfl | h
  ·exact Int.dvd_mul_right _ _
  ·exact Int.dvd_trans (ih h) (Int.dvd_mul_left _ _)
theorem sumQ_mul {b:Int} {R:Int}:∀ {l:List (Int × Int × Int)},(∀ p∈l,p.2.2 ∣ R/\p.2.2≠0)->sumQ (b * R) l=b * sumQ R l
 | [],_=>by unfold sumQ; simp
 | p :: r,h=>by
  have ih:=sumQ_mul (b:=b) (R:=R) (l:=r) fun q hq=>h q (List.mem_cons_of_mem _ hq)
  obtain ⟨⟨c,hc⟩,nz⟩:=h p List.mem_cons_self
  have e1:R.fdiv p.2.2=c:=by rw [hc]; exact Int.mul_fdiv_cancel_left _ nz
  have e2:(b * R).fdiv p.2.2=b * c:=by
   rw [hc,show b * (p.2.2 * c)=p.2.2 * (b * c) from by rw [<- Int.mul_assoc,Int.mul_comm b,Int.mul_assoc]]
   exact Int.mul_fdiv_cancel_left _ nz
  unfold sumQ at ih |-
  rw [List.map_cons,List.sum_cons,List.map_cons,List.sum_cons,ih,e1,e2,Int.mul_add]
  congr 1
  rw [<- Int.mul_assoc,<- Int.mul_assoc,Int.mul_comm (p.1 * p.2.1) b,Int.mul_assoc b]
theorem alFold_is:∀ (l:List (Int × Int × Int)) (T B:Int),(∀ p∈l,0 < p.2.2)->l.foldl alStep (T,B)=(T * prodB l + B * sumQ (prodB l) l,B * prodB l)
 | [],T,B,_=>by
  show (T,B)=(T * 1 + B * 0,B * 1)
  simp
 | p :: r,T,B,h=>by
  have hr:∀ q∈r,0 < q.2.2:=fun q hq=>h q (List.mem_cons_of_mem _ hq)
  have hp:=h p List.mem_cons_self
  rw [List.foldl_cons,alStep,alFold_is r _ _ hr,prodB_cons]
  have s1:sumQ (p.2.2 * prodB r) (p :: r)=p.1 * p.2.1 * prodB r + p.2.2 * sumQ (prodB r) r:=by
   have s2:=sumQ_mul (b:=p.2.2) (R:=prodB r) (l:=r) fun q hq=>⟨dvd_prodB hq,Int.ne_of_gt (hr q hq)⟩
   unfold sumQ at s2 |-
   rw [List.map_cons,List.sum_cons,s2,Int.mul_fdiv_cancel_left _ (Int.ne_of_gt hp)]
  rw [s1]
  refine Prod.ext ?_ ?_
  ·show (T * p.2.2 + p.1 * p.2.1 * B) * prodB r + B * p.2.2 * sumQ (prodB r) r=T * (p.2.2 * prodB r) + B * (p.1 * p.2.1 * prodB r + p.2.2 * sumQ (prodB r) r)
   rw [Int.add_mul,Int.mul_add,Int.mul_assoc T,Int.mul_assoc B,Int.mul_comm (p.1 * p.2.1) B,Int.mul_assoc B]
   omega
  ·show B * p.2.2 * prodB r=B * (p.2.2 * prodB r)
   rw [Int.mul_assoc]
theorem alFold_eq (ws:List Int) (pts:List (Int × Int)) (h:∀ p∈pts,0 < p.2):alFold ws pts=(sumQ (prodB (ws.zip pts)) (ws.zip pts),prodB (ws.zip pts)):=by
 unfold alFold
 rw [alFold_is _ _ _ (fun p hp=>h p.2 (List.of_mem_zip hp).2)]
 simp
end Sh
namespace L2
open PySem
noncomputable def closeStep (env:Env) (cs:List (Str × Addr)) (p:Str × NameKind):List (Str × Addr):=if (p.2 == .free)=true then (p.1,(env.cells.lookup p.1).getD 0) :: cs else cs
noncomputable def closeOf (scope:Scope) (env:Env):List (Str × Addr):=scope.names.foldl (closeStep env) []
theorem close_loop {env:Env}:∀ (names:List (Str × NameKind)) (cs:List (Str × Addr)),(∀ p∈names,p.2=.free->(env.cells.lookup p.1).isSome=true)->
  (forIn names cs (fun (p:Str × NameKind) (r:List (Str × Addr))=>(if (p.2 == .free)=true then do let a <- cellOf env p.1; pure (ForInStep.yield ((p.1,a) :: r)) else pure (ForInStep.yield r):Sem (ForInStep (List (Str × Addr))))))=pure (names.foldl (closeStep env) cs):=by
 intro names
 induction names with
 | nil=>intro cs _; rfl
 | cons p r ih=>
  intro cs h
  obtain ⟨n,k⟩:=p
  rw [List.forIn_cons]
  by_cases hk:k=.free
  ·subst hk
   obtain ⟨c,hc⟩:=Option.isSome_iff_exists.mp (h (n,.free) List.mem_cons_self rfl)
   have e:cellOf env n=pure c:=by unfold cellOf; dsimp only at hc; rw [hc]
   have z:closeStep env cs (n,.free)=(n,c) :: cs:=by unfold closeStep; dsimp only at hc |-; rw [hc]; rfl
   simp only [e,beq_self_eq_true,if_true,pure_bind,List.foldl_cons,z]
   exact ih _ fun q hq=>h q (List.mem_cons_of_mem _ hq)
  ·have b:(k == NameKind.free)=false:=by simpa using hk
   have z:closeStep env cs (n,k)=cs:=by unfold closeStep; dsimp only; rw [b]; rfl
   simp only [b,Bool.false_eq_true,if_false,pure_bind,List.foldl_cons,z]
   exact ih _ fun q hq=>h q (List.mem_cons_of_mem _ hq)
theorem closure_is {scope:Scope} {env:Env} (h:∀ p∈scope.names,p.2=.free->(env.cells.lookup p.1).isSome=true):closureFor scope env=pure (closeOf scope env):=by
 unfold closureFor closeOf
 have:=close_loop scope.names [] h
 exact (congrArg (fun m=>m >>= fun r=>pure r) this).trans rfl
theorem close_mem {env:Env}:∀ (names:List (Str × NameKind)) (cs:List (Str × Addr)) (x:Str) (c:Addr),(x,c)∈names.foldl (closeStep env) cs->(x,c)∈cs\/((x,NameKind.free)∈names/\c=(env.cells.lookup x).getD 0):=by
 intro names
 induction names with
 | nil=>intro cs x c h; exact .inl h
 | cons p r ih=>
  intro cs x c h
  obtain ⟨n,k⟩:=p
  rw [List.foldl_cons] at h
  rcases ih _ x c h with h1 | ⟨h1,h2⟩
  ·unfold closeStep at h1
   dsimp only at h1
   by_cases hk:k=.free
   ·subst hk
    simp only [beq_self_eq_true,if_true] at h1
    rcases List.mem_cons.mp h1 with e | h1
    ·injection e with e1 e2
     subst e1; subst e2
     exact .inr ⟨List.mem_cons_self,rfl⟩
    ·exact .inl h1
   ·have b:(k == NameKind.free)=false:=by simpa using hk
    simp only [b,Bool.false_eq_true,if_false] at h1
    exact .inl h1
  ·exact .inr ⟨List.mem_cons_of_mem _ h1,h2⟩
theorem mem_of_look {α β:Type} [BEq α] [LawfulBEq α]:∀ {l:List (α × β)} {a:α} {b:β},l.lookup a=some b->(a,b)∈l
 | [],_,_,h=>by simp at h
 | (x,y) :: r,a,b,h=>by
  rw [List.lookup_cons] at h
  by_cases e:a=x
  ·subst e
   simp only [beq_self_eq_true,if_true] at h
   cases h
   exact List.mem_cons_self
  ·have:(a == x)=false:=by simpa using e
   simp only [this] at h
   exact List.mem_cons_of_mem _ (mem_of_look h)
theorem look_of_mem {α β:Type} [BEq α] [LawfulBEq α]:∀ {l:List (α × β)} {a:α} {b:β},(a,b)∈l->∃ c,l.lookup a=some c
 | [],_,_,h=>by cases h
 | (x,y) :: r,a,b,h=>by
  rw [List.lookup_cons]
  by_cases e:a=x
  ·subst e
   exact ⟨y,by simp⟩
  ·have z:(a == x)=false:=by simpa using e
   rcases List.mem_cons.mp h with q | q
   ·injection q with q1 _; exact absurd q1 e
   ·obtain ⟨c,hc⟩:=look_of_mem q
    exact ⟨c,by simp only [z]; exact hc⟩
theorem close_has {env:Env}:∀ (names:List (Str × NameKind)) (cs:List (Str × Addr)) (x:Str),((x,NameKind.free)∈names\/∃ c,(x,c)∈cs)->∃ c,(x,c)∈names.foldl (closeStep env) cs:=by
 intro names
 induction names with
 | nil=>
  intro cs x h
  rcases h with h | h
  ·cases h
  ·exact h
 | cons p r ih=>
  intro cs x h
  rw [List.foldl_cons]
  refine ih _ x ?_
  rcases h with h | ⟨c,h⟩
  ·rcases List.mem_cons.mp h with e | h
   ·subst e
    exact .inr ⟨_,by unfold closeStep; simp only [beq_self_eq_true,if_true]; exact List.mem_cons_self⟩
   ·exact .inl h
  ·refine .inr ⟨c,?_⟩
   unfold closeStep
   split
   ·exact List.mem_cons_of_mem _ h
   ·exact h
theorem close_look {scope:Scope} {env:Env} (h:∀ p∈scope.names,p.2=.free->(env.cells.lookup p.1).isSome=true) {x:Str} {c:Addr} (e:(closeOf scope env).lookup x=some c) :
  env.cells.lookup x=some c/\(x,NameKind.free)∈scope.names:=by
 rcases close_mem scope.names [] x c (mem_of_look e) with z | ⟨z,q⟩
 ·cases z
 ·obtain ⟨d,hd⟩:=Option.isSome_iff_exists.mp (h _ z rfl)
  dsimp only at hd
  rw [hd] at q
  exact ⟨by rw [hd,q]; rfl,z⟩
theorem close_some {scope:Scope} {env:Env} {x:Str} (h:(x,NameKind.free)∈scope.names):∃ c,(closeOf scope env).lookup x=some c:=by
 obtain ⟨c,hc⟩:=close_has (env:=env) scope.names [] x (.inl h)
 exact look_of_mem hc
theorem relabel_kind {scope:Scope} {env:Env} {x:Str} {k:NameKind} (h:(relabel scope env).names.lookup x=some k):(k=.cell/\((x,NameKind.free)∈scope.names\/(x,NameKind.cell)∈scope.names))\/(x,k)∈scope.names:=by
 have m:=mem_of_look h
 unfold relabel at m
 obtain ⟨⟨n,j⟩,hm,e⟩:=List.mem_map.mp m
 dsimp only at e
 split at e
 ·rename_i q
  injection e with e1 e2
  subst e1; subst e2
  have q1:j=NameKind.free:=by
   have:=(Bool.and_eq_true_iff.mp (Bool.and_eq_true_iff.mp q).1).1
   exact eq_of_beq this
  subst q1
  exact .inl ⟨rfl,.inl hm⟩
 ·injection e with e1 e2
  subst e1; subst e2
  exact .inr hm
end L2
namespace L2
open PySem
section
variable {prog:Program} {w:World} {A:Around} {R:Result->Shared->Prop} {s:Shared}
theorem comp_turns {elt target iter:Expr} {scope:Scope} {pos:Pos} {it acc:Value} {env:Env} (Wd:Nat->Shared->Prop)
  (turn:∀ n s,Wd n s->wpAny (model prog w) A (pyNext it) (fun r s1=>match r with
   | none=>R (.ok .next) s1
   | some v=>wpAny (model prog w) A (letOwnedTupleGo target it v) (fun _ s2=>wpAny (model prog w) A (assign target env v) (fun _ s3=>wpAny (model prog w) A (eval elt env) (fun x s4=>
     wpAny (model prog w) A (call (.builtin "list.append") [acc,x]) (fun _ s5=>∃ m,m < n/\Wd m s5) (fun _ _=>False) s4) (fun _ _=>False) s3) (fun _ _=>False) s2) (fun _ _=>False) s1) (fun _ _=>False) s)
  (n:Nat) (h:Wd n s):codeAny (model prog w) A (.compLoop (.ListComp elt [⟨target,iter,[],0⟩] scope pos) 0 it acc env) R s:=by
 refine codeAny_loop rfl Wd (fun n s hI=>?_) n h
 show wpAny _ _ (Sem.onRaise (compTurn (.ListComp elt [⟨target,iter,[],0⟩] scope pos) 0 it acc env) _) _ _ s
 refine wpAny_noted ?_
 rw [compTurn_list1]
 refine wpAny_bind (wpAny_standAt (wpAny_bind (wpAny_mono (turn n s hI) (fun r s1 h1=>?_) fun _ _ z=>False.elim z)))
 cases r with
 | none=>exact wpAny_pure h1
 | some v=>
  refine wpAny_bind (wpAny_mono h1 (fun _ s2 h2=>?_) fun _ _ z=>False.elim z)
  refine wpAny_bind (wpAny_mono h2 (fun _ s3 h3=>?_) fun _ _ z=>False.elim z)
  refine wpAny_bind (wpAny_bind (wpAny_mono h3 (fun x s4 h4=>?_) fun _ _ z=>False.elim z))
  exact wpAny_bind (wpAny_mono h4 (fun _ s5 h5=>wpAny_pure (wpAny_pure ⟨rfl,h5⟩)) fun _ _ z=>False.elim z)
end
end L2
namespace L2
open PySem PySem.Spec PyProof.Rows
noncomputable def Bd (n:Nat) (i:Int):Prop:=i.natAbs < 2 ^ n
theorem Bd.mono {n m:Nat} {i:Int} (h:Bd n i) (k:n<=m):Bd m i:=Nat.lt_of_lt_of_le h (Nat.pow_le_pow_right (by decide) k)
theorem Bd.of_le {n:Nat} {i j:Int} (h:Bd n j) (k:i.natAbs<=j.natAbs):Bd n i:=Nat.lt_of_le_of_lt k h
theorem Bd.mul {n m:Nat} {i j:Int} (h:Bd n i) (k:Bd m j):Bd (n + m) (i * j):=by
 unfold Bd
 rw [Int.natAbs_mul,Nat.pow_add]
 rcases Nat.eq_zero_or_pos j.natAbs with z | z
 ·rw [z,Nat.mul_zero]
  exact Nat.mul_pos (Nat.two_pow_pos _) (Nat.two_pow_pos _)
 ·exact Nat.lt_of_lt_of_le (Nat.mul_lt_mul_of_pos_right h z) (Nat.mul_le_mul_left _ (Nat.le_of_lt k))
theorem Bd.add {n:Nat} {i j:Int} (h:Bd n i) (k:Bd n j):Bd (n + 1) (i + j):=by
 have h':i.natAbs < 2 ^ n:=h
 have k':j.natAbs < 2 ^ n:=k
 unfold Bd
 rw [Nat.pow_succ]
 have:=Int.natAbs_add_le i j
 omega
theorem Bd.neg {n:Nat} {i:Int} (h:Bd n i):Bd n (-i):=by
 unfold Bd
 rw [Int.natAbs_neg]
 exact h
theorem Bd.sub {n:Nat} {i j:Int} (h:Bd n i) (k:Bd n j):Bd (n + 1) (i - j):=by
 rw [Int.sub_eq_add_neg]
 exact h.add k.neg
theorem Bd.lit {n:Nat} {i:Int} (h:i.natAbs < 2 ^ n:=by decide):Bd n i:=h
theorem Bd.bits {n:Nat} {i:Int} (h:Bd n i):Builtin.Int.intBits i<=n:=by
 have h':i.natAbs < 2 ^ n:=h
 unfold Builtin.Int.intBits
 split
 ·exact Nat.zero_le _
 ·rename_i z
  have nz:i.natAbs≠0:=by
   intro q
   apply z
   rw [Int.natAbs_eq_zero.mp q]
   rfl
  exact (Nat.log2_lt nz).mpr h'
theorem Bd.fdiv {n:Nat} {i:Int} (h:Bd n i) (j:Int):Bd n (i.fdiv j):=
 h.of_le (Int.natAbs_fdiv_le_natAbs i j)
noncomputable def CMulW (i j:Int):Prop:=Bd 60000 i/\Bd 60000 j
noncomputable def CDivW (_ j:Int):Prop:=j≠0/\Bd 8000 j
section
variable {X:Cx}
theorem CMulW.ok {i j:Int} (h:CMulW i j):IntMulOk i j:=by
 have h1:=h.1.bits
 have h2:=h.2.bits
 have hc:Builtin.Int.intTooBig (Builtin.Int.intBits i + Builtin.Int.intBits j)=false:=by
  unfold Builtin.Int.intTooBig
  rw [bitsLine_eq]
  exact decide_eq_false (by omega)
 unfold IntMulOk
 rw [hc]
 simp
theorem op_mulW:OpR X (binaryOp .Mult) (rI CMulW fun i j=>.int (i * j)):=opI fun _ _ _ _ _ _ _ hc q=>mul_int q hc.ok
theorem op_fdivW:OpR X (binaryOp .FloorDiv) (rI CDivW fun i j=>.int (i.fdiv j)):=opI fun _ _ _ _ _ _ _ hc q=>by
 refine floordiv_int hc.1 q (.inl (PyProof.noPylong_of_log2 ?_))
 have h':_ < 2 ^ 8000:=hc.2
 have nz:_≠0:=fun z=>hc.1 (Int.natAbs_eq_zero.mp z)
 exact Nat.lt_trans ((Nat.log2_lt nz).mpr h') (by decide)
end
section
variable {X:Cx}
noncomputable def rInst (K:PySem.W.Frag):List V->Hp->VK->Prop:=fun xs H Q=>∃ x c t b,xs=[x,.ty c]/\TyOf K H x t/\PySem.W.kitOne K t (.type c)=some b/\Q (.bl b) H
theorem call_isinst:CallR X (.builtin "isinstance") (rInst X.K):=by
 intro pins s σ H xs us Q I r h
 obtain ⟨x,c,t,b,rfl,ty,e,q⟩:=h
 obtain ⟨u,v,rfl,ru,rv⟩:=vals2 r
 cases (show v=Value.type c from rv)
 exact isinst_ok I ru ty e fun tk=>⟨.bl b,H,I.tok tk,rfl,q⟩
end
mutual
inductive Dp (K:PySem.W.Frag) (H:Hp):V->PyData->Prop where
 | non:Dp K H .non .none
 | bl (b:Bool):Dp K H (.bl b) (.bool b)
 | int (i:Int):Dp K H (.int i) (.int i)
 | str (x:Str):Dp K H (.str x) (.str x)
 | lst {a:Addr} {xs:List V} {ds:List PyData} (e:SqL K H a xs) (h:DpAll K H xs ds):Dp K H (.ref a) (.list ds)
 | tup {a:Addr} {xs:List V} {ds:List PyData} (e:SqT K H a xs) (h:DpAll K H xs ds):Dp K H (.ref a) (.tuple ds)
inductive DpAll (K:PySem.W.Frag) (H:Hp):List V->List PyData->Prop where
 | nil:DpAll K H [] []
 | cons {x:V} {xs:List V} {d:PyData} {ds:List PyData} (h:Dp K H x d) (t:DpAll K H xs ds):DpAll K H (x :: xs) (d :: ds)
end
section
variable {X:Cx} {pins:List (Addr × Obj)} {σ:St} {H:Hp} {s:Shared}
mutual
theorem Dp.reads (I:Inv X pins σ H s):∀ {x:V} {d:PyData} {u:Value},Dp X.K H x d->RelV x u->∃ as,Reads s.heap u d as
 | _,_,_,.non,r=>by cases r; exact ⟨_,.none⟩
 | _,_,_,.bl b,r=>by cases r; exact ⟨_,.bool b⟩
 | _,_,_,.int i,r=>by obtain ⟨t,rfl⟩:=r; exact ⟨_,.int i t⟩
 | _,_,_,.str x,r=>by obtain ⟨t,rfl⟩:=r; exact ⟨_,.str x t⟩
 | _,_,_,.lst e h,r=>by
  cases r
  obtain ⟨its,rv,⟨o,n,e1,e2,_,e3⟩,_⟩:=I.list e
  obtain ⟨as,q⟩:=DpAll.reads I h rv
  exact ⟨_,.list e1 e2 e3 (by simpa using q)⟩
 | _,_,_,.tup e h,r=>by
  cases r
  obtain ⟨its,rv,⟨o,e1,e2,n,e3⟩,_⟩:=I.tuple e
  obtain ⟨as,q⟩:=DpAll.reads I h rv
  exact ⟨_,.tuple e1 e2 e3 (by simpa using q)⟩
theorem DpAll.reads (I:Inv X pins σ H s):∀ {xs:List V} {ds:List PyData} {us:List Value},DpAll X.K H xs ds->Vals xs us->∃ as,ReadsAll s.heap us ds as
 | _,_,_,.nil,r=>by cases r; exact ⟨_,.nil⟩
 | _,_,_,.cons h t,r=>by
  cases r with
  | cons r1 r2=>
   obtain ⟨_,q1⟩:=Dp.reads I h r1
   obtain ⟨_,q2⟩:=DpAll.reads I t r2
   exact ⟨_,.cons q1 q2⟩
end
end
section
variable {X:Cx}
noncomputable def rSameD (K:PySem.W.Frag) (b:Bool):R2:=fun x y H Q=>∃ d:PyData,Dp K H x d/\Dp K H y d/\d.canLay0=true/\d.depth<=60/\Q (.bl b) H
theorem op_neD (hu:X.A.units + 64 < cLine):OpR X (compareOp .NotEq) (rSameD X.K false):=by
 intro pins s σ H x y v u Q I rx ry h
 obtain ⟨d,hx,hy,hc,hd,q⟩:=h
 obtain ⟨_,r1⟩:=hx.reads I rx
 obtain ⟨_,r2⟩:=hy.reads I ry
 refine SeqAt.compareNe_reads r1 r2 hc hc (by rw [Nat.min_self]; omega) ⟨.bl false,H,I,?_,q⟩
 rw [SeqAt.eqv_refl d hc]
 rfl
end
section
variable {X:Cx}
theorem call_all (hc:X.calm=true):CallR X (.builtin "all") (fun xs H Q=>∃ (p:Addr) (bs:List Bool),xs=[.ref p]/\SqL X.K H p (bs.map V.bl)/\Q (.bl (bs.all id)) H):=by
 intro pins s σ H xs us Q I r h
 obtain ⟨p,bs,rfl,hq,q⟩:=h
 obtain ⟨u,rfl,ru⟩:=vals1 r
 cases ru
 obtain ⟨its,rv,pl,hz⟩:=I.list hq
 have hh:X.A.in1.handled=none:=I.ok.hd hc
 have hlt:p < s.heap.objs.size:=by obtain ⟨o,n,e,_⟩:=pl; exact Heap.lt_size e
 refine call_all_walk (wpAny_pyIter_list pl.isList ?_)
 have hlen:its.length=bs.length:=by rw [<- rv.length,List.length_map]
 refine ⟨s.heap.objs.size,_,_,_,_,_,fun i=>bs.getD i true,rfl,Walks.list hh s.heap.objs.size p (Nat.ne_of_lt hlt) its.toArray,⟨⟨_,Heap.get?_push_size _ rfl,rfl,rfl⟩,pl.isList.push _⟩,?_,fun h' tk kk=>?_⟩
 ·intro i v s' Q' E' hP hQ'
  have e1:its[i]? = some v:=by simpa using hP
  have hi:i < its.length:=(List.getElem?_eq_some_iff.mp e1).1
  have hb:(bs.map V.bl)[i]? = some (.bl (bs.getD i true)):=by
   rw [List.getElem?_map,List.getElem?_eq_getElem (by omega),List.getD_eq_getElem?_getD,List.getElem?_eq_getElem (by omega)]
   rfl
  obtain ⟨u',e2,r2⟩:=rv.get hb
  rw [e1] at e2
  cases e2
  cases r2
  exact wpAny_truthy_bool hQ'
 ·have e:(List.range its.toArray.size).all (fun i=>bs.getD i true)=bs.all id:=by
   rw [List.size_toArray,hlen]
   rw [Bool.eq_iff_iff,List.all_eq_true,List.all_eq_true]
   constructor
   ·intro z b hb
    obtain ⟨i,hi,rfl⟩:=List.mem_iff_getElem.mp hb
    have:=z i (List.mem_range.mpr hi)
    rw [List.getD_eq_getElem?_getD,List.getElem?_eq_getElem hi] at this
    exact this
   ·intro z i hi
    have hi':=List.mem_range.mp hi
    rw [List.getD_eq_getElem?_getD,List.getElem?_eq_getElem hi']
    exact z _ (List.getElem_mem hi')
  refine ⟨.bl (bs.all id),H,I.kept (h':=h') (t':=tk) fun b o eb=>kk b o ?_ (Heap.get?_push_of_some _ eb),?_,q⟩
  ·intro hb
   have:b=s.heap.objs.size:=by simpa using hb
   rw [this] at eb
   exact absurd (Heap.lt_size eb) (Nat.lt_irrefl _)
  ·rw [e]
   rfl
end
end L2
namespace L2
open PySem PySem.Spec PyProof.Rows
noncomputable abbrev blockCx (X:Cx) (scope:Scope) (N:List Str) (C:Addr) (s₀:Shared) (H₀:Hp) (ex:List Addr):Cx:=
 { X with N:=N,s₀:=s₀,H₀:=H₀,env:=compEnvC scope (closeOf scope X.env) C X.env,outer:=X.stack,ex:=ex,fn:=fun _=>false,pn:=[],xe:=fun _ _=>False }
noncomputable def blkSt (own:List Str) (caps:List (Nat × Str)) (σ:St):St:=own.map (fun _=>none)++caps.map fun p=>(σ[p.1]?).getD none
noncomputable abbrev blkN (own:List Str) (caps:List (Nat × Str)):List Str:=own++caps.map (·.2)
structure BlkOk (X:Cx) (scope:Scope) (own:List Str) (caps:List (Nat × Str)):Prop where
 kind:scope.kind=.function
 ncell:∀ y∈scope.names,y.2≠.cell
 locs:∀ y∈scope.names,y.2=.local->scope.names.lookup y.1=some .local
 free:∀ y∈scope.names,y.2=.free->(X.env.cells.lookup y.1).isSome=true
 caps:∀ p∈caps,X.N[p.1]? = some p.2/\scope.names.lookup p.2=some .free/\(X.env.kindOf p.2=some .cell\/X.env.kindOf p.2=some .free)
theorem relabel_look {scope:Scope} {env:Env} {x:Str}:(relabel scope env).names.lookup x=(scope.names.lookup x).map fun k=>if (k == .free && env.scope.kind == .function && env.kindOf x == some .cell)=true then .cell else k:=by
 unfold relabel
 generalize scope.names=l
 induction l with
 | nil=>rfl
 | cons p r ih=>
  obtain ⟨n,k⟩:=p
  rw [List.map_cons]
  by_cases e:x=n
  ·subst e
   by_cases c:(k == NameKind.free && env.scope.kind == .function && env.kindOf x == some .cell)=true
   ·simp only [c,if_true,List.lookup_cons,beq_self_eq_true,Option.map_some]
   ·simp only [c,if_false,List.lookup_cons,beq_self_eq_true,Option.map_some,Bool.false_eq_true]
  ·have z:(x == n)=false:=by simpa using e
   dsimp only
   split <;> simp only [List.lookup_cons,z] <;> exact ih
theorem blk_free {scope:Scope} {env:Env} {x:Str} (nc:∀ y∈scope.names,y.2≠.cell) (h:(relabel scope env).names.lookup x=some .cell\/(relabel scope env).names.lookup x=some .free):(x,NameKind.free)∈scope.names:=by
 rw [relabel_look] at h
 cases e:scope.names.lookup x with
 | none=>rw [e] at h; rcases h with h | h <;> cases h
 | some k=>
  have m:=mem_of_look e
  rw [e] at h
  simp only [Option.map_some,Option.some.injEq] at h
  have kf:k=.free:=by
   rcases h with h | h
   ·split at h
    ·rename_i q
     exact eq_of_beq (Bool.and_eq_true_iff.mp (Bool.and_eq_true_iff.mp q).1).1
    ·exact absurd h (nc _ m)
   ·split at h
    ·cases h
    ·exact h
  rw [<- kf]
  exact m
noncomputable def CompGo (J:It) (g:TG) (te:TE) (Q:VK) (σ0:St) (H1:Hp):Prop:=∃ W:Nat->Nat->List V->St->Hp->Prop,(∃ m,W 0 m [] σ0 H1)∧
 ∀ i m ys σ1 H,W i m ys σ1 H->(J.stop i H/\∀ p,H p=none->Q (.ref p) (upd H p (.lst ys)))∨
  (J.go i H/\ys.length < sizeLine/\∃ N:V->St->Hp->Prop,(∀ y σ' H',N y σ' H'->∃ m',m' < m/\W (i + 1) m' (ys++[y]) σ' H')/\∀ x H',J.yld i H x H'->g x σ1 H' fun σ2 H2=>te σ2 H2 fun y H3=>N y σ2 H3)
noncomputable def tComp (own:List Str) (caps:List (Nat × Str)) (wi:TI) (g:TG) (te:TE):TE:=fun σ H Q=>wi σ H fun J H1=>CompGo J g te Q (blkSt own caps σ) H1
section
variable {X:Cx} {scope:Scope} {own:List Str} {caps:List (Nat × Str)} {pins:List (Addr × Obj)} {σ:St} {H:Hp} {s s4:Shared} {C D:Addr} {fp:List Addr}
theorem blk_ok (B:BlkOk X scope own caps) (I:Inv X pins σ H s) (hf:∀ b∈fp,FpOk X pins H b) (hC:s.heap.objs.size<=C) (hlt:∀ b∈fp,b < s.heap.objs.size):(blockCx X scope (blkN own caps) C s H fp).Ok where
 mod:=I.ok.mod
 kind:=B.kind
 glob:=I.ok.glob
 blt:=I.ok.blt
 above:=hC
 inj:=fun x y c h1 h2=>I.ok.inj x y c (close_look B.free h1).1 (close_look B.free h2).1
 has:=fun x h=>close_some (blk_free B.ncell h)
 cab:=fun x c h _=>by cases h
 hd:=I.ok.hd
 frames:=I.ok.frames
 stk:=.inl rfl
 exf:=fun b hb=>⟨fun e=>by have:=hlt b hb; rw [e] at this; exact absurd (Nat.lt_of_lt_of_le this hC) (Nat.lt_irrefl _),fun x c e=>(hf b hb).2.2.2.2.1 x c (close_look B.free e).1⟩
 bs:=I.bs
 bsz:=Nat.le_trans I.ok.bsz I.sz
 noex:=fun b o e hb=>by
  rcases (hf b hb).2.2.2.1 with z | z
  ·exact I.ok.noex b o e z
  ·exact absurd (Nat.lt_of_lt_of_le (Heap.lt_size e) (Nat.le_trans I.ok.bsz z)) (Nat.lt_irrefl _)
 exfs:=fun b hb z=>by
  rcases List.mem_cons.mp (I.stkSub b z) with e | z
  ·exact (hf b hb).2.1 e
  ·exact (hf b hb).2.2.1 z
 funs:=I.stack
 frf:=I.stkFree
theorem blk_slot {i:Nat} {x:Str} {v:V} (h1:(blkN own caps)[i]? = some x) (h2:(blkSt own caps σ)[i]? = some (some v)):∃ j,(j,x)∈caps/\σ[j]? = some (some v):=by
 unfold blkSt at h2
 by_cases hi:i < own.length
 ·rw [List.getElem?_append_left (by simpa using hi),List.getElem?_map] at h2
  cases e:own[i]? with
  | none=>rw [e] at h2; cases h2
  | some a=>rw [e] at h2; cases h2
 ·rw [List.getElem?_append_right (by simpa using hi),List.length_map,List.getElem?_map] at h2
  unfold blkN at h1
  rw [List.getElem?_append_right (by omega),List.getElem?_map] at h1
  cases e:caps[i - own.length]? with
  | none=>rw [e] at h1; cases h1
  | some p=>
   obtain ⟨j,n⟩:=p
   rw [e] at h1 h2
   cases h1
   refine ⟨j,List.mem_of_getElem? e,?_⟩
   simp only [Option.map_some,Option.some.injEq] at h2
   cases q:σ[j]? with
   | none=>rw [q] at h2; cases h2
   | some o=>rw [q] at h2; exact congrArg some h2
theorem blk_inv (B:BlkOk X scope own caps) (I:Inv X pins σ H s) (hf:∀ b∈fp,FpOk X pins H b) (hC:s.heap.objs.size<=C) (hlt:∀ b∈fp,b < s.heap.objs.size)
  {m:Str->Option Value} (hn:s4.heap.Ns C m) (hk:∀ b o,s.heap.get? b=some o->s4.heap.get? b=some o) (ho:s4.os=s.os) (hb:AllBare s4.gens) :
  Inv (blockCx X scope (blkN own caps) C s H fp) [] (blkSt own caps σ) H s4 where
 ok:=blk_ok B I hf hC hlt
 os:=ho
 bare:=hb
 base:=Un.kept hk
 loc:=⟨m,hn,fun i x v h1 h2 h3=>by
  obtain ⟨j,hm,hs⟩:=blk_slot h1 h2
  obtain ⟨c1,c2,c3⟩:=B.caps _ hm
  obtain ⟨m',_,hl⟩:=I.loc
  have vis:Vis X.env.scope x:=c3.elim (fun z=>.inr (.inl z)) fun z=>.inr (.inr z)
  obtain ⟨u,r,l⟩:=hl j x v c1 hs vis
  refine ⟨u,r,.inr ?_⟩
  have hm2:(x,NameKind.free)∈scope.names:=mem_of_look c2
  obtain ⟨c',hc'⟩:=close_some (env:=X.env) hm2
  have hc2:=(close_look B.free hc').1
  refine ⟨?_,c',hc',?_⟩
  ·show (relabel scope X.env).names.lookup x=some .cell\/(relabel scope X.env).names.lookup x=some .free
   rw [relabel_look,c2,Option.map_some]
   split
   ·exact .inl rfl
   ·exact .inr rfl
  ·rcases l with ⟨k,_⟩ | ⟨_,c,e,z⟩
   ·rcases c3 with c3 | c3 <;> rw [c3] at k <;> cases k
   ·rw [hc2] at e
    cases e
    obtain ⟨o,e1,e2⟩:=z
    exact ⟨o,hk _ o e1,e2⟩⟩
 cell:=fun x c e=>by
  obtain ⟨v,o,e1,e2⟩:=I.cell x c (close_look B.free e).1
  exact ⟨v,o,hk _ o e1,e2⟩
 free:=I.hok.fresh hC
 freeC:=fun x c e=>I.freeC x c (close_look B.free e).1
 pin:=fun p hp=>by simp at hp
 hok:=I.hok.kept hk
 len:=by
  show (blkSt own caps σ).length=(blkN own caps).length
  unfold blkSt blkN
  simp
noncomputable abbrev lobj (its:List Value) (k:Nat):Obj:={ cls:=.type "list",data:=.seq its.toArray k }
theorem blk_push {Y:Cx} {its:List Value} {k:Nat} {y:Value} {pl:List (Addr × Obj)} {Q:Value->Shared->Prop} {E:Value->Shared->Prop} (I:Inv Y ((D,lobj its k) :: pl) σ H s) (hn:FpOk Y [] H D) (hp:Y.pn=[]) (hz:its.length<=sizeLine)
  (q:∀ h' k' tk,(∀ b o,b≠D->s.heap.get? b=some o->h'.get? b=some o)->Inv Y [(D,lobj (its++[y]) k')] σ H { s with heap:=h',toks:=tk }->Q .none { s with heap:=h',toks:=tk }) :
  wpAny (model Y.prog Y.w) Y.A (call (.builtin "list.append") [.ref D,y]) Q E s:=by
 have pD:=I.pin (D,lobj its k) (List.mem_append_right _ List.mem_cons_self)
 have e:s.heap.get? D=some (lobj its k):=pD.1
 refine call_meets F.slot_list_append ⟨_,e,rfl⟩ F.entry_list_append (F.args_list_append_2 _ _) (PySem.list_append D its.toArray k y (by rw [List.size_toArray]; exact hz)) ⟨e,?_⟩
 have e2:=PySem.IsL.update e (·.push y)
 have ea:its.toArray.push y=(its++[y]).toArray:=by simp
 have keep:∀ b o,b≠D->s.heap.get? b=some o->(s.heap.update D (Obj.mapSeq (·.push y))).get? b=some o:=fun b o hb eb=>(Heap.get?_update_other s.heap _ (Ne.symm hb)).trans eb
 have I0:Inv Y [] σ H s:=I.pins_of fun p hp'=>by cases hp'
 have I1:Inv Y [] σ H { s with heap:=s.heap.update D (Obj.mapSeq (·.push y)),toks:=s.toks }:=I0.turned keep hn.1 hn.2.1 hn.2.2.2.1 hn.2.2.2.2.1 hn.2.2.2.2.2
 have e3:(s.heap.update D (Obj.mapSeq (·.push y))).get? D=some (lobj (its++[y]) _):=e2.trans (by rw [ea])
 have I2:Inv Y [(D,lobj (its++[y]) (if ((its++[y]).toArray.size == its.toArray.size)=true then k else k + 1))] σ H { s with heap:=s.heap.update D (Obj.mapSeq (·.push y)),toks:=s.toks }:=I1.pins_of fun p hp'=>by
  rw [List.mem_singleton.mp hp']
  exact ⟨e3,hn.1,hn.2.1,hn.2.2.1,fun v z=>by cases z⟩
 exact q _ _ s.toks keep I2
end
section
variable {X:Cx} {scope:Scope} {own:List Str} {caps:List (Nat × Str)} {elt tg iter:Expr} {wi:TI} {g:TG} {te:TE} {pos:Pos}
theorem comp_core {pins:List (Addr × Obj)} {σ:St} {H2:Hp} {s2:Shared} {it:Addr} {fp:List Addr} {tn:Nat->Heap->Prop} {J:It} {W:Nat->Nat->List V->St->Hp->Prop} {m0:Nat} {Q:VK} {E:Value->Shared->Prop} {RR:Value->Addr->Result->Shared->Prop}
  (B:BlkOk X scope own caps) (hc:X.calm=true) (hg:∀ C s₀ H₀ ex,PG (blockCx X scope (blkN own caps) C s₀ H₀ ex) tg g) (he:∀ C s₀ H₀ ex,PE (blockCx X scope (blkN own caps) C s₀ H₀ ex) elt te)
  (I2:Inv X pins σ H2 s2) (T:Turn X.prog X.w X.K tg J fp it tn) (st2:tn 0 s2.heap) (f2:∀ b∈fp,FpOk X pins H2 b) (w0:W 0 m0 [] (blkSt own caps σ) H2)
  (turn:∀ i m ys σ1 H,W i m ys σ1 H->(J.stop i H/\∀ p,H p=none->Q (.ref p) (upd H p (.lst ys)))∨
   (J.go i H/\ys.length < sizeLine/\∃ N:V->St->Hp->Prop,(∀ y σ' H',N y σ' H'->∃ m',m' < m/\W (i + 1) m' (ys++[y]) σ' H')/\∀ x H',J.yld i H x H'->g x σ1 H' fun σ2 H2=>te σ2 H2 fun y H3=>N y σ2 H3))
  (hRR:∀ D C s6 H6 ys m,s6.heap.Ns C m->s2.heap.objs.size<=C->(∀ h',Heap.SameBut C s6.heap h'->Inv X pins σ (upd H6 D (.lst ys)) { s6 with heap:=h' })->upd H6 D (.lst ys) C=none->Q (.ref D) (upd H6 D (.lst ys))->RR (.ref D) C (.ok .next) s6) :
  wpAny (model X.prog X.w) X.A (newList []) (fun acc s3=>wpAny (model X.prog X.w) X.A (newFunctionEnv scope X.env.globals (closeOf scope X.env) [] X.env.qual none .none (some X.env)) (fun cenv s4=>
   codeAny (model X.prog X.w) X.A (.compStart (.ListComp elt [⟨tg,iter,[],0⟩] scope pos) 0 (.ref it) acc { cenv with scope:=relabel scope X.env }) (RR acc cenv.locals) s4) E s3) E s2:=by
 have hlt:∀ b∈fp,b < s2.heap.objs.size:=fun b hb=>by
  obtain ⟨o,ho,_⟩:=T.obj _ _ st2 b hb
  exact Heap.lt_size ho
 refine wpAny_newObj_type (wpAny_newFunctionEnv B.ncell (fun y hy=>by simp at hy) (fun h4 hns hsb=>?_) B.kind)
 dsimp only at hns hsb |-
 generalize hP:s2.heap.push { cls:=.type "list",dict:=none,data:=.seq ([]:List Value).toArray }=HD at hns hsb |-
 have hCD:HD.objs.size=s2.heap.objs.size + 1:=by rw [<- hP,Heap.size_push]
 have hDC:s2.heap.objs.size≠HD.objs.size:=by omega
 have hle:s2.heap.objs.size<=HD.objs.size:=by omega
 have old:∀ b o,s2.heap.get? b=some o->h4.get? b=some o:=fun b o eb=>by
  have hb:=Heap.lt_size eb
  exact hsb.extBut b o (Nat.ne_of_lt (Nat.lt_of_lt_of_le hb hle)) (Heap.get?_push_of_some _ (by rw [<- hP]; exact Heap.get?_push_of_some _ eb))
 have hD4:h4.get? s2.heap.objs.size=some { cls:=.type "list",data:=.seq ([]:List Value).toArray 0 }:=
  hsb.extBut _ _ hDC (Heap.get?_push_of_some _ (by rw [<- hP]; exact Heap.get?_push_size _ rfl))
 have IY:Inv (blockCx X scope (blkN own caps) HD.objs.size s2 H2 fp) [] (blkSt own caps σ) H2 { s2 with heap:=h4,toks:=s2.toks + ([]:List (Str × Value)).length }:=
  blk_inv B I2 f2 (by omega) hlt hns old rfl I2.bare
 have stat:∀ {H':Hp},(∀ b∈fp,H' b=none)->∀ b∈fp,FpOk (blockCx X scope (blkN own caps) HD.objs.size s2 H2 fp) [] H' b:=fun {H'} hn b hb=>by
  have hb2:=hlt b hb
  refine ⟨hn b hb,?_,fun z=>?_,.inl hb,fun x c ec=>(f2 b hb).2.2.2.2.1 x c (close_look B.free ec).1,fun p hp=>by simp at hp⟩
  ·exact Nat.ne_of_lt (Nat.lt_of_lt_of_le hb2 hle)
  ·rcases List.mem_cons.mp (I2.stkSub b z) with e | z
   ·exact (f2 b hb).2.1 e
   ·exact (f2 b hb).2.2.1 z
 have statD:∀ {H':Hp},H' s2.heap.objs.size=none->FpOk (blockCx X scope (blkN own caps) HD.objs.size s2 H2 fp) [] H' s2.heap.objs.size:=fun {H'} hn=>by
  refine ⟨hn,hDC,fun z=>?_,.inr (Nat.le_refl _),fun x c ec z=>?_,fun p hp=>by simp at hp⟩
  ·obtain ⟨_,o,ho,_⟩:=I2.stack.mem z
   exact absurd (Heap.lt_size ho) (Nat.lt_irrefl _)
  ·obtain ⟨v,o,ho,_⟩:=I2.cell x c (close_look B.free ec).1
   rw [z] at ho
   exact absurd (Heap.lt_size ho) (Nat.lt_irrefl _)
 have neD:∀ b∈fp,b≠s2.heap.objs.size:=fun b hb=>Nat.ne_of_lt (hlt b hb)
 have IY':Inv (blockCx X scope (blkN own caps) HD.objs.size s2 H2 fp) [(s2.heap.objs.size,lobj [] 0)] (blkSt own caps σ) H2 { s2 with heap:=h4,toks:=s2.toks + ([]:List (Str × Value)).length }:=
  IY.pins_of fun p hp=>by
   rw [List.mem_singleton.mp hp]
   have z:=statD (I2.hok.fresh (Nat.le_refl _))
   exact ⟨hD4,z.1,z.2.1,z.2.2.1,fun v z=>by cases z⟩
 have loop:∀ s3:Shared,s3={ s2 with heap:=h4,toks:=s2.toks + ([]:List (Str × Value)).length }->
   codeAny (model X.prog X.w) X.A (.compLoop (.ListComp elt [⟨tg,iter,[],0⟩] scope pos) 0 (.ref it) (.ref s2.heap.objs.size) (compEnvC scope (closeOf scope X.env) HD.objs.size X.env))
    (RR (.ref s2.heap.objs.size) HD.objs.size) s3:=by
  rintro s3 rfl
  refine comp_turns (fun n s'=>∃ i ys σ' H' its k,Inv (blockCx X scope (blkN own caps) HD.objs.size s2 H2 fp) [(s2.heap.objs.size,lobj its k)] σ' H' s'/\tn i s'.heap/\(∀ b∈fp,H' b=none)∧
   Vals ys its/\ys.length<=sizeLine/\W i n ys σ' H') ?_ m0 ⟨0,[],_,H2,[],0,IY',T.keep _ _ _ st2 fun b hb o eb=>old b o eb,fun b hb=>(f2 b hb).1,.nil,Nat.zero_le _,w0⟩
  rintro n s5 ⟨i,ys,σ5,H5,its,k,I5,st5,fr5,rv5,hz5,w5⟩
  have stat5:∀ {H':Hp},(∀ b∈fp,H' b=none)->∀ b∈fp,FpOk (blockCx X scope (blkN own caps) HD.objs.size s2 H2 fp) [(s2.heap.objs.size,lobj its k)] H' b:=fun {H'} hn b hb=>by
   obtain ⟨a1,a2,a3,a4,a5,_⟩:=stat hn b hb
   refine ⟨a1,a2,a3,a4,a5,fun p hp=>?_⟩
   have hp':p∈[(s2.heap.objs.size,lobj its k)]:=hp
   rw [List.mem_singleton.mp hp']
   exact Ne.symm (neD b hb)
  rcases turn i n ys σ5 H5 w5 with ⟨stop,qn⟩ | ⟨go,hlen,N,hN,step⟩
  ·refine thn (T.done (blockCx X scope (blkN own caps) HD.objs.size s2 H2 fp) rfl rfl rfl hc i _ s5 σ5 H5 _ I5 (stat5 fr5) st5 stop) fun r s6 ⟨hr,I6⟩=>?_
   subst hr
   obtain ⟨pD1,pD2,_⟩:=I6.pin (s2.heap.objs.size,lobj its k) (List.mem_append_right _ List.mem_cons_self)
   obtain ⟨m6,hn6,_⟩:=I6.loc
   refine hRR _ _ s6 H5 ys m6 hn6 (by omega) (fun h' sb=>?_) (by rw [upd_ne (Ne.symm hDC)]; exact I6.free) (qn _ pD2)
   have hC5:H5 HD.objs.size=none:=I6.free
   have nb:∀ b o,s2.heap.get? b=some o->b≠HD.objs.size/\b≠s2.heap.objs.size:=fun b o eb=>by
    have hb:=Heap.lt_size eb
    exact ⟨Nat.ne_of_lt (Nat.lt_of_lt_of_le hb hle),Nat.ne_of_lt hb⟩
   have nt:∀ b o,H5 b=some o->b≠s2.heap.objs.size:=fun b o eb z=>by rw [z] at eb; rw [show H5 s2.heap.objs.size=none from pD2] at eb; cases eb
   have un:Un (frs X.stack) fp H2 (upd H5 s2.heap.objs.size (.lst ys)) s2.heap h':=
    ⟨fun b o eb n1 n2 n3=>sb.extBut b o (nb b o eb).1 (I6.base.keep b o eb n1 n2 n3),
     fun b o eb n1 n2 n3=>by
      obtain ⟨sl,e1⟩:=I6.base.slot b o eb n1 n2 n3
      exact ⟨sl,sb.extBut b _ (nb b o eb).1 e1⟩,
     fun b o eb n1 n3=>by
      rw [upd_ne (nb b o eb).2]
      exact I6.base.free b o eb n1 n3,
     fun b o eb n3=>by
      obtain ⟨o',e1⟩:=I6.base.there b o eb n3
      exact ⟨o',sb.extBut b _ (nb b o eb).1 e1⟩,
     fun b xs eb=>by
      have e1:=I6.base.tups b xs eb
      rw [upd_ne (nt b _ e1)]
      exact e1,
     fun b o u eb=>by
      have e1:=I6.base.frzs b o u eb
      rw [upd_ne (nt b _ e1)]
      exact e1,
     fun b ps eb=>by
      obtain ⟨more,e1⟩:=I6.base.tbls b ps eb
      refine ⟨more,?_⟩
      rw [upd_ne (nt b _ e1)]
      exact e1⟩
   have ok5:HOk X.prog X.w (upd H5 s2.heap.objs.size (.lst ys)) h':=fun b u eb=>by
    by_cases hb:b=s2.heap.objs.size
    ·subst hb
     rw [upd_same] at eb
     cases eb
     exact ⟨hz5,its,k,rv5,sb.extBut _ _ hDC pD1⟩
    ·rw [upd_ne hb] at eb
     refine (I6.hok b u eb).stay (fun c v hcv ev=>sb.extBut c v ?_ ev) (fun c ec=>by rw [upd_ne (nt c _ ec)]; exact ec) fun c xs ec=>by rw [upd_ne (nt c _ ec)]; exact ec
     rintro rfl
     rcases hcv with z | z
     ·rw [<- z,hC5] at eb
      cases eb
     ·rw [hC5] at z
      cases z
   exact I2.call' (s':={ s6 with heap:=h' }) (ch:=fp) I6.os un ok5 I6.bare fun b hb=>⟨(f2 b hb).2.2.2.1,(f2 b hb).2.1,(f2 b hb).2.2.2.2.1,(f2 b hb).2.2.2.2.2⟩
  ·refine thn (T.item (blockCx X scope (blkN own caps) HD.objs.size s2 H2 fp) rfl rfl rfl hc i _ s5 σ5 H5 _ I5 (stat5 fr5) st5 go) fun r s6 ⟨u,hr,h6⟩=>?_
   subst hr
   refine thn h6 fun _ s7 ⟨x,H7,I7,r7,y7,st7,fr7⟩=>?_
   have I7':=I7.pinned (stat5 fr7) (T.obj _ _ st7)
   refine thn (hg HD.objs.size s2 H2 fp _ s7 σ5 H7 x u _ I7' r7 (step x H7 y7)) fun _ s8 ⟨σ8,H8,I8,q8⟩=>?_
   refine thn (he HD.objs.size s2 H2 fp _ s8 σ8 H8 _ I8 q8) fun yv s9 ⟨y,H9,I9,r9,n9⟩=>?_
   obtain ⟨m',hm',w9⟩:=hN y σ8 H9 n9
   have pD9:=(I9.pin (s2.heap.objs.size,lobj its k) (List.mem_append_right _ (List.mem_append_left _ List.mem_cons_self))).2.1
   have hl:its.length=ys.length:=rv5.length.symm
   refine blk_push (Y:=blockCx X scope (blkN own caps) HD.objs.size s2 H2 fp) (its:=its) (k:=k) (pl:=pinsAt fp s7.heap) I9 (statD pD9) rfl (by omega) fun h' k' tk keep I'=>?_
   refine ⟨m',hm',i + 1,ys++[y],σ8,H9,its++[yv],k',I',?_,fun b hb=>?_,rv5.append (.cons r9 .nil),?_,w9⟩
   ·refine T.keep _ _ _ st7 fun b hb o eb=>keep b o (neD b hb) ?_
    exact (I9.pin (b,o) (List.mem_append_right _ (List.mem_append_right _ (mem_pinsAt hb eb)))).1
   ·obtain ⟨o,eb,_⟩:=T.obj _ _ st7 b hb
    exact (I9.pin (b,o) (List.mem_append_right _ (List.mem_append_right _ (mem_pinsAt hb eb)))).2.1
   ·rw [List.length_append,List.length_singleton]
    omega
 exact codeAny_compStart_list (loop _ rfl) (T.self _ 0 _ _ _ (T.keep _ _ _ st2 fun b hb o eb=>old b o eb) (loop _ rfl))
theorem pe_comp (B:BlkOk X scope own caps) (hc:X.calm=true) (hi:PI X tg iter wi) (hg:∀ C s₀ H₀ ex,PG (blockCx X scope (blkN own caps) C s₀ H₀ ex) tg g)
  (he:∀ C s₀ H₀ ex,PE (blockCx X scope (blkN own caps) C s₀ H₀ ex) elt te) (hs:∀ x,foldedSetIterable iter X.env x=pure x:=by intro _; rfl) :
  PE X (.ListComp elt [⟨tg,iter,[],0⟩] scope pos) (tComp own caps wi g te):=by
 intro pins s σ H Q I h
 rw [eval_ListComp]
 refine wpAny_comprehension_free (use:=none) rfl hs (closure_is B.free) B.kind B.locs ?_
 refine thn (hi pins s σ H _ I h) fun xv s1 h1=>thn h1 fun itv s2 h2=>?_
 obtain ⟨it,fp,tn,J,H2,e,I2,T,st2,f2,W,⟨m0,w0⟩,turn⟩:=h2
 subst e
 refine comp_core (RR:=fun acc C=>compPost (model X.prog X.w) X.A X.xe none (EP X pins σ Q) acc C) B hc hg he I2 T st2 f2 w0 turn fun D C s6 H6 ys m hn hC J6 hC6 q=>?_
 exact ⟨m,hn,fun h' sb=>⟨.ref D,_,J6 h' sb,rfl,q⟩⟩
theorem ps_comp {i:Nat} {y:Str} {py spos:Pos} (hN:X.N.Nodup) (hy:X.N[i]? = some y) (hl:X.env.scope.names.lookup y=some .local) (B:BlkOk X scope own caps) (hc:X.calm=true) (hi:PI X tg iter wi) (hg:∀ C s₀ H₀ ex,PG (blockCx X scope (blkN own caps) C s₀ H₀ ex) tg g)
  (he:∀ C s₀ H₀ ex,PE (blockCx X scope (blkN own caps) C s₀ H₀ ex) elt te) (hsw:swapsWith (.ListComp elt [⟨tg,iter,[],0⟩] scope pos) (some (.Name y py)) spos.line X.env=pure true) (hs:∀ x,foldedSetIterable iter X.env x=pure x:=by intro _; rfl) :
  PS X (.Assign [.Name y py] (.ListComp elt [⟨tg,iter,[],0⟩] scope pos) spos) (tAsg (tComp own caps wi g te) (gName i)):=by
 intro pins s σ H D0 I h
 rw [exec_Assign_Name_used _ _ _ _ hsw]
 refine wpAny_bind (wpAny_standAt (wpAny_bind ?_))
 change wpAny _ X.A (do let _ <- comprehension (.ListComp elt [⟨tg,iter,[],0⟩] scope pos) scope X.env _ (newList []) false (eval iter X.env) (some (assign (.Name y py) X.env))) _ _ s
 refine wpAny_bind (wpAny_mono (wpAny_comprehension_free (use:=some (assign (.Name y py) X.env)) (Q:=fun _ s'=>SP X pins D0 .next s') rfl hs (closure_is B.free) B.kind B.locs ?_) (fun _ s' hq=>wpAny_pure (wpAny_pure hq)) fun _ _ e=>e)
 refine thn (hi pins s σ H _ I h) fun xv s1 h1=>thn h1 fun itv s2 h2=>?_
 obtain ⟨it,fp,tn,J,H2,e,I2,T,st2,f2,W,⟨m0,w0⟩,turn⟩:=h2
 subst e
 refine comp_core (Q:=fun x H1=>D0.nx (σ.set i (some x)) H1) (RR:=fun acc C=>compPost (model X.prog X.w) X.A X.xe (some (assign (.Name y py) X.env)) (fun _ s'=>SP X pins D0 .next s') acc C) B hc hg he I2 T st2 f2 w0 turn fun D C s6 H6 ys m hn hC J6 hC6 q=>?_
 have I6:Inv X pins σ (upd H6 D (.lst ys)) s6:=J6 s6.heap (.refl ..)
 have CL:C≠X.env.locals:=fun z=>by rw [z] at hC; exact absurd (Nat.lt_of_lt_of_le I2.lt hC) (Nat.lt_irrefl _)
 have CC:∀ x c,X.env.cells.lookup x=some c->c≠C:=fun x c ec z=>by
  obtain ⟨v,o,ho,_⟩:=I2.cell x c ec
  rw [z] at ho
  exact absurd (Nat.lt_of_lt_of_le (Heap.lt_size ho) hC) (Nat.lt_irrefl _)
 have CP:∀ p∈X.pn++pins,p.1≠C:=fun p hp z=>by
  have hl:=Heap.lt_size (I2.pin p hp).1
  rw [z] at hl
  exact absurd (Nat.lt_of_lt_of_le hl hC) (Nat.lt_irrefl _)
 change wpAny _ X.A (assign (.Name y py) X.env (.ref D)) _ _ s6
 refine wpAny_assign_Name (store_ok2 I6 hN hy (.inl hl) (v:=.ref D) rfl (fun s7 I7 ⟨a,sb,ha⟩=>?_) (.inr hl))
 have aC:C≠a:=fun z=>by
  rcases ha with e | e
  ·exact CL (z.trans e)
  ·exact CC _ _ e z.symm
 refine ⟨m,hn.sameBut sb aC,fun h' sb'=>⟨_,_,I7.turned (h':=h') (t':=s7.toks) (it:=C) (fun b o hb eb=>sb'.extBut b o hb eb) hC6 CL (.inr (Nat.le_trans I2.sz hC)) CC CP,q⟩⟩
end
end L2
namespace L2
open PySem PySem.Spec PyProof.Rows
theorem comp_list {K:PySem.W.Frag} {a:Addr} {xs:List V} {g:TG} {te:TE} {σ0:St} {H:Hp} {Q:VK} (Pv:Nat->List V->St->Hp->Prop) (h0:Pv 0 [] σ0 H) (hl:∀ i ys σ H,i<=xs.length->Pv i ys σ H->SqL K H a xs/\ys.length<=i) (hz:xs.length<=sizeLine)
  (hs:∀ i x ys σ H,xs[i]? = some x->Pv i ys σ H->g x σ H fun σ2 H2=>te σ2 H2 fun y H3=>Pv (i + 1) (ys++[y]) σ2 H3)
  (hd:∀ ys σ H,Pv xs.length ys σ H->∀ p,H p=none->Q (.ref p) (upd H p (.lst ys))) :
  CompGo (Itl K a) g te Q σ0 H:=by
 refine ⟨fun i m ys σ H=>m=xs.length - i/\i<=xs.length/\Pv i ys σ H,⟨xs.length,by simp,Nat.zero_le _,h0⟩,?_⟩
 rintro i m ys σ H ⟨rfl,hi,p⟩
 obtain ⟨q,hy⟩:=hl i ys σ H hi p
 by_cases hlt:i < xs.length
 ·refine .inr ⟨⟨xs,xs[i],q,by simp [hlt]⟩,by omega,fun y σ' H'=>Pv (i + 1) (ys++[y]) σ' H',fun y σ' H' z=>⟨xs.length - (i + 1),by omega,rfl,hlt,z⟩,fun x H' y=>?_⟩
  obtain ⟨e,y⟩:=y
  subst e
  exact hs i x ys σ _ (y xs q) p
 ·have e:i=xs.length:=by omega
  subst e
  exact .inl ⟨⟨xs,q,Nat.le_refl _⟩,hd ys σ H p⟩
theorem comp_range {lo:Int} {n:Nat} {g:TG} {te:TE} {σ0:St} {H:Hp} {Q:VK} (Pv:Nat->List V->St->Hp->Prop) (h0:Pv 0 [] σ0 H) (hl:∀ i ys σ H,Pv i ys σ H->ys.length<=i) (hz:n<=sizeLine)
  (hs:∀ i ys σ H,i < n->Pv i ys σ H->g (.int (lo + i)) σ H fun σ2 H2=>te σ2 H2 fun y H3=>Pv (i + 1) (ys++[y]) σ2 H3)
  (hd:∀ ys σ H,Pv n ys σ H->∀ p,H p=none->Q (.ref p) (upd H p (.lst ys))):CompGo (Itr lo n) g te Q σ0 H:=by
 refine ⟨fun i m ys σ H=>m=n - i/\i<=n/\Pv i ys σ H,⟨n,by simp,Nat.zero_le _,h0⟩,?_⟩
 rintro i m ys σ H ⟨rfl,hi,p⟩
 have hy:=hl i ys σ H p
 by_cases hlt:i < n
 ·refine .inr ⟨hlt,by omega,fun y σ' H'=>Pv (i + 1) (ys++[y]) σ' H',fun y σ' H' z=>⟨n - (i + 1),by omega,rfl,hlt,z⟩,fun x H' y=>?_⟩
  obtain ⟨e,y⟩:=y
  subst e y
  exact hs i ys σ _ hlt p
 ·have e:i=n:=by omega
  subst e
  exact .inl ⟨Nat.le_refl _,hd ys σ H p⟩
structure Fn (P:Program) (w:World) (K:PySem.W.Frag) (mg:Str->Option Value) (base:Heap) (x:Str) (ps:List Str) (k:Nat) (sp:Sp):Prop where
 ex:∃ f fd,FnOk P w K mg base CX0 k f fd ps sp/\mg x=some (.ref f)/\PySem.W.keepIn K (.ref f)=true/\Binds K fd ps []
theorem Fn.mono {P:Program} {w:World} {K:PySem.W.Frag} {mg:Str->Option Value} {base:Heap} {x:Str} {ps:List Str} {j k:Nat} {sp:Sp} (F:Fn P w K mg base x ps j sp) (h:j<=k):Fn P w K mg base x ps k sp:=by
 obtain ⟨f,fd,a,b,c,d⟩:=F.ex
 exact ⟨f,fd,a.mono h,b,c,d⟩
theorem pe_callF {X:Cx} {x:Str} {ps:List Str} {k:Nat} {sp:Sp} {e:Expr} {es:List Expr} {t:TA} {p pos:Pos} (F:Fn X.prog X.w X.K X.mg X.base x ps k sp) (hr:Room k X.A) (hg:Gl X x) (ha:PA X (e :: es) t)
  (hdb:(x == ("__debug__" : Str))=false:=by decide) (he:starEach (e :: es) X.env=(false,eval e X.env) :: starEach es X.env:=by rfl) (hpl:(backTo pos (starEach es X.env)).any (·.1)=false:=by rfl) :
  PE X (.Call (.Name x p) (e :: es) [] pos) (tCall sp [] E0 t):=by
 obtain ⟨f,fd,a,b,c,d⟩:=F.ex
 exact pe_call a hr hg b c d .nil pass0 ha hdb he hpl
end L2
namespace L2
open PySem PySem.Spec PyProof.Rows
theorem boot_isinstance_:bootBuiltins "isinstance" = some (.builtin "isinstance"):=by decide +kernel
theorem boot_len_:bootBuiltins "len" = some (.builtin "len"):=by decide +kernel
theorem boot_abs_:bootBuiltins "abs" = some (.builtin "abs"):=by decide +kernel
theorem boot_all_:bootBuiltins "all" = some (.builtin "all"):=by decide +kernel
theorem boot_int_:bootBuiltins "int" = some (.type "int"):=by decide +kernel
theorem boot_bool_:bootBuiltins "bool" = some (.type "bool"):=by decide +kernel
theorem boot_tuple_:bootBuiltins "tuple" = some (.type "tuple"):=by decide +kernel
theorem boot_list_:bootBuiltins "list" = some (.type "list"):=by decide +kernel
section
variable (K:PySem.W.Frag)
theorem kit_tuple_tuple:PySem.W.kitOne K (.type "tuple") (.type "tuple")=some true:=by first | rfl | decide +kernel | (unfold PySem.W.kitOne; rw [if_pos (by decide +kernel)])
end
theorem blk_mk {X:Cx} {scope:Scope} {own:List Str} (k:scope.kind=.function) (n:scope.names.all (fun y=>y.2 != .cell && y.2 != .free && (y.2 != .local || scope.names.lookup y.1 == some .local))=true:=by first | rfl | decide +kernel):BlkOk X scope own []:=by
 have z:∀ y∈scope.names,(y.2 != .cell && y.2 != .free && (y.2 != .local || scope.names.lookup y.1 == some .local))=true:=List.all_eq_true.mp n
 refine ⟨k,fun y hy e=>?_,fun y hy e=>?_,fun y hy e=>?_,fun p hp=>by cases hp⟩
 ·have:=z y hy
  rw [e] at this
  simp at this
 ·have:=z y hy
  rw [e] at this
  simpa using this
 ·have:=z y hy
  rw [e] at this
  simp at this
structure FunD (K:PySem.W.Frag) (x qual:Str) (st:Stmt) (f:Addr) (fd:FuncData) (d:Value):Prop where
 ex:∃ (oc:Value) (od:Option Addr) (kV doc pm:Value) (an:Option Addr) (cdv ct:Value) (osl:Array (Option Value)) (T:Addr) (oT:Obj) (n:Nat),
  fd=PySem.W.fnOf x qual (defArgs st) (defBody st) (defScope st) (.ref T) kV doc pm an cdv ct/\K.lookup f=some ⟨oc,od,.func fd,osl⟩/\PySem.W.codeIn K cdv qual=true/\K.lookup T=some oT/\oT.data=.seq #[d] n
 kp:PySem.W.keepIn K (.ref f)=true
theorem FunD.ok {P:Program} {w:World} {K:PySem.W.Frag} {mg:Str->Option Value} {base:Heap} {x qual:Str} {st:Stmt} {f:Addr} {fd:FuncData} {d:Value} {N ps:List Str} {k:Nat} {sp:Sp} (F:FunD K x qual st f fd d) (S:FnScope N ps (defScope st))
  (len:∀ vs H Q E,sp vs H Q E->vs.length=ps.length)
  (hbody:∀ (cdv:Value) (A:Around) (outer:List Env) (s:Shared) (H:Hp) (vs:List V) (Q:VK) (E:XK),Room k (A.deeper (envOfC qual (defScope st) s.heap.objs.size f cdv))->sp vs H Q E->
   ∃ t,PSs (cxOf CX0 P w K mg base N qual (defScope st) f cdv A outer s H E).nox (defBody st) t/\t { nx:=fun _ H'=>Q .non H',rt:=Q } (start N vs) H):FnOk P w K mg base CX0 (k + 1) f fd ps sp:=by
 obtain ⟨oc,od,kV,doc,pm,an,cdv,ct,osl,T,oT,n,rfl,lk,hcd,_⟩:=F.ex
 refine fn_of lk hcd S len fun A outer s H vs Q E hr hsp=>?_
 obtain ⟨t,h,q⟩:=hbody cdv A outer s H vs Q E hr hsp
 exact ⟨t,h.nox,q⟩
end L2
namespace L2
open PySem PySem.Spec PyProof.Rows
theorem fund_mk {K:PySem.W.Frag} {x qual:Str} {st:Stmt} {f T:Addr} {oc kV doc pm cdv ct d:Value} {od an:Option Addr} {osl:Array (Option Value)} {oT:Obj} {n:Nat} (l:K.lookup f=some ⟨oc,od,.func (PySem.W.fnOf x qual (defArgs st) (defBody st) (defScope st) (.ref T) kV doc pm an cdv ct),osl⟩)
  (c:PySem.W.codeIn K cdv qual=true) (k:PySem.W.keepIn K (.ref f)=true) (t:K.lookup T=some oT) (e:oT.data=.seq #[d] n):FunD K x qual st f (PySem.W.fnOf x qual (defArgs st) (defBody st) (defScope st) (.ref T) kV doc pm an cdv ct) d:=
 ⟨⟨oc,od,kV,doc,pm,an,cdv,ct,osl,T,oT,n,rfl,l,c,t,e⟩,k⟩
theorem FunD.binds {K:PySem.W.Frag} {x qual:Str} {st:Stmt} {f:Addr} {fd:FuncData} {d:Value} {ps:List Str} (F:FunD K x qual st f fd d)
  (h:∀ (T:Addr) (kV doc pm:Value) (an:Option Addr) (cdv ct:Value) (us:List Value),us.length=ps.length->∃ k:Option (Array Value)->Sem (List (Str × Value)),
   bindArgs (PySem.W.fnOf x qual (defArgs st) (defBody st) (defScope st) (.ref T) kV doc pm an cdv ct) ⟨us,[]⟩=seqItems? (.ref T) >>= k/\k (some #[d])=pure (ps.zip us)):Binds K fd ps []:=by
 obtain ⟨oc,od,kV,doc,pm,an,cdv,ct,osl,T,oT,n,rfl,lk,hcd,t,e⟩:=F.ex
 intro s us X hl
 rw [List.append_nil] at hl |-
 obtain ⟨k,h1,h2⟩:=h T kV doc pm an cdv ct us hl
 exact .of_defaults (T:=T) rfl (X T oT t) e h1 h2
end L2
namespace L2
open PySem PySem.Spec PyProof.Rows
theorem blk_cap {X:Cx} {scope S:Scope} {own N:List Str} {caps:List (Nat × Str)} (k:scope.kind=.function) (n:scope.names.all (fun y=>y.2 != .cell && (y.2 != .local || scope.names.lookup y.1 == some .local))=true)
  (hS:X.env.scope=S) (hc:∃ n,X.env.cells=cellsFrom n S.names []) (hN:X.N=N) (fr:scope.names.all (fun y=>y.2 != .free || S.names.lookup y.1 == some .cell)=true)
  (cp:caps.all (fun p=>N[p.1]? == some p.2 && scope.names.lookup p.2 == some .free && S.names.lookup p.2 == some .cell)=true):BlkOk X scope own caps:=by
 have z:∀ y∈scope.names,(y.2 != .cell && (y.2 != .local || scope.names.lookup y.1 == some .local))=true:=List.all_eq_true.mp n
 obtain ⟨nn,hc⟩:=hc
 refine ⟨k,fun y hy e=>?_,fun y hy e=>?_,fun y hy e=>?_,fun p hp=>?_⟩
 ·have:=z y hy
  rw [e] at this
  simp at this
 ·have:=z y hy
  rw [e] at this
  simpa using this
 ·have q:=List.all_eq_true.mp fr y hy
  rw [e] at q
  have q2:S.names.lookup y.1=some .cell:=by simpa using q
  rw [hc]
  exact PySem.W.cellsFrom_some S.names nn [] (.inl q2)
 ·have q:=List.all_eq_true.mp cp p hp
  simp only [Bool.and_eq_true,beq_iff_eq] at q
  refine ⟨by rw [hN]; exact q.1.1,q.1.2,.inl ?_⟩
  show X.env.scope.names.lookup p.2=some .cell
  rw [hS]
  exact q.2
structure FnD (P:Program) (w:World) (K:PySem.W.Frag) (mg:Str->Option Value) (base:Heap) (x:Str) (ps:List Str) (k:Nat) (sp:Sp) (dv:V):Prop where
 ex:∃ f fd d,FnOk P w K mg base CX0 k f fd ps sp/\mg x=some (.ref f)/\PySem.W.keepIn K (.ref f)=true/\Binds K fd ps []/\Binds K fd ps [d]/\RelV dv d
theorem FnD.mono {P:Program} {w:World} {K:PySem.W.Frag} {mg:Str->Option Value} {base:Heap} {x:Str} {ps:List Str} {j k:Nat} {sp:Sp} {dv:V} (F:FnD P w K mg base x ps j sp dv) (h:j<=k):FnD P w K mg base x ps k sp dv:=by
 obtain ⟨f,fd,d,a,b,c,e⟩:=F.ex
 exact ⟨f,fd,d,a.mono h,b,c,e⟩
theorem FnD.fn {P:Program} {w:World} {K:PySem.W.Frag} {mg:Str->Option Value} {base:Heap} {x:Str} {ps:List Str} {k:Nat} {sp:Sp} {dv:V} (F:FnD P w K mg base x ps k sp dv):Fn P w K mg base x ps k sp:=by
 obtain ⟨f,fd,d,a,b,c,e,_⟩:=F.ex
 exact ⟨f,fd,a,b,c,e⟩
theorem pe_callF1 {X:Cx} {x:Str} {ps:List Str} {k:Nat} {sp:Sp} {e:Expr} {es:List Expr} {t:TA} {p pos:Pos} {dv:V} (F:FnD X.prog X.w X.K X.mg X.base x ps k sp dv) (hr:Room k X.A) (hg:Gl X x) (ha:PA X (e :: es) t)
  (hdb:(x == ("__debug__" : Str))=false:=by decide) (he:starEach (e :: es) X.env=(false,eval e X.env) :: starEach es X.env:=by rfl) (hpl:(backTo pos (starEach es X.env)).any (·.1)=false:=by rfl) :
  PE X (.Call (.Name x p) (e :: es) [] pos) (tCall sp [dv] E0 t):=by
 obtain ⟨f,fd,d,a,b,c,_,h2,r⟩:=F.ex
 exact pe_call a hr hg b c h2 (.cons r .nil) pass0 ha hdb he hpl
theorem FunD.binds1 {K:PySem.W.Frag} {x qual:Str} {st:Stmt} {f:Addr} {fd:FuncData} {d:Value} {ps:List Str} (F:FunD K x qual st f fd d)
  (h:∀ (T:Addr) (kV doc pm:Value) (an:Option Addr) (cdv ct:Value) (us:List Value),us.length + 1=ps.length->∃ k:Option (Array Value)->Sem (List (Str × Value)),
   bindArgs (PySem.W.fnOf x qual (defArgs st) (defBody st) (defScope st) (.ref T) kV doc pm an cdv ct) ⟨us,[]⟩=seqItems? (.ref T) >>= k/\k (some #[d])=pure (ps.zip (us++[d]))):Binds K fd ps [d]:=by
 obtain ⟨oc,od,kV,doc,pm,an,cdv,ct,osl,T,oT,n,rfl,lk,hcd,t,e⟩:=F.ex
 intro s us X hl
 rw [List.length_append,List.length_singleton] at hl
 obtain ⟨k,h1,h2⟩:=h T kV doc pm an cdv ct us hl
 exact .of_defaults (T:=T) rfl (X T oT t) e h1 h2
theorem cut_last (xs:List V) (v:V):cutV (xs++[v]) none (some (-1))=xs:=by
 unfold cutV
 have e1:HT.sIx (xs++[v]).length 0 none=0:=rfl
 have e2:HT.sIx (xs++[v]).length (xs++[v]).length (some (-1))=xs.length:=by
  show (if (-1:Int) < 0 then ((-1:Int) + ((xs++[v]).length:Int)).toNat else min (-1:Int).toNat (xs++[v]).length)=xs.length
  rw [if_pos (by decide),List.length_append,List.length_singleton]
  omega
 rw [e1,e2]
 simp
theorem cut_last_no (xs:List V) (v:V):¬ (HT.sIx (xs++[v]).length 0 none=0/\HT.sIx (xs++[v]).length (xs++[v]).length (some (-1))=(xs++[v]).length):=by
 rintro ⟨_,e⟩
 have e2:HT.sIx (xs++[v]).length (xs++[v]).length (some (-1))=xs.length:=by
  show (if (-1:Int) < 0 then ((-1:Int) + ((xs++[v]).length:Int)).toNat else min (-1:Int).toNat (xs++[v]).length)=xs.length
  rw [if_pos (by decide),List.length_append,List.length_singleton]
  omega
 rw [e2,List.length_append,List.length_singleton] at e
 omega
end L2
namespace L2
theorem iteB1 {b:Bool} {A B:Prop} (e:b=true) (h:A):if b=true then A else B:=by
 rw [if_pos e]
 exact h
theorem iteB0 {b:Bool} {A B:Prop} (e:b=false) (h:B):if b=true then A else B:=by
 rw [if_neg (by rw [e]; exact Bool.false_ne_true)]
 exact h
theorem dec_yes {i j:Int} (h:i=j):decide (V.int i=V.int j)=true:=decide_eq_true (by rw [h])
theorem dec_no {i j:Int} (h:i≠j):decide (V.int i=V.int j)=false:=decide_eq_false fun e=>h (by injection e)
theorem ndec_no {i j:Int} (h:i≠j):(!decide (V.int i=V.int j))=true:=by rw [dec_no h]; rfl
theorem ndec_yes {i j:Int} (h:i=j):(!decide (V.int i=V.int j))=false:=by rw [dec_yes h]; rfl
end L2
set_option maxRecDepth 100000
namespace L2
open PySem
section
variable {prog:Program} {w:World} {A:Around} {E:Value->Shared->Prop} {s:Shared}
theorem draws_tup (hh:A.handled=none) (it t:Addr) (hne:t≠it) (items:Array Value) :
  Draws prog w A it [it,t] items.size (fun i v=>items[i]? = some v) (fun i h=>h.IsTupleIter it t i/\h.IsTuple t items) where
 live:=fun _ _ st=>let ⟨o,ho,_⟩:=st.1; ⟨o,ho⟩
 frame:=fun _ _ _ st hk=>⟨let ⟨o,e,r⟩:=st.1; ⟨o,hk it (by simp) o e,r⟩,let ⟨o,e,r⟩:=st.2; ⟨o,hk t (by simp) o e,r⟩⟩
 item:=fun i s Q E hi st hQ=>by
  obtain ⟨hit,ht⟩:=st
  obtain ⟨o,ho,hc,hd⟩:=id hit
  obtain ⟨ol,hol,_,nl,hdl⟩:=id ht
  have hx:items[i]? = some items[i]:=by simp [hi]
  unfold Builtin.SmallTypes.nextOf
  refine wpAny_bind (wpAny_callSpecial?_slot (name:=Str.ofString "__next__") hit.typeIs F.slot_tuple_iterator_next (wpAny_call_entry F.slot_tuple_iterator_next hit.typeIs F.entry_tuple_iterator_next ?_ (F.args_tuple_iterator_next_1 _)))
  change wpAny _ _ (field (.ref it) 0 >>= _) _ _ s
  refine wpAny_bind (wpAny_field ho hd (x:=.ref t) rfl ?_)
  change wpAny _ _ (if (Value.ref t == Value.none)=true then _ else _) _ _ s
  rw [if_neg (show (Value.ref t == Value.none)≠true from Bool.false_ne_true)]
  change wpAny _ _ (field (.ref it) 1 >>= _) _ _ s
  refine wpAny_bind (wpAny_field ho hd (x:=.int i 0) rfl ?_)
  change wpAny _ _ (seqItems? (.ref t) >>= _) _ _ s
  refine wpAny_bind (wpAny_seqItems hol hdl ?_)
  simp only [Int.toNat_natCast,hx]
  refine wpAny_bind (wpAny_setField ho hd (by simp) (wpAny_pure ⟨items[i],rfl,wpAny_pure (hQ _ _ s.toks hx ⟨?_,?_⟩ (Heap.SameBut.update ..))⟩))
  ·exact ⟨_,Heap.get?_update_self _ ho (Obj.isFreed_of_fields (Obj.data_mapFields hd _)),(Obj.cls_mapFields ..).trans hc,by rw [Obj.data_mapFields hd]; simp [rawInt]⟩
  ·exact ht.extBut (Heap.SameBut.update ..).extBut hne
 done:=fun s Q E st hE=>by
  obtain ⟨hit,ht⟩:=st
  obtain ⟨o,ho,hc,hd⟩:=id hit
  obtain ⟨ol,hol,_,nl,hdl⟩:=id ht
  have hx:items[items.size]? = none:=by simp
  unfold Builtin.SmallTypes.nextOf
  refine wpAny_bind (wpAny_callSpecial?_slot (name:=Str.ofString "__next__") hit.typeIs F.slot_tuple_iterator_next (wpAny_call_entry F.slot_tuple_iterator_next hit.typeIs F.entry_tuple_iterator_next ?_ (F.args_tuple_iterator_next_1 _)))
  change wpAny _ _ (field (.ref it) 0 >>= _) _ _ s
  refine wpAny_bind (wpAny_field ho hd (x:=.ref t) rfl ?_)
  change wpAny _ _ (if (Value.ref t == Value.none)=true then _ else _) _ _ s
  rw [if_neg (show (Value.ref t == Value.none)≠true from Bool.false_ne_true)]
  change wpAny _ _ (field (.ref it) 1 >>= _) _ _ s
  refine wpAny_bind (wpAny_field ho hd (x:=.int items.size 0) rfl ?_)
  change wpAny _ _ (seqItems? (.ref t) >>= _) _ _ s
  refine wpAny_bind (wpAny_seqItems hol hdl ?_)
  simp only [Int.toNat_natCast,hx]
  refine wpAny_bind (wpAny_rule (wpAny_bind (wpAny_setField ho hd (by simp) ?_)))
  change wpAny _ _ (newExc (.type "StopIteration") [] >>= _) _ _ _
  refine wpAny_bind ?_
  simp only [newExc,newTuple]
  refine wpAny_bind (wpAny_newObj_type ?_ (by size_fits))
  refine wpAny_bind (m:=firstArgMember _ _) (wpAny_of_eq (a:=Value.none) (by first | rfl | (simp only [firstArgMember]; rfl)) ?_)
  refine wpAny_newObj_type ?_ (by size_fits)
  simp only [raiseNew]
  refine wpAny_bind (wpAny_handled ?_)
  first | rw [show A.in1.handled=none from hh] | rw [hh]
  refine wpAny_bind (wpAny_pure (wpAny_throw ?_))
  exact hE _ _ (((Heap.SameBut.update ..).extBut.push _).push _) ⟨_,Heap.get?_push_size _ rfl,rfl⟩
structure Zp (z TI TO i1 i2:Addr) (f1 f2:List Addr):Prop where
 a1:TI≠z
 a2:TO≠z
 a3:i1≠z
 a4:i2≠z
 a5:TI≠TO
 a6:TI≠i1
 a7:TI≠i2
 a8:TO≠i1
 a9:TO≠i2
 b1:z∉f1
 b2:z∉f2
 b3:TO∉f1
 b4:TO∉f2
 b5:i1∉f2
 b6:i2∉f1
theorem zip_draw {z TI TO i1 i2:Addr} {f1 f2:List Addr} {n1 n2 k:Nat} {P1 P2:Nat->Value->Prop} {S1 S2:Nat->Heap->Prop} {a b:Value} {Q:Value->Shared->Prop}
  (D1:Draws prog w A i1 f1 n1 P1 S1) (D2:Draws prog w A i2 f2 n2 P2 S2) (Z:Zp z TI TO i1 i2 f1 f2) (hz:IsZip s.heap z TI TO .none) (hI:IsPair s.heap TI (.ref i1) (.ref i2)) (hO:IsPair s.heap TO a b)
  (s1:S1 k s.heap) (s2:S2 k s.heap) (k1:k < n1) (k2:k < n2)
  (hQ:∀ x y h' tk,P1 k x->P2 k y->IsZip h' z TI TO (rawInt s.heap.objs.size)->IsPair h' TI (.ref i1) (.ref i2)->IsPair h' TO x y->S1 (k + 1) h'->S2 (k + 1) h'->IsPair h' s.heap.objs.size x y->
   (∀ c o,c≠z->c≠TO->c≠i1->c≠i2->s.heap.get? c=some o->h'.get? c=some o)->Q (.ref s.heap.objs.size) { s with heap:=h',toks:=tk }) :
  wpAny (model prog w) A (Builtin.«zip.__next__» ⟨[.ref z],[]⟩) (fun fin s'=>∃ v,fin=.done (.ret v)/\Q v s') E s:=by
 change wpAny _ _ (field (.ref z) 2 >>= _) _ _ _
 refine wpAny_bind (wpAny_field hz rfl (x:=.bool false) rfl ?_)
 change wpAny _ _ (field (.ref z) 3 >>= _) _ _ _
 refine wpAny_bind (wpAny_field hz rfl (x:=.ref TI) rfl ?_)
 refine wpAny_bind (wpAny_seqItems hI rfl ?_)
 change wpAny _ _ (Builtin.SmallTypes.ownedTupleIsFree (.ref z) >>= _) _ _ _
 refine wpAny_bind ?_
 unfold Builtin.SmallTypes.ownedTupleIsFree
 refine wpAny_bind (wpAny_field hz rfl (x:=.none) rfl (wpAny_pure ?_))
 simp only [if_true]
 refine wpAny_bind (wpAny_rule ?_)
 refine wpAny_bind (wpAny_field hz rfl (x:=.ref TO) rfl ?_)
 refine wpAny_bind (wpAny_setField_rec hz (by simp) fun g1 z1 m1=>?_)
 replace z1:IsZip g1 z TI TO .ellipsis:=z1
 refine wpAny_bind ?_
 simp only [List.zipIdx_cons,List.zipIdx_nil,List.forIn_cons,List.forIn_nil]
 refine wpAny_bind (wpAny_bind (wpAny_onRaise ?_))
 change wpAny _ _ (Builtin.SmallTypes.nextOf (.ref i1) >>= _) _ _ _
 refine wpAny_bind (D1.item k _ _ _ k1 (D1.frame _ _ _ s1 fun c hc o e=>m1.extBut c o (fun q=>Z.b1 (q ▸ hc)) e) fun x g2 t2 px s12 m2=>wpAny_pure ?_)
 have o2:IsPair g2 TO a b:=m2.extBut _ _ Z.a8 (m1.extBut _ _ Z.a2 hO)
 refine wpAny_bind (wpAny_seqItems o2 rfl ?_)
 refine wpAny_bind (wpAny_updateSeq_pair o2 fun g3 o3 m3=>?_)
 replace o3:IsPair g3 TO x b:=o3
 refine wpAny_bind (wpAny_letGo (wpAny_pure ?_))
 refine wpAny_bind (wpAny_bind (wpAny_onRaise ?_))
 change wpAny _ _ (Builtin.SmallTypes.nextOf (.ref i2) >>= _) _ _ _
 refine wpAny_bind (D2.item k _ _ _ k2 (D2.frame _ _ _ s2 fun c hc o e=>m3.extBut c o (fun q=>Z.b4 (q ▸ hc)) (m2.extBut c o (fun q=>Z.b5 (q ▸ hc)) (m1.extBut c o (fun q=>Z.b2 (q ▸ hc)) e))) fun y g4 t4 py s24 m4=>wpAny_pure ?_)
 have o4:IsPair g4 TO x b:=m4.extBut _ _ Z.a9 o3
 refine wpAny_bind (wpAny_seqItems o4 rfl ?_)
 refine wpAny_bind (wpAny_updateSeq_pair o4 fun g5 o5 m5=>?_)
 replace o5:IsPair g5 TO x y:=o5
 refine wpAny_bind (wpAny_letGo (wpAny_pure (wpAny_pure ?_)))
 refine wpAny_bind (wpAny_seqItems o5 rfl ?_)
 refine wpAny_bind (wpAny_newTuple ?_)
 have sz:g5.objs.size=s.heap.objs.size:=by
  have q5:g5.objs.size=g4.objs.size:=m5.1
  have q4:g4.objs.size=g3.objs.size:=m4.1
  have q3:g3.objs.size=g2.objs.size:=m3.1
  have q2:g2.objs.size=g1.objs.size:=m2.1
  have q1:g1.objs.size=s.heap.objs.size:=m1.1
  omega
 have all5:∀ c o,c≠z->c≠TO->c≠i1->c≠i2->s.heap.get? c=some o->g5.get? c=some o:=fun c o c1 c2 c3 c4 e=>m5.extBut _ _ c2 (m4.extBut _ _ c4 (m3.extBut _ _ c2 (m2.extBut _ _ c3 (m1.extBut _ _ c1 e))))
 have z5:IsZip g5 z TI TO .ellipsis:=m5.extBut _ _ Z.a2.symm (m4.extBut _ _ Z.a4.symm (m3.extBut _ _ Z.a2.symm (m2.extBut _ _ Z.a3.symm z1)))
 have I5:IsPair g5 TI (.ref i1) (.ref i2):=all5 _ _ Z.a1 Z.a5 Z.a6 Z.a7 hI
 have u1:S1 (k + 1) g5:=D1.frame _ _ _ s12 fun c hc o e=>m5.extBut c o (fun q=>Z.b3 (q ▸ hc)) (m4.extBut c o (fun q=>Z.b6 (q ▸ hc)) (m3.extBut c o (fun q=>Z.b3 (q ▸ hc)) e))
 have u2:S2 (k + 1) g5:=D2.frame _ _ _ s24 fun c hc o e=>m5.extBut c o (fun q=>Z.b4 (q ▸ hc)) e
 have lt:z < g5.objs.size:=Heap.lt_size z5
 change wpAny _ _ (Builtin.SmallTypes.ownedTupleHandOut (.ref z) (.ref g5.objs.size) >>= _) _ _ _
 refine wpAny_bind ?_
 unfold Builtin.SmallTypes.ownedTupleHandOut
 have z6:IsZip (g5.push { cls:=.type "tuple",data:=.seq #[x,y] }) z TI TO .ellipsis:=Heap.get?_push_of_some _ z5
 refine wpAny_bind (wpAny_setField_rec z6 (by simp) fun g7 z7 m7=>?_)
 replace z7:IsZip g7 z TI TO (rawInt g5.objs.size):=z7
 refine wpAny_setField_rec z7 (by simp) fun g8 z8 m8=>?_
 replace z8:IsZip g8 z TI TO (rawInt g5.objs.size):=z8
 have up:∀ c o,c≠z->g5.get? c=some o->g8.get? c=some o:=fun c o c1 e=>m8.extBut _ _ c1 (m7.extBut _ _ c1 (Heap.get?_push_of_some _ e))
 have T8:IsPair g8 g5.objs.size x y:=m8.extBut _ _ (Nat.ne_of_gt lt) (m7.extBut _ _ (Nat.ne_of_gt lt) (Heap.get?_push_size _ rfl))
 rw [sz] at z8 T8
 refine wpAny_pure ⟨_,rfl,?_⟩
 change Q (.ref g5.objs.size) _
 rw [sz]
 exact hQ x y g8 _ px py z8 (up _ _ Z.a1 I5) (up _ _ Z.a2 o5) (D1.frame _ _ _ u1 fun c hc o e=>up c o (fun q=>Z.b1 (q ▸ hc)) e) (D2.frame _ _ _ u2 fun c hc o e=>up c o (fun q=>Z.b2 (q ▸ hc)) e) T8
  fun c o c1 c2 c3 c4 e=>up c o c1 (all5 c o c1 c2 c3 c4 e)
theorem zip_over {z TI TO i1 i2:Addr} {f1 f2:List Addr} {n1 n2 k:Nat} {P1 P2:Nat->Value->Prop} {S1 S2:Nat->Heap->Prop} {a b:Value} {Q:Fin->Shared->Prop}
  (D1:Draws prog w A i1 f1 n1 P1 S1) (D2:Draws prog w A i2 f2 n2 P2 S2) (Z:Zp z TI TO i1 i2 f1 f2) (hz:IsZip s.heap z TI TO .none) (hI:IsPair s.heap TI (.ref i1) (.ref i2)) (hO:IsPair s.heap TO a b)
  (s1:S1 k s.heap) (s2:S2 k s.heap) (k1:k<=n1) (k2:k<=n2) (ke:k=n1\/k=n2)
  (hE:∀ h' e tk,(∀ c o,c≠z->c≠TO->c≠i1->c≠i2->s.heap.get? c=some o->h'.get? c=some o)->(∃ o,h'.get? e=some o/\o.cls=.type "StopIteration")->E (.ref e) { s with heap:=h',toks:=tk }) :
  wpAny (model prog w) A (Builtin.«zip.__next__» ⟨[.ref z],[]⟩) Q E s:=by
 change wpAny _ _ (field (.ref z) 2 >>= _) _ _ _
 refine wpAny_bind (wpAny_field hz rfl (x:=.bool false) rfl ?_)
 change wpAny _ _ (field (.ref z) 3 >>= _) _ _ _
 refine wpAny_bind (wpAny_field hz rfl (x:=.ref TI) rfl ?_)
 refine wpAny_bind (wpAny_seqItems hI rfl ?_)
 change wpAny _ _ (Builtin.SmallTypes.ownedTupleIsFree (.ref z) >>= _) _ _ _
 refine wpAny_bind ?_
 unfold Builtin.SmallTypes.ownedTupleIsFree
 refine wpAny_bind (wpAny_field hz rfl (x:=.none) rfl (wpAny_pure ?_))
 simp only [if_true]
 refine wpAny_bind (wpAny_rule ?_)
 refine wpAny_bind (wpAny_field hz rfl (x:=.ref TO) rfl ?_)
 refine wpAny_bind (wpAny_setField_rec hz (by simp) fun g1 z1 m1=>?_)
 replace z1:IsZip g1 z TI TO .ellipsis:=z1
 refine wpAny_bind ?_
 simp only [List.zipIdx_cons,List.zipIdx_nil,List.forIn_cons,List.forIn_nil]
 refine wpAny_bind (wpAny_bind (wpAny_onRaise ?_))
 change wpAny _ _ (Builtin.SmallTypes.nextOf (.ref i1) >>= _) _ _ _
 have s1':S1 k g1:=D1.frame _ _ _ s1 fun c hc o e=>m1.extBut c o (fun q=>Z.b1 (q ▸ hc)) e
 by_cases c1:k=n1
 ·subst c1
  refine wpAny_bind (D1.done _ _ _ s1' fun g2 e m2 he=>?_)
  obtain ⟨oe,he1,he2⟩:=he
  have z2:IsZip g2 z TI TO .ellipsis:=m2 _ _ Z.a3.symm z1
  have nez:e≠z:=fun q=>by subst q; rw [z2] at he1; cases he1; simp at he2
  exact wpAny_setField_rec z2 (by simp) fun g3 _ m3=>hE g3 e _ (fun c o c1 c2 c3 c4 q=>m3.extBut _ _ c1 (m2 _ _ c3 (m1.extBut _ _ c1 q))) ⟨oe,m3.extBut _ _ nez he1,he2⟩
 ·have c2:k=n2:=ke.resolve_left c1
  subst c2
  refine wpAny_bind (D1.item k _ _ _ (by omega) s1' fun x g2 t2 px s12 m2=>wpAny_pure ?_)
  have o2:IsPair g2 TO a b:=m2.extBut _ _ Z.a8 (m1.extBut _ _ Z.a2 hO)
  refine wpAny_bind (wpAny_seqItems o2 rfl ?_)
  refine wpAny_bind (wpAny_updateSeq_pair o2 fun g3 o3 m3=>?_)
  refine wpAny_bind (wpAny_letGo (wpAny_pure ?_))
  refine wpAny_bind (wpAny_bind (wpAny_onRaise ?_))
  change wpAny _ _ (Builtin.SmallTypes.nextOf (.ref i2) >>= _) _ _ _
  refine wpAny_bind (D2.done _ _ _ (D2.frame _ _ _ s2 fun c hc o e=>m3.extBut c o (fun q=>Z.b4 (q ▸ hc)) (m2.extBut c o (fun q=>Z.b5 (q ▸ hc)) (m1.extBut c o (fun q=>Z.b2 (q ▸ hc)) e))) fun g4 e m4 he=>?_)
  obtain ⟨oe,he1,he2⟩:=he
  have z4:IsZip g4 z TI TO .ellipsis:=m4 _ _ Z.a4.symm (m3.extBut _ _ Z.a2.symm (m2.extBut _ _ Z.a3.symm z1))
  have nez:e≠z:=fun q=>by subst q; rw [z4] at he1; cases he1; simp at he2
  exact wpAny_setField_rec z4 (by simp) fun g5 _ m5=>hE g5 e _ (fun c o c1 c2 c3 c4 q=>m5.extBut _ _ c1 (m4 _ _ c4 (m3.extBut _ _ c2 (m2.extBut _ _ c3 (m1.extBut _ _ c1 q))))) ⟨oe,m5.extBut _ _ nez he1,he2⟩
end
noncomputable abbrev zq1 (h:Heap) (t:Addr):Heap:=h.push { cls:=.type "tuple_iterator",data:=.fields #[.ref t,.int 0 0] }
noncomputable abbrev zq2 (h:Heap) (t l:Addr):Heap:=(zq1 h t).push { cls:=.type "list_iterator",data:=.fields #[.ref l,.int 0 0] }
noncomputable abbrev zq3 (h:Heap) (t l:Addr):Heap:=(zq2 h t l).push { cls:=.type "tuple",data:=.seq #[.ref h.objs.size,.ref (zq1 h t).objs.size] }
noncomputable abbrev zq4 (h:Heap) (t l:Addr):Heap:=(zq3 h t l).push { cls:=.type "tuple",data:=.seq #[.none,.none] }
noncomputable abbrev zq5 (h:Heap) (t l:Addr):Heap:=(zq4 h t l).push { cls:=.type "zip",data:=.fields #[.none,.bool false,.bool false,.ref (zq2 h t l).objs.size,.ref (zq3 h t l).objs.size] }
theorem zip_new_tl (t l:Addr) (xs ys:Array Value) :
  Meets (Builtin.«zip.__new__» ⟨[.type "zip",.ref t,.ref l],[]⟩) (fun _ R s=>s.heap.IsTuple t xs/\s.heap.IsList l ys/\R (.ok (.ret (.ref (zq4 s.heap t l).objs.size))) { s with heap:=zq5 s.heap t l }):=
 .of_wp fun prog w A R s h=>by
  obtain ⟨hp,g,d,tk,os⟩:=s; obtain ⟨h1,h2,h⟩:=h
  have hsub:=sub_zip
  have e1:Heap.IsTuple (Shared.heap ⟨hp,g,d,tk,os⟩) t xs:=h1
  have e2:Heap.IsList (Shared.heap ⟨hp.push { cls:=.type "tuple_iterator",data:=.fields #[.ref t,.int 0 0] },g,d,tk,os⟩) l ys:=Heap.IsList.push h2 _
  wp_walk using wpAny_pyIter_tuple e1,wpAny_pyIter_list e2
  exact ⟨_,rfl,h⟩
theorem call_zip_tl {prog:Program} {w:World} {A:Around} {E:Value->Shared->Prop} {s:Shared} {t l:Addr} {xs ys:Array Value} {Q:Value->Shared->Prop} (h1:s.heap.IsTuple t xs) (h2:s.heap.IsList l ys)
  (h:∀ h',IsZip h' (s.heap.objs.size + 4) (s.heap.objs.size + 2) (s.heap.objs.size + 3) .none->IsPair h' (s.heap.objs.size + 2) (.ref s.heap.objs.size) (.ref (s.heap.objs.size + 1))->IsPair h' (s.heap.objs.size + 3) .none .none->
   h'.IsTupleIter s.heap.objs.size t 0->h'.IsListIter (s.heap.objs.size + 1) l 0->(∀ c o,s.heap.get? c=some o->h'.get? c=some o)->Q (.ref (s.heap.objs.size + 4)) { s with heap:=h' }) :
  wpAny (model prog w) A (call (.type "zip") [.ref t,.ref l]) Q E s:=by
 refine callType_new F.called_zip (by decide) (F.typeCall_zip_2 _ _) (F.newCall_zip_2 _ _) (fun obj=>F.args_object_init_3 obj _ _) F.entry_zip_new (zip_new_tl t l xs ys) ⟨h1,h2,?_⟩
 have n1:(zq1 s.heap t).objs.size=s.heap.objs.size + 1:=Heap.size_push ..
 have n2:(zq2 s.heap t l).objs.size=s.heap.objs.size + 2:=by rw [Heap.size_push,n1]
 have n3:(zq3 s.heap t l).objs.size=s.heap.objs.size + 3:=by rw [Heap.size_push,n2]
 have n4:(zq4 s.heap t l).objs.size=s.heap.objs.size + 4:=by rw [Heap.size_push,n3]
 have p5:(zq5 s.heap t l).get? (zq4 s.heap t l).objs.size=some _:=Heap.get?_push_size _ rfl
 have p4:(zq5 s.heap t l).get? (zq3 s.heap t l).objs.size=some _:=Heap.get?_push_of_some _ (Heap.get?_push_size _ rfl)
 have p3:(zq5 s.heap t l).get? (zq2 s.heap t l).objs.size=some _:=Heap.get?_push_of_some _ (Heap.get?_push_of_some _ (Heap.get?_push_size _ rfl))
 have p2:(zq5 s.heap t l).get? (zq1 s.heap t).objs.size=some _:=Heap.get?_push_of_some _ (Heap.get?_push_of_some _ (Heap.get?_push_of_some _ (Heap.get?_push_size _ rfl)))
 have p1:(zq5 s.heap t l).get? s.heap.objs.size=some _:=Heap.get?_push_of_some _ (Heap.get?_push_of_some _ (Heap.get?_push_of_some _ (Heap.get?_push_of_some _ (Heap.get?_push_size _ rfl))))
 change _/\_
 rw [n2,n3,n4] at p5
 rw [n1,n2] at p3
 rw [n3] at p4
 rw [n1] at p2
 rw [n4]
 exact ⟨⟨_,p5,rfl⟩,h _ p5 p3 p4 ⟨_,p1,rfl,rfl⟩ ⟨_,p2,rfl,rfl⟩ fun c o x=>Heap.get?_push_of_some _ (Heap.get?_push_of_some _ (Heap.get?_push_of_some _ (Heap.get?_push_of_some _ (Heap.get?_push_of_some _ x))))⟩
section
variable {prog:Program} {w:World} {A:Around} {E:Value->Shared->Prop} {s:Shared}
theorem zip_next {z TI TO i1 i2:Addr} {f1 f2:List Addr} {n1 n2 k:Nat} {P1 P2:Nat->Value->Prop} {S1 S2:Nat->Heap->Prop} {a b:Value} {Q:Option Value->Shared->Prop}
  (D1:Draws prog w A.in1 i1 f1 n1 P1 S1) (D2:Draws prog w A.in1 i2 f2 n2 P2 S2) (Z:Zp z TI TO i1 i2 f1 f2) (hz:IsZip s.heap z TI TO .none) (hI:IsPair s.heap TI (.ref i1) (.ref i2)) (hO:IsPair s.heap TO a b)
  (s1:S1 k s.heap) (s2:S2 k s.heap) (k1:k < n1) (k2:k < n2)
  (hQ:∀ x y h' tk,P1 k x->P2 k y->IsZip h' z TI TO (rawInt s.heap.objs.size)->IsPair h' TI (.ref i1) (.ref i2)->IsPair h' TO x y->S1 (k + 1) h'->S2 (k + 1) h'->IsPair h' s.heap.objs.size x y->
   (∀ c o,c≠z->c≠TO->c≠i1->c≠i2->s.heap.get? c=some o->h'.get? c=some o)->Q (some (.ref s.heap.objs.size)) { s with heap:=h',toks:=tk }) :
  wpAny (model prog w) A (pyNext (.ref z)) Q E s:=by
 have ty:s.TypeIs (.ref z) "zip":=⟨_,hz,rfl⟩
 unfold pyNext
 refine wpAny_bind (wpAny_attempt (wpAny_callSpecial?_slot (name:=Str.ofString "__next__") ty F.slot_zip_next (wpAny_call_entry F.slot_zip_next ty F.entry_zip_next ?_ (F.args_zip_next_1 _))))
 exact zip_draw D1 D2 Z hz hI hO s1 s2 k1 k2 fun x y h' tk c1 c2 c3 c4 c5 c6 c7 c8 c9=>wpAny_pure (hQ x y h' tk c1 c2 c3 c4 c5 c6 c7 c8 c9)
theorem zip_end {z TI TO i1 i2:Addr} {f1 f2:List Addr} {n1 n2 k:Nat} {P1 P2:Nat->Value->Prop} {S1 S2:Nat->Heap->Prop} {a b:Value} {Q:Option Value->Shared->Prop}
  (D1:Draws prog w A.in1 i1 f1 n1 P1 S1) (D2:Draws prog w A.in1 i2 f2 n2 P2 S2) (Z:Zp z TI TO i1 i2 f1 f2) (hz:IsZip s.heap z TI TO .none) (hI:IsPair s.heap TI (.ref i1) (.ref i2)) (hO:IsPair s.heap TO a b)
  (s1:S1 k s.heap) (s2:S2 k s.heap) (k1:k<=n1) (k2:k<=n2) (ke:k=n1\/k=n2)
  (hQ:∀ h' tk,(∀ c o,c≠z->c≠TO->c≠i1->c≠i2->s.heap.get? c=some o->h'.get? c=some o)->Q none { s with heap:=h',toks:=tk }) :
  wpAny (model prog w) A (pyNext (.ref z)) Q E s:=by
 have ty:s.TypeIs (.ref z) "zip":=⟨_,hz,rfl⟩
 unfold pyNext
 refine wpAny_bind (wpAny_attempt (wpAny_callSpecial?_slot (name:=Str.ofString "__next__") ty F.slot_zip_next (wpAny_call_entry F.slot_zip_next ty F.entry_zip_next
  (zip_over D1 D2 Z hz hI hO s1 s2 k1 k2 ke fun h' e tk keep he=>?_) (F.args_zip_next_1 _))))
 obtain ⟨o,ho,hc⟩:=he
 refine wpAny_bind (wpAny_isInstance (T:="StopIteration") (b:=true) ⟨o,ho,hc⟩ isSubtype_stop ?_)
 exact wpAny_pure (hQ _ _ keep)
end
end L2
namespace L2
open PySem PySem.Spec PyProof.Rows
noncomputable def Itz (K:PySem.W.Frag) (a b:Addr):It:=
 ⟨fun i H=>∃ xs ys x y,SqT K H a xs/\SqL K H b ys/\xs[i]? = some x/\ys[i]? = some y,
  fun i H v H'=>∃ T x y,v=.ref T/\H T=none/\H'=upd H T (.tup [x,y])/\(∀ xs,SqT K H a xs->xs[i]? = some x)/\∀ ys,SqL K H b ys->ys[i]? = some y,
  fun i H=>∃ xs ys,SqT K H a xs/\SqL K H b ys/\i<=xs.length/\i<=ys.length/\(i=xs.length\/i=ys.length)⟩
theorem fields_no_cell {vs:Array Value} (v:Option Value):Data.fields vs≠Data.cell v:=fun z=>by cases z
theorem seq_no_cell {vs:Array Value} {n:Nat} (v:Option Value):Data.seq vs n≠Data.cell v:=fun z=>by cases z
theorem Inv.turnT {X:Cx} {pins:List (Addr × Obj)} {σ:St} {H:Hp} {s:Shared} {h':Heap} {tk:Nat} {ch:List Addr} {T:Addr} {x y:V} {u v:Value} (I:Inv X pins σ H s) (hf:∀ b∈ch,FpOk X pins H b) (keep:∀ b o,b∉ch->s.heap.get? b=some o->h'.get? b=some o)
  (hT:s.heap.objs.size<=T) (p:IsPair h' T u v) (rx:RelV x u) (ry:RelV y v):Inv X pins σ (upd H T (.tup [x,y])) { s with heap:=h',toks:=tk }:=by
 have fr:H T=none:=I.hok.fresh hT
 have nT:∀ b o,s.heap.get? b=some o->b≠T:=fun b o e z=>by rw [z] at e; exact absurd (Nat.lt_of_lt_of_le (Heap.lt_size e) hT) (Nat.lt_irrefl _)
 have trk:∀ b o,H b=some o->b∉ch:=fun b o e z=>by rw [(hf b z).1] at e; cases e
 refine I.step (ch:=ch) (fun b hb=>⟨(hf b hb).2.2.2.1,(hf b hb).2.1,(hf b hb).2.2.2.2.1,(hf b hb).2.2.2.2.2⟩) (fun b o _ _ hc e _=>keep b o hc e) (fun b o _ _ hc e _=>⟨o.slots,keep b o hc e⟩)
  (fun b o _ e n=>by rw [upd_ne (nT b o e)]; exact n) (fun b o hc e=>⟨o,keep b o hc e⟩) (fun b xs e=>by rw [upd_ne (ne_of_none e fr)]; exact e) (fun b o w e=>by rw [upd_ne (ne_of_none e fr)]; exact e)
  (fun b ps e=>⟨#[],by rw [upd_ne (ne_of_none e fr),e]; simp⟩) (fun m hm=>?_) (fun b w e=>?_) I.bare
 ·obtain ⟨o,es,ep,ho,r⟩:=hm
  exact ⟨o,es,ep,keep _ o (fun z=>(hf _ z).2.1 rfl) ho,r⟩
 ·by_cases hb:b=T
  ·subst hb
   rw [upd_same] at e
   cases e
   exact ⟨by show 2<=sizeLine; decide,[u,v],.cons rx (.cons ry .nil),⟨_,p,rfl,_,rfl⟩⟩
  ·rw [upd_ne hb] at e
   refine (I.hok b w e).stay (fun c q hc ec=>keep c q ?_ ec) (fun c ec=>by rw [upd_ne (ne_of_none ec fr)]; exact ec) fun c xs ec=>by rw [upd_ne (ne_of_none ec fr)]; exact ec
   rcases hc with z | z
   ·rw [z]
    exact trk b w e
   ·exact trk c _ z
theorem Inv.turnN {X:Cx} {pins:List (Addr × Obj)} {σ:St} {H:Hp} {s:Shared} {h':Heap} {tk:Nat} {ch:List Addr} (I:Inv X pins σ H s) (hf:∀ b∈ch,FpOk X pins H b) (keep:∀ b o,b∉ch->s.heap.get? b=some o->h'.get? b=some o) :
  Inv X pins σ H { s with heap:=h',toks:=tk }:=by
 have trk:∀ b o,H b=some o->b∉ch:=fun b o e z=>by rw [(hf b z).1] at e; cases e
 refine I.step (ch:=ch) (fun b hb=>⟨(hf b hb).2.2.2.1,(hf b hb).2.1,(hf b hb).2.2.2.2.1,(hf b hb).2.2.2.2.2⟩) (fun b o _ _ hc e _=>keep b o hc e) (fun b o _ _ hc e _=>⟨o.slots,keep b o hc e⟩)
  (fun b o _ e n=>n) (fun b o hc e=>⟨o,keep b o hc e⟩) (fun b xs e=>e) (fun b o w e=>e) (fun b ps e=>⟨#[],by rw [e]; simp⟩) (fun m hm=>?_) (fun b w e=>?_) I.bare
 ·obtain ⟨o,es,ep,ho,r⟩:=hm
  exact ⟨o,es,ep,keep _ o (fun z=>(hf _ z).2.1 rfl) ho,r⟩
 ·refine (I.hok b w e).stay (fun c q hc ec=>keep c q ?_ ec) (fun c ec=>ec) fun c xs ec=>ec
  rcases hc with z | z
  ·rw [z]
   exact trk b w e
  ·exact trk c _ z
theorem turn_zip {P:Program} {w:World} {K:PySem.W.Frag} {es:List Expr} {kk:Nat} {tp:Pos} {a b z TI TO i1 i2:Addr} (Z:Zp z TI TO i1 i2 [i1,a] [i2,b]) (na:a≠i1) (nb:b≠i2) :
  Turn P w K (.Tuple es kk tp) (Itz K a b) [z,TI,TO,i1,i2] z (fun i h=>IsZip h z TI TO .none/\IsPair h TI (.ref i1) (.ref i2)/\(∃ x y,IsPair h TO x y)/\h.IsTupleIter i1 a i/\h.IsListIter i2 b i) where
 mem:=by simp
 obj:=fun i h ⟨t1,t2,⟨x,y,t3⟩,t4,t5⟩ c hc=>by
  simp only [List.mem_cons,List.not_mem_nil,or_false] at hc
  rcases hc with rfl | rfl | rfl | rfl | rfl
  ·exact ⟨_,t1,fields_no_cell⟩
  ·exact ⟨_,t2,seq_no_cell⟩
  ·exact ⟨_,t3,seq_no_cell⟩
  ·obtain ⟨o,e,_,d⟩:=t4
   exact ⟨o,e,by rw [d]; exact fields_no_cell⟩
  ·obtain ⟨o,e,_,d⟩:=t5
   exact ⟨o,e,by rw [d]; exact fields_no_cell⟩
 keep:=fun i h h' ⟨t1,t2,⟨x,y,t3⟩,t4,t5⟩ k=>⟨k z (by simp) _ t1,k TI (by simp) _ t2,⟨x,y,k TO (by simp) _ t3⟩,(by obtain ⟨o,e,r⟩:=t4; exact ⟨o,k i1 (by simp) o e,r⟩),(by obtain ⟨o,e,r⟩:=t5; exact ⟨o,k i2 (by simp) o e,r⟩)⟩
 item:=by
  intro X hP hw hK hc i pins s σ H E I hf ⟨t1,t2,⟨x0,y0,t3⟩,t4,t5⟩ hg
  subst hP hw hK
  obtain ⟨xs,ys,x,y,hq1,hq2,hx,hy⟩:=hg
  obtain ⟨its1,rv1,p1,_⟩:=I.tuple hq1
  obtain ⟨its2,rv2,p2,_⟩:=I.list hq2
  obtain ⟨u,hu,ru⟩:=rv1.get hx
  obtain ⟨v,hv,rv⟩:=rv2.get hy
  have hh:X.A.in1.handled=none:=I.ok.hd hc
  have l1:i < its1.toArray.size:=by rw [List.size_toArray]; exact (List.getElem?_eq_some_iff.mp hu).1
  have l2:i < its2.toArray.size:=by rw [List.size_toArray]; exact (List.getElem?_eq_some_iff.mp hv).1
  refine zip_next (draws_tup hh i1 a na its1.toArray) (Draws.list hh i2 b nb its2.toArray) Z t1 t2 t3 ⟨t4,p1⟩ ⟨t5,p2.isList⟩ l1 l2 ?_
  intro x' y' h1 tk px py z1 z2 z3 z4 z5 z6 keep
  have ex:x'=u:=by
   have q:its1.toArray[i]? = some x':=px
   simp only [List.getElem?_toArray] at q
   rw [hu] at q
   exact (Option.some.inj q).symm
  have ey:y'=v:=by
   have q:its2.toArray[i]? = some y':=py
   simp only [List.getElem?_toArray] at q
   rw [hv] at q
   exact (Option.some.inj q).symm
  subst ex ey
  refine ⟨_,rfl,wpAny_letOwnedTupleGo_zip (s:={ s with heap:=h1,toks:=tk }) z1 fun h2 z7 sb=>?_⟩
  have zlt:z < s.heap.objs.size:=Heap.lt_size t1
  have keep2:∀ c o,c∉[z,TI,TO,i1,i2]->s.heap.get? c=some o->h2.get? c=some o:=fun c o hc e=>by
   simp only [List.mem_cons,List.not_mem_nil,or_false,not_or] at hc
   exact sb.extBut c o hc.1 (keep c o hc.1 hc.2.2.1 hc.2.2.2.1 hc.2.2.2.2 e)
  have pT:IsPair h2 s.heap.objs.size x' y':=sb.extBut _ _ (Nat.ne_of_gt zlt) z6
  have I':=I.turnT (h':=h2) (tk:=tk) (ch:=[z,TI,TO,i1,i2]) (x:=x) (y:=y) hf keep2 (Nat.le_refl _) pT ru rv
  refine ⟨.ref s.heap.objs.size,_,I',rfl,⟨s.heap.objs.size,x,y,rfl,I.hok.fresh (Nat.le_refl _),rfl,fun xs' q=>by rw [I.tuple_inj q hq1]; exact hx,fun ys' q=>by rw [I.list_inj q hq2]; exact hy⟩,
   ⟨z7,sb.extBut _ _ Z.a1 z2,⟨_,_,sb.extBut _ _ Z.a2 z3⟩,z4.1.extBut sb.extBut Z.a3,z5.1.extBut sb.extBut Z.a4⟩,fun c hc=>?_⟩
  have:=(hf c hc).1
  rw [upd_ne]
  ·exact this
  ·intro q
   obtain ⟨o,e,_⟩:∃ o,s.heap.get? c=some o/\True:=by
    simp only [List.mem_cons,List.not_mem_nil,or_false] at hc
    rcases hc with rfl | rfl | rfl | rfl | rfl
    ·exact ⟨_,t1,trivial⟩
    ·exact ⟨_,t2,trivial⟩
    ·exact ⟨_,t3,trivial⟩
    ·obtain ⟨o,e,_⟩:=t4; exact ⟨o,e,trivial⟩
    ·obtain ⟨o,e,_⟩:=t5; exact ⟨o,e,trivial⟩
   rw [q] at e
   exact absurd (Heap.lt_size e) (Nat.lt_irrefl _)
 done:=by
  intro X hP hw hK hc i pins s σ H E I hf ⟨t1,t2,⟨x0,y0,t3⟩,t4,t5⟩ hg
  subst hP hw hK
  obtain ⟨xs,ys,hq1,hq2,e1,e2,e3⟩:=hg
  obtain ⟨its1,rv1,p1,_⟩:=I.tuple hq1
  obtain ⟨its2,rv2,p2,_⟩:=I.list hq2
  have hh:X.A.in1.handled=none:=I.ok.hd hc
  have n1:its1.toArray.size=xs.length:=by rw [List.size_toArray]; exact rv1.length.symm
  have n2:its2.toArray.size=ys.length:=by rw [List.size_toArray]; exact rv2.length.symm
  refine zip_end (draws_tup hh i1 a na its1.toArray) (Draws.list hh i2 b nb its2.toArray) Z t1 t2 t3 ⟨t4,p1⟩ ⟨t5,p2.isList⟩ (by omega) (by omega) (by omega) ?_
  intro h1 tk keep
  refine ⟨rfl,I.turnN (h':=h1) (tk:=tk) (ch:=[z,TI,TO,i1,i2]) hf fun c o hc e=>?_⟩
  simp only [List.mem_cons,List.not_mem_nil,or_false,not_or] at hc
  exact keep c o hc.1 hc.2.2.1 hc.2.2.2.1 hc.2.2.2.2 e
 self:=fun _ _ _ _ _ st h=>wpAny_pyIter_zip st.1 h
theorem nin2 {x y z:Nat} (h1:x≠y) (h2:x≠z):x∉[y,z]:=by simp [h1,h2]
theorem zp_mk (n a b:Nat) (la:a < n) (lb:b < n):Zp (n + 4) (n + 2) (n + 3) n (n + 1) [n,a] [n + 1,b]:=by
 have e:∀ x y:Nat,x≠y->(x:Addr)≠y:=fun _ _ h=>h
 exact ⟨e _ _ (by omega),e _ _ (by omega),e _ _ (by omega),e _ _ (by omega),e _ _ (by omega),e _ _ (by omega),e _ _ (by omega),e _ _ (by omega),e _ _ (by omega),
  nin2 (by omega) (by omega),nin2 (by omega) (by omega),nin2 (by omega) (by omega),nin2 (by omega) (by omega),nin2 (by omega) (by omega),nin2 (by omega) (by omega)⟩
section
variable {X:Cx} {es:List Expr} {kk:Nat} {tp:Pos}
end
theorem for_zip {K:PySem.W.Frag} {a b:Addr} {xs ys:List V} {g:TG} {tb:TS} {D:Ends} {σ:St} {H:Hp} (Pv:Nat->St->Hp->Prop) (h0:Pv 0 σ H) (hl:∀ i σ H,i<=xs.length->Pv i σ H->SqT K H a xs/\SqL K H b ys) (hlen:xs.length<=ys.length)
  (hs:∀ i x y T σ H,xs[i]? = some x->ys[i]? = some y->H T=none->Pv i σ H->g (.ref T) σ (upd H T (.tup [x,y])) fun σ2 H2=>tb { D with nx:=Pv (i + 1),ct:=Pv (i + 1),bk:=D.nx } σ2 H2) (hd:∀ σ H,Pv xs.length σ H->D.nx σ H) :
  ∃ W:Nat->Nat->St->Hp->Prop,(∃ m,W 0 m σ H)/\∀ i m σ H,W i m σ H->
   ((Itz K a b).stop i H/\D.nx σ H)\/((Itz K a b).go i H/\∃ N:St->Hp->Prop,(∀ σ' H',N σ' H'->∃ m',m' < m/\W (i + 1) m' σ' H')/\∀ x H',(Itz K a b).yld i H x H'->g x σ H' fun σ2 H2=>tb { D with nx:=N,ct:=N,bk:=D.nx } σ2 H2):=by
 refine ⟨fun i m σ H=>m=xs.length - i/\i<=xs.length/\Pv i σ H,⟨xs.length,by simp,Nat.zero_le _,h0⟩,?_⟩
 rintro i m σ H ⟨rfl,hi,p⟩
 obtain ⟨q1,q2⟩:=hl i σ H hi p
 by_cases hlt:i < xs.length
 ·have hlt2:i < ys.length:=by omega
  refine .inr ⟨⟨xs,ys,xs[i],ys[i],q1,q2,by simp [hlt],by simp [hlt2]⟩,Pv (i + 1),fun σ' H' p'=>⟨xs.length - (i + 1),by omega,rfl,hlt,p'⟩,fun v H' y=>?_⟩
  obtain ⟨T,x,y,rfl,hT,rfl,c1,c2⟩:=y
  exact hs i x y T σ H (c1 xs q1) (c2 ys q2) hT p
 ·have e:i=xs.length:=by omega
  subst e
  exact .inl ⟨⟨xs,ys,q1,q2,Nat.le_refl _,hlen,.inl rfl⟩,hd σ H p⟩
end L2
namespace L2
open PySem PySem.Spec PyProof.Rows
section
variable {κ:Type} [DecidableEq κ]
noncomputable def valV (kvs:List (κ × V)) (k:κ):Option V:=(kvs.find? fun kv=>decide (kv.1=k)).map (·.2)
noncomputable def putK (kvs:List (κ × V)) (k:κ) (v:V):List (κ × V):=
 if (kvs.any fun kv=>decide (kv.1=k))=true then kvs.map (fun kv=>if kv.1=k then (kv.1,v) else kv) else kvs++[(k,v)]
noncomputable def dropK (kvs:List (κ × V)) (k:κ):List (κ × V):=kvs.filter fun kv=>decide (kv.1≠k)
theorem valV_pos {p:κ × V} {r:List (κ × V)} {k:κ} (e:p.1=k):valV (p :: r) k=some p.2:=by simp [valV,List.find?_cons,e]
theorem valV_neg {p:κ × V} {r:List (κ × V)} {k:κ} (e:¬ p.1=k):valV (p :: r) k=valV r k:=by simp [valV,List.find?_cons,e]
theorem valV_any (k:κ):∀ kvs:List (κ × V),(kvs.any fun kv=>decide (kv.1=k))=(valV kvs k).isSome
 | []=>rfl
 | p :: r=>by
  rw [List.any_cons]
  by_cases e:p.1=k
  ·simp only [valV_pos e,decide_eq_true e,Bool.true_or,Option.isSome_some]
  ·rw [valV_neg e,decide_eq_false e,Bool.false_or]; exact valV_any k r
theorem RelO.isSome_eq {o:Option V} {u:Option Value} (r:RelO o u):o.isSome=u.isSome:=by
 cases o with
 | none=>cases u with
  | none=>rfl
  | some _=>exact (show False from r).elim
 | some _=>cases u with
  | none=>exact (show False from r).elim
  | some _=>rfl
theorem KV.val {kvs:List (κ × V)} {vs:List (κ × Value)} (r:KV kvs vs) (k:κ):RelO (valV kvs k) (valueAt vs k):=by
 unfold KV at r
 induction r with
 | nil=>exact True.intro
 | @cons p q ps qs h t ih=>
  obtain ⟨h1,h2⟩:=h
  by_cases e:p.1=k
  ·have e':q.1=k:=h1.symm.trans e
   have b:valueAt (q :: qs) k=some q.2:=by simp [valueAt,List.find?_cons,e']
   rw [valV_pos e,b]; exact h2
  ·have e':¬ q.1=k:=fun z=>e (h1.trans z)
   have b:valueAt (q :: qs) k=valueAt qs k:=by simp [valueAt,List.find?_cons,e']
   rw [valV_neg e,b]; exact ih
end
noncomputable abbrev KT (H:Hp):List (List Key × V)->List (List Key × Addr × Value)->Prop:=Paired fun p q=>p.1=q.1/\H q.2.1=some (.tup (p.1.map kV))/\RelV p.2 q.2.2
section
variable {P:Program} {w:World} {H:Hp} {h:Heap} {a:Addr}
end
noncomputable def DGet (H:Hp) (a:Addr) (y:V) (r:Option V):Prop:=
 (∃ kvs k,Rd H a (.dK kvs)/\y=kV k/\r=valV kvs k)\/∃ kvs k b,Rd H a (.dT kvs)/\y=.ref b/\H b=some (.tup (k.map kV))/\r=valV kvs k
noncomputable def DPut (H:Hp) (a:Addr) (y v:V) (H':Hp):Prop:=
 (∃ kvs k,H a=some (.dK kvs)/\y=kV k/\kvs.length < sizeLine/\H'=upd H a (.dK (putK kvs k v)))∨
 ∃ kvs k b,H a=some (.dT kvs)/\y=.ref b/\H b=some (.tup (k.map kV))/\kvs.length < sizeLine/\H'=upd H a (.dT (putK kvs k v))
section
variable {X:Cx} {pins:List (Addr × Obj)} {σ:St} {H:Hp} {s:Shared} {a:Addr} {y v:V} {u r:Value} {o:Option V} {A:Around} {E:Value->Shared->Prop}
end
section
variable {X:Cx} {pins:List (Addr × Obj)} {σ:St} {H:Hp} {s:Shared} {a:Addr} {kvs:List (Key × V)} {k:Key} {u:Value} {A:Around} {E:Value->Shared->Prop}
end
section
variable {X:Cx} {o i e value:Expr} {pos pos' tpos:Pos} {td ty tv:TE}
end
section
variable {X:Cx} {pos:Pos}
end
end L2
namespace L2
open PySem
section
variable {prog:Program} {w:World} {A:Around} {R:Result->Shared->Prop} {s:Shared}
end
end L2
namespace L2
open PySem PySem.Spec PyProof.Rows
section
variable {X:Cx} {scope:Scope} {own:List Str} {caps:List (Nat × Str)} {elt tg iter cond:Expr} {wi:TI} {g:TG} {tc:TT} {te:TE} {pos:Pos}
end
end L2
namespace L2
open PySem PySem.Spec PyProof.Rows
section
variable {prog:Program} {w:World} {A:Around} {E:Value->Shared->Prop} {s:Shared}
end
end L2
namespace L2
open PySem PySem.Spec PyProof.Rows
theorem comp_tup {K:PySem.W.Frag} {a:Addr} {xs:List V} {g:TG} {te:TE} {σ0:St} {H:Hp} {Q:VK} (Pv:Nat->List V->St->Hp->Prop) (h0:Pv 0 [] σ0 H) (hl:∀ i ys σ H,i<=xs.length->Pv i ys σ H->SqT K H a xs/\ys.length<=i) (hz:xs.length<=sizeLine)
  (hs:∀ i x ys σ H,xs[i]? = some x->Pv i ys σ H->g x σ H fun σ2 H2=>te σ2 H2 fun y H3=>Pv (i + 1) (ys++[y]) σ2 H3)
  (hd:∀ ys σ H,Pv xs.length ys σ H->∀ p,H p=none->Q (.ref p) (upd H p (.lst ys))) :
  CompGo (Itt K a) g te Q σ0 H:=by
 refine ⟨fun i m ys σ H=>m=xs.length - i/\i<=xs.length/\Pv i ys σ H,⟨xs.length,by simp,Nat.zero_le _,h0⟩,?_⟩
 rintro i m ys σ H ⟨rfl,hi,p⟩
 obtain ⟨q,hy⟩:=hl i ys σ H hi p
 by_cases hlt:i < xs.length
 ·refine .inr ⟨⟨xs,xs[i],q,by simp [hlt]⟩,by omega,fun y σ' H'=>Pv (i + 1) (ys++[y]) σ' H',fun y σ' H' z=>⟨xs.length - (i + 1),by omega,rfl,hlt,z⟩,fun x H' y=>?_⟩
  obtain ⟨e,y⟩:=y
  subst e
  exact hs i x ys σ _ (y xs q) p
 ·have e:i=xs.length:=by omega
  subst e
  exact .inl ⟨⟨xs,q,Nat.le_refl _⟩,hd ys σ H p⟩
section
variable {X:Cx}
end
end L2
namespace L2
open PySem PySem.Spec PyProof.Rows
section
variable {X:Cx}
end
end L2
namespace L2
open PySem
end L2
namespace L2
open PySem PySem.Spec PyProof.Rows
theorem boot_sum_:bootBuiltins "sum" = some (.builtin "sum"):=by decide +kernel
theorem ints_vals:∀ {ns:List Int} {its:List Value},Vals (ns.map V.int) its->∃ zs:List (Int × Tok),its=zs.map (fun p=>Value.int p.1 p.2)/\zs.map (·.1)=ns
 | [],_,.nil=>⟨[],rfl,rfl⟩
 | n :: r,_,.cons h t=>by
  obtain ⟨zs,e1,e2⟩:=ints_vals t
  obtain ⟨tk,rfl⟩:=h
  exact ⟨(n,tk) :: zs,by rw [e1]; rfl,by rw [List.map_cons,e2]⟩
section
variable {X:Cx}
theorem call_sum (hc:X.calm=true):CallR X (.builtin "sum") (fun xs H Q=>∃ (p:Addr) (ns:List Int),xs=[.ref p]/\SqL X.K H p (ns.map V.int)/\Q (.int ns.sum) H):=by
 intro pins s σ H xs us Q I r h
 obtain ⟨p,ns,rfl,hq,q⟩:=h
 obtain ⟨u,rfl,ru⟩:=vals1 r
 cases ru
 obtain ⟨its,rv,pl,hz⟩:=I.list hq
 obtain ⟨zs,e1,e2⟩:=ints_vals rv
 have e3:its.toArray=intItems zs.toArray:=by
  rw [e1]
  unfold intItems
  simp
 have hl:=pl.isList
 rw [e3] at hl
 refine sum_intListG (I.ok.hd hc) hl fun h' tk t' kk=>⟨.int ns.sum,H,I.kept (h':=h') (t':=tk) kk,⟨t',?_⟩,q⟩
 rw [preSum_eq,List.take_of_length_le (by simp),e2]
end
end L2
namespace L2
open PySem PySem.Spec PyProof.Rows
theorem nlt1 {a b c d:Nat} (h1:a < b) (h2:b<=c) (h3:c + 1<=d):d≠a:=by omega
theorem nlt2 {a b c:Nat} (h1:c=a + 1) (h2:c + 1<=b):b≠a:=by omega
theorem cells_look {x:Str} {c:Addr}:∀ (names:List (Str × NameKind)) (n:Nat) (acc:List (Str × Addr)),(cellsFrom n names acc).lookup x=some c->((x,NameKind.cell)∈names/\n<=c)\/acc.lookup x=some c
 | [],_,_,h=>.inr h
 | (y,k) :: r,n,acc,h=>by
  unfold cellsFrom at h
  split at h
  ·rename_i hk
   rcases cells_look r (n + 1) ((y,n) :: acc) h with ⟨a,b⟩ | z
   ·exact .inl ⟨List.mem_cons_of_mem _ a,by omega⟩
   ·rw [List.lookup_cons] at z
    by_cases e:(x == y)=true
    ·simp only [e] at z
     have e1:x=y:=eq_of_beq e
     have e2:k=.cell:=eq_of_beq hk
     subst e1
     subst e2
     cases z
     exact .inl ⟨List.mem_cons_self,Nat.le_refl _⟩
    ·have e':(x == y)=false:=by simpa using e
     simp only [e'] at z
     exact .inr z
  ·rcases cells_look r n acc h with ⟨a,b⟩ | z
   ·exact .inl ⟨List.mem_cons_of_mem _ a,b⟩
   ·exact .inr z
theorem cells_other {x:Str}:∀ (names:List (Str × NameKind)) (n:Nat) (acc:List (Str × Addr)),(x,NameKind.cell)∉names->(cellsFrom n names acc).lookup x=acc.lookup x
 | [],_,_,_=>rfl
 | (y,k) :: r,n,acc,h=>by
  have hr:(x,NameKind.cell)∉r:=fun z=>h (List.mem_cons_of_mem _ z)
  unfold cellsFrom
  split
  ·rename_i hk
   have e2:k=.cell:=eq_of_beq hk
   rw [cells_other r _ _ hr,List.lookup_cons]
   have e':(x == y)=false:=by
    cases q:x == y with
    | false=>rfl
    | true=>exact absurd (by rw [eq_of_beq q,e2]; exact List.mem_cons_self) h
   simp only [e']
  ·exact cells_other r _ _ hr
theorem cells_inj:∀ (names:List (Str × NameKind)) (n:Nat) (acc:List (Str × Addr)),(∀ x c,acc.lookup x=some c->c < n)->(∀ x y c,acc.lookup x=some c->acc.lookup y=some c->x=y)->
  ∀ x y c,(cellsFrom n names acc).lookup x=some c->(cellsFrom n names acc).lookup y=some c->x=y
 | [],_,_,_,h2=>h2
 | (z,k) :: r,n,acc,h1,h2=>by
  unfold cellsFrom
  split
  ·have look:∀ x c,((z,n) :: acc).lookup x=some c->(x=z/\c=n)\/acc.lookup x=some c:=fun x c e=>by
    rw [List.lookup_cons] at e
    cases q:x == z with
    | true=>
     simp only [q] at e
     exact .inl ⟨eq_of_beq q,(Option.some.inj e).symm⟩
    | false=>
     simp only [q] at e
     exact .inr e
   refine cells_inj r (n + 1) ((z,n) :: acc) (fun x c e=>?_) fun x y c e1 e2=>?_
   ·rcases look x c e with ⟨_,e⟩ | e
    ·rw [e]
     exact Nat.lt_succ_self n
    ·exact Nat.lt_succ_of_lt (h1 x c e)
   ·rcases look x c e1 with ⟨a1,b1⟩ | a1 <;> rcases look y c e2 with ⟨a2,b2⟩ | a2
    ·rw [a1,a2]
    ·have:=h1 y c a2
     rw [b1] at this
     exact absurd this (Nat.lt_irrefl n)
    ·have:=h1 x c a1
     rw [b2] at this
     exact absurd this (Nat.lt_irrefl n)
    ·exact h2 x y c a1 a2
  ·exact cells_inj r n acc h1 h2
theorem cells_new {x:Str} {c:Addr}:∀ (names:List (Str × NameKind)) (h:Heap) (acc:List (Str × Addr)),(cellsFrom h.objs.size names acc).lookup x=some c->acc.lookup x=some c\/(pushCells h names).IsCell c none
 | [],_,_,e=>.inl e
 | (y,k) :: r,h,acc,e=>by
  unfold cellsFrom at e
  unfold pushCells
  split at e
  ·rename_i hk
   rw [if_pos hk]
   have q:=cells_new (x:=x) (c:=c) r (h.push { cls:=.type "cell",data:=.cell none }) ((y,h.objs.size) :: acc) (by rw [Heap.size_push]; exact e)
   rcases q with q | q
   ·rw [List.lookup_cons] at q
    cases z:x == y with
    | true=>
     simp only [z] at q
     cases q
     exact .inr ⟨_,pushCells_keeps r _ _ _ (Heap.get?_push_size _ rfl),rfl⟩
    | false=>
     simp only [z] at q
     exact .inl q
   ·exact .inr q
  ·rename_i hk
   rw [if_neg hk]
   exact cells_new r h acc e
theorem look_nodup:∀ {l:List (Str × NameKind)} {x:Str} {k:NameKind},(l.map (·.1)).Nodup->(x,k)∈l->l.lookup x=some k
 | [],_,_,_,h=>by cases h
 | (y,j) :: r,x,k,nd,h=>by
  rw [List.map_cons,List.nodup_cons] at nd
  rw [List.lookup_cons]
  rcases List.mem_cons.mp h with e | h
  ·cases e
   rw [beq_self_eq_true]
  ·have ne:(x == y)=false:=by
    cases q:x == y with
    | false=>rfl
    | true=>exact absurd (by rw [<- eq_of_beq q]; exact List.mem_map.mpr ⟨(x,k),h,rfl⟩) nd.1
   simp only [ne]
   exact look_nodup nd.2 h
theorem newEnv_cellsA {M:Model} {A:Around} {E:Value->Shared->Prop} {s:Shared} {scope:Scope} {globals:Addr} {closure:List (Str × Addr)} {qual:Str} {func:Option Addr} {code:Value} {env:Env} {builtins:Addr} {Q:Env->Shared->Prop}
  (h:Q (newEnv scope s.heap.objs.size globals (cellsFrom (s.heap.objs.size + 1) scope.names closure) qual func code (some env) builtins) { s with heap:=pushCells (s.heap.push { cls:=.type "dict",data:=.dict #[] }) scope.names }) :
  wpAny M A (newFunctionEnv scope globals closure [] qual func code (some env) builtins) Q E s:=by
 simp only [newFunctionEnv,Option.isSome_some,if_true]
 refine wpAny_bind (wpAny_alloc ?_)
 refine wpAny_bind (wpAny_layCells _ (fun name kind cells=>by cases hkc:kind == NameKind.cell <;> simp [hkc]) _ _ _ _ ?_)
 rw [show ({ s with heap:=s.heap.push { cls:=.type "dict",data:=.dict #[] } }:Shared).heap.objs.size=s.heap.objs.size + 1 from Heap.size_push ..]
 simp only [List.forIn_nil]
 exact wpAny_bind (wpAny_pure (wpAny_pure h))
noncomputable abbrev blockCxN (X:Cx) (scope:Scope) (N:List Str) (C:Addr) (s₀:Shared) (H₀:Hp) (ex:List Addr):Cx:=
 { X with N:=N,s₀:=s₀,H₀:=H₀,env:=compEnvC scope (cellsFrom (C + 1) scope.names (closeOf scope X.env)) C X.env,outer:=X.stack,ex:=ex,fn:=fun x=>scope.names.lookup x == some .cell,pn:=[],xe:=fun _ _=>False }
structure BlkOkN (X:Cx) (scope:Scope) (own:List Str) (caps:List (Nat × Str)):Prop where
 kind:scope.kind=.function
 nod:(scope.names.map (·.1)).Nodup
 locs:∀ y∈scope.names,y.2=.local->scope.names.lookup y.1=some .local
 free:∀ y∈scope.names,y.2=.free->(X.env.cells.lookup y.1).isSome=true
 caps:∀ p∈caps,X.N[p.1]? = some p.2/\scope.names.lookup p.2=some .free/\(X.env.kindOf p.2=some .cell\/X.env.kindOf p.2=some .free)
section
variable {X:Cx} {scope:Scope} {own:List Str} {caps:List (Nat × Str)} {pins:List (Addr × Obj)} {σ:St} {H:Hp} {s s4:Shared} {C D:Addr} {fp:List Addr}
theorem cellsN_look (B:BlkOkN X scope own caps) {x:Str} {c n:Nat} (e:(cellsFrom n scope.names (closeOf scope X.env)).lookup x=some c):((x,NameKind.cell)∈scope.names/\n<=c)\/X.env.cells.lookup x=some c:=
 (cells_look _ _ _ e).imp id fun z=>(close_look B.free z).1
theorem cellN_lt (I:Inv X pins σ H s) {x:Str} {c:Addr} (e:X.env.cells.lookup x=some c):c < s.heap.objs.size:=by
 obtain ⟨v,o,ho,_⟩:=I.cell x c e
 exact Heap.lt_size ho
theorem blk_okN (B:BlkOkN X scope own caps) (I:Inv X pins σ H s) (hf:∀ b∈fp,FpOk X pins H b) (hC:s.heap.objs.size<=C) (hlt:∀ b∈fp,b < s.heap.objs.size):(blockCxN X scope (blkN own caps) C s H fp).Ok where
 mod:=I.ok.mod
 kind:=B.kind
 glob:=I.ok.glob
 blt:=I.ok.blt
 above:=hC
 inj:=cells_inj _ _ _ (fun x c e=>Nat.lt_of_lt_of_le (cellN_lt I (close_look B.free e).1) (Nat.le_succ_of_le hC)) fun x y c h1 h2=>I.ok.inj x y c (close_look B.free h1).1 (close_look B.free h2).1
 has:=fun x h=>by
  have fr:(x,NameKind.free)∈scope.names->∃ c,(cellsFrom (C + 1) scope.names (closeOf scope X.env)).lookup x=some c:=fun z=>by
   obtain ⟨c,e⟩:=close_some (env:=X.env) z
   exact Option.isSome_iff_exists.mp (PySem.W.cellsFrom_some _ _ _ (.inr (by rw [e]; rfl)))
  have ce:(x,NameKind.cell)∈scope.names->∃ c,(cellsFrom (C + 1) scope.names (closeOf scope X.env)).lookup x=some c:=fun z=>
   Option.isSome_iff_exists.mp (PySem.W.cellsFrom_some _ _ _ (.inl (look_nodup B.nod z)))
  rcases h with h | h
  ·rcases relabel_kind (show (relabel scope X.env).names.lookup x=some .cell from h) with ⟨_,z | z⟩ | z
   ·exact fr z
   ·exact ce z
   ·exact ce z
  ·rcases relabel_kind (show (relabel scope X.env).names.lookup x=some .free from h) with ⟨z,_⟩ | z
   ·cases z
   ·exact fr z
 cab:=fun x c h e=>by
  have hx:scope.names.lookup x=some .cell:=eq_of_beq h
  rcases cells_look _ _ _ e with ⟨_,z⟩ | z
  ·exact Nat.le_trans hC (Nat.le_of_succ_le z)
  ·have:=look_nodup B.nod (close_look B.free z).2
   rw [hx] at this
   cases this
 hd:=I.ok.hd
 frames:=I.ok.frames
 stk:=.inl rfl
 exf:=fun b hb=>⟨fun e=>by have:=hlt b hb; rw [e] at this; exact absurd (Nat.lt_of_lt_of_le this hC) (Nat.lt_irrefl _),fun x c e=>by
  rcases cellsN_look B e with ⟨_,z⟩ | z
  ·exact nlt1 (hlt b hb) hC z
  ·exact (hf b hb).2.2.2.2.1 x c z⟩
 bs:=I.bs
 bsz:=Nat.le_trans I.ok.bsz I.sz
 noex:=fun b o e hb=>by
  rcases (hf b hb).2.2.2.1 with z | z
  ·exact I.ok.noex b o e z
  ·exact absurd (Nat.lt_of_lt_of_le (Heap.lt_size e) (Nat.le_trans I.ok.bsz z)) (Nat.lt_irrefl _)
 exfs:=fun b hb z=>by
  rcases List.mem_cons.mp (I.stkSub b z) with e | z
  ·exact (hf b hb).2.1 e
  ·exact (hf b hb).2.2.1 z
 funs:=I.stack
 frf:=I.stkFree
theorem blk_invN (B:BlkOkN X scope own caps) (I:Inv X pins σ H s) (hf:∀ b∈fp,FpOk X pins H b) (hC:s.heap.objs.size<=C) (hlt:∀ b∈fp,b < s.heap.objs.size)
  {m:Str->Option Value} (hn:s4.heap.Ns C m) (hk:∀ b o,s.heap.get? b=some o->s4.heap.get? b=some o) (hcell:∀ x c,(cellsFrom (C + 1) scope.names (closeOf scope X.env)).lookup x=some c->(closeOf scope X.env).lookup x=some c\/s4.heap.IsCell c none) (ho:s4.os=s.os) (hb:AllBare s4.gens) :
  Inv (blockCxN X scope (blkN own caps) C s H fp) [] (blkSt own caps σ) H s4 where
 ok:=blk_okN B I hf hC hlt
 os:=ho
 bare:=hb
 base:=Un.kept hk
 loc:=⟨m,hn,fun i x v h1 h2 h3=>by
  obtain ⟨j,hm,hs⟩:=blk_slot h1 h2
  obtain ⟨c1,c2,c3⟩:=B.caps _ hm
  obtain ⟨m',_,hl⟩:=I.loc
  have vis:Vis X.env.scope x:=c3.elim (fun z=>.inr (.inl z)) fun z=>.inr (.inr z)
  obtain ⟨u,r,l⟩:=hl j x v c1 hs vis
  refine ⟨u,r,.inr ?_⟩
  have hm2:(x,NameKind.free)∈scope.names:=mem_of_look c2
  obtain ⟨c',hc'⟩:=close_some (env:=X.env) hm2
  have hc2:=(close_look B.free hc').1
  have noc:(x,NameKind.cell)∉scope.names:=fun z=>by
   have:=look_nodup B.nod z
   rw [c2] at this
   cases this
  refine ⟨?_,c',(cells_other _ _ _ noc).trans hc',?_⟩
  ·show (relabel scope X.env).names.lookup x=some .cell\/(relabel scope X.env).names.lookup x=some .free
   rw [relabel_look,c2,Option.map_some]
   split
   ·exact .inl rfl
   ·exact .inr rfl
  ·rcases l with ⟨k,_⟩ | ⟨_,c,e,z⟩
   ·rcases c3 with c3 | c3 <;> rw [c3] at k <;> cases k
   ·rw [hc2] at e
    cases e
    obtain ⟨o,e1,e2⟩:=z
    exact ⟨o,hk _ o e1,e2⟩⟩
 cell:=fun x c e=>by
  rcases hcell x c e with z | z
  ·obtain ⟨v,o,e1,e2⟩:=I.cell x c (close_look B.free z).1
   exact ⟨v,o,hk _ o e1,e2⟩
  ·exact ⟨none,z⟩
 free:=I.hok.fresh hC
 freeC:=fun x c e=>by
  rcases cellsN_look B e with ⟨_,z⟩ | z
  ·exact I.hok.fresh (Nat.le_trans hC (Nat.le_of_succ_le z))
  ·exact I.freeC x c z
 pin:=fun p hp=>by simp at hp
 hok:=I.hok.kept hk
 len:=by
  show (blkSt own caps σ).length=(blkN own caps).length
  unfold blkSt blkN
  simp
end
section
variable {X:Cx} {scope:Scope} {own:List Str} {caps:List (Nat × Str)} {elt tg iter cond:Expr} {wi:TI} {g:TG} {tc:TT} {te:TE} {pos:Pos}
theorem comp_coreN {pins:List (Addr × Obj)} {σ:St} {H2:Hp} {s2:Shared} {it:Addr} {fp:List Addr} {tn:Nat->Heap->Prop} {J:It} {W:Nat->Nat->List V->St->Hp->Prop} {m0:Nat} {Q:VK} {E:Value->Shared->Prop} {RR:Value->Addr->Result->Shared->Prop}
  (B:BlkOkN X scope own caps) (hc:X.calm=true) (hg:∀ C s₀ H₀ ex,PG (blockCxN X scope (blkN own caps) C s₀ H₀ ex) tg g) (he:∀ C s₀ H₀ ex,PE (blockCxN X scope (blkN own caps) C s₀ H₀ ex) elt te)
  (I2:Inv X pins σ H2 s2) (T:Turn X.prog X.w X.K tg J fp it tn) (st2:tn 0 s2.heap) (f2:∀ b∈fp,FpOk X pins H2 b) (w0:W 0 m0 [] (blkSt own caps σ) H2)
  (turn:∀ i m ys σ1 H,W i m ys σ1 H->(J.stop i H/\∀ p,H p=none->Q (.ref p) (upd H p (.lst ys)))∨
   (J.go i H/\ys.length < sizeLine/\∃ N:V->St->Hp->Prop,(∀ y σ' H',N y σ' H'->∃ m',m' < m/\W (i + 1) m' (ys++[y]) σ' H')/\∀ x H',J.yld i H x H'->g x σ1 H' fun σ2 H2=>te σ2 H2 fun y H3=>N y σ2 H3))
  (hRR:∀ D C s6 H6 ys m,s6.heap.Ns C m->s2.heap.objs.size<=C->(∀ h',Heap.SameBut C s6.heap h'->Inv X pins σ (upd H6 D (.lst ys)) { s6 with heap:=h' })->upd H6 D (.lst ys) C=none->Q (.ref D) (upd H6 D (.lst ys))->RR (.ref D) C (.ok .next) s6) :
  wpAny (model X.prog X.w) X.A (newList []) (fun acc s3=>wpAny (model X.prog X.w) X.A (newFunctionEnv scope X.env.globals (closeOf scope X.env) [] X.env.qual none .none (some X.env)) (fun cenv s4=>
   codeAny (model X.prog X.w) X.A (.compStart (.ListComp elt [⟨tg,iter,[],0⟩] scope pos) 0 (.ref it) acc { cenv with scope:=relabel scope X.env }) (RR acc cenv.locals) s4) E s3) E s2:=by
 have hlt:∀ b∈fp,b < s2.heap.objs.size:=fun b hb=>by
  obtain ⟨o,ho,_⟩:=T.obj _ _ st2 b hb
  exact Heap.lt_size ho
 refine wpAny_newObj_type (newEnv_cellsA ?_)
 dsimp only
 generalize hP:s2.heap.push { cls:=.type "list",dict:=none,data:=.seq ([]:List Value).toArray }=HD
 have hns:(pushCells (HD.push { cls:=.type "dict",data:=.dict #[] }) scope.names).Ns HD.objs.size (fun _=>none):=(Heap.Ns.new HD (.type "dict")).keeps (pushCells_keeps _ _)
 have hkp:∀ b o,HD.get? b=some o->(pushCells (HD.push { cls:=.type "dict",data:=.dict #[] }) scope.names).get? b=some o:=fun b o e=>pushCells_keeps _ _ b o (Heap.get?_push_of_some _ e)
 have hcell:∀ x c,(cellsFrom (HD.objs.size + 1) scope.names (closeOf scope X.env)).lookup x=some c->(closeOf scope X.env).lookup x=some c\/(pushCells (HD.push { cls:=.type "dict",data:=.dict #[] }) scope.names).IsCell c none:=fun x c e=>
  cells_new _ _ _ (by rw [Heap.size_push]; exact e)
 generalize hP4:pushCells (HD.push { cls:=.type "dict",data:=.dict #[] }) scope.names=h4 at hns hkp hcell |-
 have hCD:HD.objs.size=s2.heap.objs.size + 1:=by rw [<- hP,Heap.size_push]
 have hDC:s2.heap.objs.size≠HD.objs.size:=by omega
 have hle:s2.heap.objs.size<=HD.objs.size:=by omega
 have old:∀ b o,s2.heap.get? b=some o->h4.get? b=some o:=fun b o eb=>hkp b o (by rw [<- hP]; exact Heap.get?_push_of_some _ eb)
 have hD4:h4.get? s2.heap.objs.size=some { cls:=.type "list",data:=.seq ([]:List Value).toArray 0 }:=hkp _ _ (by rw [<- hP]; exact Heap.get?_push_size _ rfl)
 have IY:Inv (blockCxN X scope (blkN own caps) HD.objs.size s2 H2 fp) [] (blkSt own caps σ) H2 { s2 with heap:=h4 }:=
  blk_invN B I2 f2 (by omega) hlt hns old hcell rfl I2.bare
 have stat:∀ {H':Hp},(∀ b∈fp,H' b=none)->∀ b∈fp,FpOk (blockCxN X scope (blkN own caps) HD.objs.size s2 H2 fp) [] H' b:=fun {H'} hn b hb=>by
  have hb2:=hlt b hb
  refine ⟨hn b hb,?_,fun z=>?_,.inl hb,fun x c ec=>(match cellsN_look B ec with | .inl z=>nlt1 hb2 hle z.2 | .inr z=>(f2 b hb).2.2.2.2.1 x c z),fun p hp=>by simp at hp⟩
  ·exact Nat.ne_of_lt (Nat.lt_of_lt_of_le hb2 hle)
  ·rcases List.mem_cons.mp (I2.stkSub b z) with e | z
   ·exact (f2 b hb).2.1 e
   ·exact (f2 b hb).2.2.1 z
 have statD:∀ {H':Hp},H' s2.heap.objs.size=none->FpOk (blockCxN X scope (blkN own caps) HD.objs.size s2 H2 fp) [] H' s2.heap.objs.size:=fun {H'} hn=>by
  refine ⟨hn,hDC,fun z=>?_,.inr (Nat.le_refl _),fun x c ec z=>?_,fun p hp=>by simp at hp⟩
  ·obtain ⟨_,o,ho,_⟩:=I2.stack.mem z
   exact absurd (Heap.lt_size ho) (Nat.lt_irrefl _)
  ·rcases cellsN_look B ec with ⟨_,y⟩ | y
   ·exact nlt2 hCD y z
   ·have:=cellN_lt I2 y
    rw [z] at this
    exact Nat.lt_irrefl _ this
 have neD:∀ b∈fp,b≠s2.heap.objs.size:=fun b hb=>Nat.ne_of_lt (hlt b hb)
 have IY':Inv (blockCxN X scope (blkN own caps) HD.objs.size s2 H2 fp) [(s2.heap.objs.size,lobj [] 0)] (blkSt own caps σ) H2 { s2 with heap:=h4 }:=
  IY.pins_of fun p hp=>by
   rw [List.mem_singleton.mp hp]
   have z:=statD (I2.hok.fresh (Nat.le_refl _))
   exact ⟨hD4,z.1,z.2.1,z.2.2.1,fun v z=>by cases z⟩
 have loop:∀ s3:Shared,s3={ s2 with heap:=h4 }->
   codeAny (model X.prog X.w) X.A (.compLoop (.ListComp elt [⟨tg,iter,[],0⟩] scope pos) 0 (.ref it) (.ref s2.heap.objs.size) (compEnvC scope (cellsFrom (HD.objs.size + 1) scope.names (closeOf scope X.env)) HD.objs.size X.env))
    (RR (.ref s2.heap.objs.size) HD.objs.size) s3:=by
  rintro s3 rfl
  refine comp_turns (fun n s'=>∃ i ys σ' H' its k,Inv (blockCxN X scope (blkN own caps) HD.objs.size s2 H2 fp) [(s2.heap.objs.size,lobj its k)] σ' H' s'/\tn i s'.heap/\(∀ b∈fp,H' b=none)∧
   Vals ys its/\ys.length<=sizeLine/\W i n ys σ' H') ?_ m0 ⟨0,[],_,H2,[],0,IY',T.keep _ _ _ st2 fun b hb o eb=>old b o eb,fun b hb=>(f2 b hb).1,.nil,Nat.zero_le _,w0⟩
  rintro n s5 ⟨i,ys,σ5,H5,its,k,I5,st5,fr5,rv5,hz5,w5⟩
  have stat5:∀ {H':Hp},(∀ b∈fp,H' b=none)->∀ b∈fp,FpOk (blockCxN X scope (blkN own caps) HD.objs.size s2 H2 fp) [(s2.heap.objs.size,lobj its k)] H' b:=fun {H'} hn b hb=>by
   obtain ⟨a1,a2,a3,a4,a5,_⟩:=stat hn b hb
   refine ⟨a1,a2,a3,a4,a5,fun p hp=>?_⟩
   have hp':p∈[(s2.heap.objs.size,lobj its k)]:=hp
   rw [List.mem_singleton.mp hp']
   exact Ne.symm (neD b hb)
  rcases turn i n ys σ5 H5 w5 with ⟨stop,qn⟩ | ⟨go,hlen,N,hN,step⟩
  ·refine thn (T.done (blockCxN X scope (blkN own caps) HD.objs.size s2 H2 fp) rfl rfl rfl hc i _ s5 σ5 H5 _ I5 (stat5 fr5) st5 stop) fun r s6 ⟨hr,I6⟩=>?_
   subst hr
   obtain ⟨pD1,pD2,_⟩:=I6.pin (s2.heap.objs.size,lobj its k) (List.mem_append_right _ List.mem_cons_self)
   obtain ⟨m6,hn6,_⟩:=I6.loc
   refine hRR _ _ s6 H5 ys m6 hn6 (by omega) (fun h' sb=>?_) (by rw [upd_ne (Ne.symm hDC)]; exact I6.free) (qn _ pD2)
   have hC5:H5 HD.objs.size=none:=I6.free
   have nb:∀ b o,s2.heap.get? b=some o->b≠HD.objs.size/\b≠s2.heap.objs.size:=fun b o eb=>by
    have hb:=Heap.lt_size eb
    exact ⟨Nat.ne_of_lt (Nat.lt_of_lt_of_le hb hle),Nat.ne_of_lt hb⟩
   have nt:∀ b o,H5 b=some o->b≠s2.heap.objs.size:=fun b o eb z=>by rw [z] at eb; rw [show H5 s2.heap.objs.size=none from pD2] at eb; cases eb
   have un:Un (frs X.stack) fp H2 (upd H5 s2.heap.objs.size (.lst ys)) s2.heap h':=
    ⟨fun b o eb n1 n2 n3=>sb.extBut b o (nb b o eb).1 (I6.base.keep b o eb n1 n2 n3),
     fun b o eb n1 n2 n3=>by
      obtain ⟨sl,e1⟩:=I6.base.slot b o eb n1 n2 n3
      exact ⟨sl,sb.extBut b _ (nb b o eb).1 e1⟩,
     fun b o eb n1 n3=>by
      rw [upd_ne (nb b o eb).2]
      exact I6.base.free b o eb n1 n3,
     fun b o eb n3=>by
      obtain ⟨o',e1⟩:=I6.base.there b o eb n3
      exact ⟨o',sb.extBut b _ (nb b o eb).1 e1⟩,
     fun b xs eb=>by
      have e1:=I6.base.tups b xs eb
      rw [upd_ne (nt b _ e1)]
      exact e1,
     fun b o u eb=>by
      have e1:=I6.base.frzs b o u eb
      rw [upd_ne (nt b _ e1)]
      exact e1,
     fun b ps eb=>by
      obtain ⟨more,e1⟩:=I6.base.tbls b ps eb
      refine ⟨more,?_⟩
      rw [upd_ne (nt b _ e1)]
      exact e1⟩
   have ok5:HOk X.prog X.w (upd H5 s2.heap.objs.size (.lst ys)) h':=fun b u eb=>by
    by_cases hb:b=s2.heap.objs.size
    ·subst hb
     rw [upd_same] at eb
     cases eb
     exact ⟨hz5,its,k,rv5,sb.extBut _ _ hDC pD1⟩
    ·rw [upd_ne hb] at eb
     refine (I6.hok b u eb).stay (fun c v hcv ev=>sb.extBut c v ?_ ev) (fun c ec=>by rw [upd_ne (nt c _ ec)]; exact ec) fun c xs ec=>by rw [upd_ne (nt c _ ec)]; exact ec
     rintro rfl
     rcases hcv with z | z
     ·rw [<- z,hC5] at eb
      cases eb
     ·rw [hC5] at z
      cases z
   exact I2.call' (s':={ s6 with heap:=h' }) (ch:=fp) I6.os un ok5 I6.bare fun b hb=>⟨(f2 b hb).2.2.2.1,(f2 b hb).2.1,(f2 b hb).2.2.2.2.1,(f2 b hb).2.2.2.2.2⟩
  ·refine thn (T.item (blockCxN X scope (blkN own caps) HD.objs.size s2 H2 fp) rfl rfl rfl hc i _ s5 σ5 H5 _ I5 (stat5 fr5) st5 go) fun r s6 ⟨u,hr,h6⟩=>?_
   subst hr
   refine thn h6 fun _ s7 ⟨x,H7,I7,r7,y7,st7,fr7⟩=>?_
   have I7':=I7.pinned (stat5 fr7) (T.obj _ _ st7)
   refine thn (hg HD.objs.size s2 H2 fp _ s7 σ5 H7 x u _ I7' r7 (step x H7 y7)) fun _ s8 ⟨σ8,H8,I8,q8⟩=>?_
   refine thn (he HD.objs.size s2 H2 fp _ s8 σ8 H8 _ I8 q8) fun yv s9 ⟨y,H9,I9,r9,n9⟩=>?_
   obtain ⟨m',hm',w9⟩:=hN y σ8 H9 n9
   have pD9:=(I9.pin (s2.heap.objs.size,lobj its k) (List.mem_append_right _ (List.mem_append_left _ List.mem_cons_self))).2.1
   have hl:its.length=ys.length:=rv5.length.symm
   refine blk_push (Y:=blockCxN X scope (blkN own caps) HD.objs.size s2 H2 fp) (its:=its) (k:=k) (pl:=pinsAt fp s7.heap) I9 (statD pD9) rfl (by omega) fun h' k' tk keep I'=>?_
   refine ⟨m',hm',i + 1,ys++[y],σ8,H9,its++[yv],k',I',?_,fun b hb=>?_,rv5.append (.cons r9 .nil),?_,w9⟩
   ·refine T.keep _ _ _ st7 fun b hb o eb=>keep b o (neD b hb) ?_
    exact (I9.pin (b,o) (List.mem_append_right _ (List.mem_append_right _ (mem_pinsAt hb eb)))).1
   ·obtain ⟨o,eb,_⟩:=T.obj _ _ st7 b hb
    exact (I9.pin (b,o) (List.mem_append_right _ (List.mem_append_right _ (mem_pinsAt hb eb)))).2.1
   ·rw [List.length_append,List.length_singleton]
    omega
 exact codeAny_compStart_list (loop _ rfl) (T.self _ 0 _ _ _ (T.keep _ _ _ st2 fun b hb o eb=>old b o eb) (loop _ rfl))
theorem pe_compN (B:BlkOkN X scope own caps) (hc:X.calm=true) (hi:PI X tg iter wi) (hg:∀ C s₀ H₀ ex,PG (blockCxN X scope (blkN own caps) C s₀ H₀ ex) tg g)
  (he:∀ C s₀ H₀ ex,PE (blockCxN X scope (blkN own caps) C s₀ H₀ ex) elt te) (hs:∀ x,foldedSetIterable iter X.env x=pure x:=by intro _; rfl) :
  PE X (.ListComp elt [⟨tg,iter,[],0⟩] scope pos) (tComp own caps wi g te):=by
 intro pins s σ H Q I h
 rw [eval_ListComp]
 refine wpAny_comprehension_free (use:=none) rfl hs (closure_is B.free) B.kind B.locs ?_
 refine thn (hi pins s σ H _ I h) fun xv s1 h1=>thn h1 fun itv s2 h2=>?_
 obtain ⟨it,fp,tn,J,H2,e,I2,T,st2,f2,W,⟨m0,w0⟩,turn⟩:=h2
 subst e
 refine comp_coreN (RR:=fun acc C=>compPost (model X.prog X.w) X.A X.xe none (EP X pins σ Q) acc C) B hc hg he I2 T st2 f2 w0 turn fun D C s6 H6 ys m hn hC J6 hC6 q=>?_
 exact ⟨m,hn,fun h' sb=>⟨.ref D,_,J6 h' sb,rfl,q⟩⟩
theorem ps_compN {i:Nat} {y:Str} {py spos:Pos} (hN:X.N.Nodup) (hy:X.N[i]? = some y) (hl:X.env.scope.names.lookup y=some .local) (B:BlkOkN X scope own caps) (hc:X.calm=true) (hi:PI X tg iter wi) (hg:∀ C s₀ H₀ ex,PG (blockCxN X scope (blkN own caps) C s₀ H₀ ex) tg g)
  (he:∀ C s₀ H₀ ex,PE (blockCxN X scope (blkN own caps) C s₀ H₀ ex) elt te) (hsw:swapsWith (.ListComp elt [⟨tg,iter,[],0⟩] scope pos) (some (.Name y py)) spos.line X.env=pure true) (hs:∀ x,foldedSetIterable iter X.env x=pure x:=by intro _; rfl) :
  PS X (.Assign [.Name y py] (.ListComp elt [⟨tg,iter,[],0⟩] scope pos) spos) (tAsg (tComp own caps wi g te) (gName i)):=by
 intro pins s σ H D0 I h
 rw [exec_Assign_Name_used _ _ _ _ hsw]
 refine wpAny_bind (wpAny_standAt (wpAny_bind ?_))
 change wpAny _ X.A (do let _ <- comprehension (.ListComp elt [⟨tg,iter,[],0⟩] scope pos) scope X.env _ (newList []) false (eval iter X.env) (some (assign (.Name y py) X.env))) _ _ s
 refine wpAny_bind (wpAny_mono (wpAny_comprehension_free (use:=some (assign (.Name y py) X.env)) (Q:=fun _ s'=>SP X pins D0 .next s') rfl hs (closure_is B.free) B.kind B.locs ?_) (fun _ s' hq=>wpAny_pure (wpAny_pure hq)) fun _ _ e=>e)
 refine thn (hi pins s σ H _ I h) fun xv s1 h1=>thn h1 fun itv s2 h2=>?_
 obtain ⟨it,fp,tn,J,H2,e,I2,T,st2,f2,W,⟨m0,w0⟩,turn⟩:=h2
 subst e
 refine comp_coreN (Q:=fun x H1=>D0.nx (σ.set i (some x)) H1) (RR:=fun acc C=>compPost (model X.prog X.w) X.A X.xe (some (assign (.Name y py) X.env)) (fun _ s'=>SP X pins D0 .next s') acc C) B hc hg he I2 T st2 f2 w0 turn fun D C s6 H6 ys m hn hC J6 hC6 q=>?_
 have I6:Inv X pins σ (upd H6 D (.lst ys)) s6:=J6 s6.heap (.refl ..)
 have CL:C≠X.env.locals:=fun z=>by rw [z] at hC; exact absurd (Nat.lt_of_lt_of_le I2.lt hC) (Nat.lt_irrefl _)
 have CC:∀ x c,X.env.cells.lookup x=some c->c≠C:=fun x c ec z=>by
  obtain ⟨v,o,ho,_⟩:=I2.cell x c ec
  rw [z] at ho
  exact absurd (Nat.lt_of_lt_of_le (Heap.lt_size ho) hC) (Nat.lt_irrefl _)
 have CP:∀ p∈X.pn++pins,p.1≠C:=fun p hp z=>by
  have hl:=Heap.lt_size (I2.pin p hp).1
  rw [z] at hl
  exact absurd (Nat.lt_of_lt_of_le hl hC) (Nat.lt_irrefl _)
 change wpAny _ X.A (assign (.Name y py) X.env (.ref D)) _ _ s6
 refine wpAny_assign_Name (store_ok2 I6 hN hy (.inl hl) (v:=.ref D) rfl (fun s7 I7 ⟨a,sb,ha⟩=>?_) (.inr hl))
 have aC:C≠a:=fun z=>by
  rcases ha with e | e
  ·exact CL (z.trans e)
  ·exact CC _ _ e z.symm
 refine ⟨m,hn.sameBut sb aC,fun h' sb'=>⟨_,_,I7.turned (h':=h') (t':=s7.toks) (it:=C) (fun b o hb eb=>sb'.extBut b o hb eb) hC6 CL (.inr (Nat.le_trans I2.sz hC)) CC CP,q⟩⟩
end
theorem blkN_cap {X:Cx} {scope S:Scope} {own N:List Str} {caps:List (Nat × Str)} (k:scope.kind=.function) (nd:(scope.names.map (·.1)).Nodup)
  (hS:X.env.scope=S) (hc:∃ n,X.env.cells=cellsFrom n S.names []) (hN:X.N=N) (fr:scope.names.all (fun y=>y.2 != .free || S.names.lookup y.1 == some .cell)=true)
  (cp:caps.all (fun p=>N[p.1]? == some p.2 && scope.names.lookup p.2 == some .free && S.names.lookup p.2 == some .cell)=true):BlkOkN X scope own caps:=by
 obtain ⟨nn,hc⟩:=hc
 refine ⟨k,nd,fun y hy e=>?_,fun y hy e=>?_,fun p hp=>?_⟩
 ·exact look_nodup nd (by rw [<- e]; exact hy)
 ·have q:=List.all_eq_true.mp fr y hy
  rw [e] at q
  have q2:S.names.lookup y.1=some .cell:=by simpa using q
  rw [hc]
  exact PySem.W.cellsFrom_some S.names nn [] (.inl q2)
 ·have q:=List.all_eq_true.mp cp p hp
  simp only [Bool.and_eq_true,beq_iff_eq] at q
  refine ⟨by rw [hN]; exact q.1.1,q.1.2,.inl ?_⟩
  show X.env.scope.names.lookup p.2=some .cell
  rw [hS]
  exact q.2
theorem blk_in {Y:Cx} {scope S:Scope} {own own0:List Str} {caps caps0:List (Nat × Str)} {C:Addr} {s₀:Shared} {H₀:Hp} {ex:List Addr} (k:scope.kind=.function) (nd:(scope.names.map (·.1)).Nodup)
  (ndS:(S.names.map (·.1)).Nodup) (fr:scope.names.all (fun y=>y.2 != .free || S.names.lookup y.1 == some .cell || S.names.lookup y.1 == some .free)=true)
  (cp:caps.all (fun p=>(blkN own0 caps0)[p.1]? == some p.2 && scope.names.lookup p.2 == some .free)=true):BlkOkN (blockCxN Y S (blkN own0 caps0) C s₀ H₀ ex) scope own caps:=by
 have fr':∀ y∈scope.names,y.2=.free->S.names.lookup y.1=some .cell\/S.names.lookup y.1=some .free:=fun y hy e=>by
  have q:=List.all_eq_true.mp fr y hy
  rw [e] at q
  simpa using q
 refine ⟨k,nd,fun y hy e=>?_,fun y hy e=>?_,fun p hp=>?_⟩
 ·exact look_nodup nd (by rw [<- e]; exact hy)
 ·show ((cellsFrom (C + 1) S.names (closeOf S Y.env)).lookup y.1).isSome=true
  refine PySem.W.cellsFrom_some _ _ _ ?_
  rcases fr' y hy e with z | z
  ·exact .inl z
  ·obtain ⟨c,e⟩:=close_some (env:=Y.env) (mem_of_look z)
   exact .inr (by rw [e]; rfl)
 ·have q:=List.all_eq_true.mp cp p hp
  simp only [Bool.and_eq_true,beq_iff_eq] at q
  refine ⟨q.1,q.2,?_⟩
  show (relabel S Y.env).names.lookup p.2=some .cell\/(relabel S Y.env).names.lookup p.2=some .free
  rw [relabel_look]
  rcases fr' _ (mem_of_look q.2) rfl with z | z
  ·left
   show (S.names.lookup p.2).map _=_
   rw [z]
   rfl
  ·show (S.names.lookup p.2).map _=_\/(S.names.lookup p.2).map _=_
   rw [z,Option.map_some]
   split
   ·exact .inl rfl
   ·exact .inr rfl
end L2
namespace Sh
open PySem L2
noncomputable def cellZ (ns:List Int) (k:Int):Int:=(ns[k.toNat]?).getD 0
inductive spCell (K:PySem.W.Frag) (vs:List V) (H:Hp) (Q:VK) (E:XK):Prop
 | mk (a:Addr) (ns:List Int) (k:Int) (_:vs=[.ref a,.int k]) (_:SqL K H a (ns.map V.int)) (_:0<=k) (_:Q (.int (cellZ ns k)) H):spCell K vs H Q E
theorem same_new {H:Hp} {p:Addr} (h:H p=none) (o:HO):Same H (upd H p o):=fun b u q=>by rw [upd_ne (ne_of_none q h)]; exact q
theorem at0 {x y:V}:atI [x,y] 0=some x:=rfl
theorem at1 {x y:V}:atI [x,y] 1=some y:=rfl
noncomputable def Tp (H:Hp) (v:V) (xs:List V):Prop:=∃ a,v=.ref a/\H a=some (.tup xs)
theorem Tp.same {H H':Hp} {v:V} {xs:List V} (s:Same H H') (h:Tp H v xs):Tp H' v xs:=let ⟨r,e,q⟩:=h; ⟨r,e,s _ _ q⟩
theorem paired_get {α β:Type} {R:α->β->Prop}:∀ {xs:List α} {ys:List β} {i:Nat} {x:α},Paired R xs ys->xs[i]? = some x->∃ y,ys[i]? = some y/\R x y
 | _,_,_,_,.nil,e=>by simp at e
 | _,_,0,_,.cons r _,e=>by simp at e; subst e; exact ⟨_,rfl,r⟩
 | _,_,i + 1,x,.cons _ t,e=>by
  obtain ⟨y,h1,h2⟩:=paired_get (i:=i) (x:=x) t (by simpa using e)
  exact ⟨y,by simpa using h1,h2⟩
theorem paired_snoc {α β:Type} {R:α->β->Prop} {x:α} {y:β} (r:R x y):∀ {xs:List α} {ys:List β},Paired R xs ys->Paired R (xs++[x]) (ys++[y])
 | _,_,.nil=>.cons r .nil
 | _,_,.cons q t=>.cons q (paired_snoc r t)
theorem paired_app {α β:Type} {R:α->β->Prop}:∀ {xs zs:List α} {ys us:List β},Paired R xs ys->Paired R zs us->Paired R (xs++zs) (ys++us)
 | _,_,_,_,.nil,h=>h
 | _,_,_,_,.cons q t,h=>.cons q (paired_app t h)
theorem take_snoc {α:Type} {l:List α} {i:Nat} {x:α} (h:l[i]? = some x):l.take (i + 1)=l.take i++[x]:=by
 obtain ⟨hi,e⟩:=List.getElem?_eq_some_iff.mp h
 rw [List.take_succ_eq_append_getElem hi,e]
noncomputable abbrev WaysV (H:Hp) (vs:List V) (ks:List (List Int)):Prop:=Paired (fun v (k:List Int)=>Tp H v (k.map V.int)) vs ks
theorem WaysV.same {H H':Hp} {vs:List V} {ks:List (List Int)} (s:Same H H') (h:WaysV H vs ks):WaysV H' vs ks:=Paired.mapP h fun _ _ z=>Tp.same s z
theorem paired_set {α β:Type} {R:α->β->Prop} {x:α} {y:β} (r:R x y):∀ {xs:List α} {ys:List β} (j:Nat),Paired R xs ys->Paired R (xs.set j x) (ys.set j y)
 | _,_,_,.nil=>.nil
 | _,_,0,.cons _ t=>.cons r t
 | _,_,j + 1,.cons q t=>.cons q (paired_set r j t)
theorem paired_rep {α β:Type} {R:α->β->Prop} {x:α} {y:β} (r:R x y):∀ k:Nat,Paired R (List.replicate k [x]).flatten (List.replicate k y)
 | 0=>.nil
 | k + 1=>by
  rw [List.replicate_succ,List.replicate_succ,List.flatten_cons]
  exact .cons r (paired_rep r k)
theorem ixN_nat {n j:Nat} (h:j < n):ixN n (j:Int)=some j:=by
 unfold ixN
 rw [if_pos (by omega),if_pos (by omega)]
 rfl
theorem dp_ints {K:PySem.W.Frag} {H:Hp}:∀ ws:List Int,DpAll K H (ws.map V.int) (ws.map PyData.int)
 | []=>.nil
 | w :: r=>.cons (.int w) (dp_ints r)
theorem lay_i:∀ ws:List Int,PyData.canLayAll0 (ws.map PyData.int)=true
 | []=>rfl
 | w :: r=>by
  show (PyData.canLay0 (.int w) && PyData.canLayAll0 (r.map PyData.int))=true
  rw [lay_i r]
  rfl
theorem dep_i:∀ ws:List Int,PyData.depthAll (ws.map PyData.int)=0
 | []=>rfl
 | w :: r=>by
  show max 0 (PyData.depthAll (r.map PyData.int))=0
  rw [dep_i r]
  rfl
theorem lay_tup (js:List Int):(PyData.tuple (js.map PyData.int)).canLay0=true:=lay_i js
theorem kit_list_list (K:PySem.W.Frag):PySem.W.kitOne K (.type "list") (.type "list")=some true:=by first | rfl | decide +kernel | (unfold PySem.W.kitOne; rw [if_pos (by decide +kernel)])
inductive spLaw (K:PySem.W.Frag) (vs:List V) (H:Hp) (Q:VK) (E:XK):Prop
 | mk (a:Addr) (ns:List Int) (_:vs=[.ref a]) (_:SqL K H a (ns.map V.int)) (_:ns.length<=63) (_:∀ H',Q (.bl true) H'):spLaw K vs H Q E
inductive spStream (vs:List V) (H:Hp) (Q:VK) (E:XK):Prop
 | mk (c m:Int) (_:vs=[.int c,.int m]) (_:0<=m) (_:m<=100) (_:∀ (r:Addr) (H':Hp) (xs:List Int),Same H H'->H r=none->H' r=some (.lst (xs.map V.int))->xs.length=m.toNat->(∀ x∈xs,0<=x/\x < 10 ^ 45)->Q (.ref r) H'):spStream vs H Q E
theorem at_ints {xs:List Int} {j:Nat} (h:j < xs.length):atI (xs.map V.int) (j:Int)=some (.int (xs[j]'h)):=atI_nat (by rw [List.getElem?_map,List.getElem?_eq_getElem h]; rfl)
theorem ints_get {xs:List Int} {i:Nat} {x:V} (h:(xs.map V.int)[i]? = some x):∃ z,xs[i]? = some z/\x=V.int z:=by
 rw [List.getElem?_map] at h
 cases e:xs[i]? with
 | none=>rw [e] at h; cases h
 | some z=>rw [e] at h; exact ⟨z,rfl,(Option.some.inj h).symm⟩
end Sh
namespace L2
open PySem PySem.Spec PyProof.Rows
noncomputable def ItzL (K:PySem.W.Frag) (a b:Addr):It:=
 ⟨fun i H=>∃ xs ys x y,SqL K H a xs/\SqL K H b ys/\xs[i]? = some x/\ys[i]? = some y,
  fun i H v H'=>∃ T x y,v=.ref T/\H T=none/\H'=upd H T (.tup [x,y])/\(∀ xs,SqL K H a xs->xs[i]? = some x)/\∀ ys,SqL K H b ys->ys[i]? = some y,
  fun i H=>∃ xs ys,SqL K H a xs/\SqL K H b ys/\i<=xs.length/\i<=ys.length/\(i=xs.length\/i=ys.length)⟩
theorem turn_zipL {P:Program} {w:World} {K:PySem.W.Frag} {es:List Expr} {kk:Nat} {tp:Pos} {a b z TI TO i1 i2:Addr} (Z:Zp z TI TO i1 i2 [i1,a] [i2,b]) (na:a≠i1) (nb:b≠i2) :
  Turn P w K (.Tuple es kk tp) (ItzL K a b) [z,TI,TO,i1,i2] z (fun i h=>IsZip h z TI TO .none/\IsPair h TI (.ref i1) (.ref i2)/\(∃ x y,IsPair h TO x y)/\h.IsListIter i1 a i/\h.IsListIter i2 b i) where
 mem:=by simp
 obj:=fun i h ⟨t1,t2,⟨x,y,t3⟩,t4,t5⟩ c hc=>by
  simp only [List.mem_cons,List.not_mem_nil,or_false] at hc
  rcases hc with rfl | rfl | rfl | rfl | rfl
  ·exact ⟨_,t1,fields_no_cell⟩
  ·exact ⟨_,t2,seq_no_cell⟩
  ·exact ⟨_,t3,seq_no_cell⟩
  ·obtain ⟨o,e,_,d⟩:=t4
   exact ⟨o,e,by rw [d]; exact fields_no_cell⟩
  ·obtain ⟨o,e,_,d⟩:=t5
   exact ⟨o,e,by rw [d]; exact fields_no_cell⟩
 keep:=fun i h h' ⟨t1,t2,⟨x,y,t3⟩,t4,t5⟩ k=>⟨k z (by simp) _ t1,k TI (by simp) _ t2,⟨x,y,k TO (by simp) _ t3⟩,(by obtain ⟨o,e,r⟩:=t4; exact ⟨o,k i1 (by simp) o e,r⟩),(by obtain ⟨o,e,r⟩:=t5; exact ⟨o,k i2 (by simp) o e,r⟩)⟩
 item:=by
  intro X hP hw hK hc i pins s σ H E I hf ⟨t1,t2,⟨x0,y0,t3⟩,t4,t5⟩ hg
  subst hP hw hK
  obtain ⟨xs,ys,x,y,hq1,hq2,hx,hy⟩:=hg
  obtain ⟨its1,rv1,p1,_⟩:=I.list hq1
  obtain ⟨its2,rv2,p2,_⟩:=I.list hq2
  obtain ⟨u,hu,ru⟩:=rv1.get hx
  obtain ⟨v,hv,rv⟩:=rv2.get hy
  have hh:X.A.in1.handled=none:=I.ok.hd hc
  have l1:i < its1.toArray.size:=by rw [List.size_toArray]; exact (List.getElem?_eq_some_iff.mp hu).1
  have l2:i < its2.toArray.size:=by rw [List.size_toArray]; exact (List.getElem?_eq_some_iff.mp hv).1
  refine zip_next (Draws.list hh i1 a na its1.toArray) (Draws.list hh i2 b nb its2.toArray) Z t1 t2 t3 ⟨t4,p1.isList⟩ ⟨t5,p2.isList⟩ l1 l2 ?_
  intro x' y' h1 tk px py z1 z2 z3 z4 z5 z6 keep
  have ex:x'=u:=by
   have q:its1.toArray[i]? = some x':=px
   simp only [List.getElem?_toArray] at q
   rw [hu] at q
   exact (Option.some.inj q).symm
  have ey:y'=v:=by
   have q:its2.toArray[i]? = some y':=py
   simp only [List.getElem?_toArray] at q
   rw [hv] at q
   exact (Option.some.inj q).symm
  subst ex ey
  refine ⟨_,rfl,wpAny_letOwnedTupleGo_zip (s:={ s with heap:=h1,toks:=tk }) z1 fun h2 z7 sb=>?_⟩
  have zlt:z < s.heap.objs.size:=Heap.lt_size t1
  have keep2:∀ c o,c∉[z,TI,TO,i1,i2]->s.heap.get? c=some o->h2.get? c=some o:=fun c o hc e=>by
   simp only [List.mem_cons,List.not_mem_nil,or_false,not_or] at hc
   exact sb.extBut c o hc.1 (keep c o hc.1 hc.2.2.1 hc.2.2.2.1 hc.2.2.2.2 e)
  have pT:IsPair h2 s.heap.objs.size x' y':=sb.extBut _ _ (Nat.ne_of_gt zlt) z6
  have I':=I.turnT (h':=h2) (tk:=tk) (ch:=[z,TI,TO,i1,i2]) (x:=x) (y:=y) hf keep2 (Nat.le_refl _) pT ru rv
  refine ⟨.ref s.heap.objs.size,_,I',rfl,⟨s.heap.objs.size,x,y,rfl,I.hok.fresh (Nat.le_refl _),rfl,fun xs' q=>by rw [I.list_inj q hq1]; exact hx,fun ys' q=>by rw [I.list_inj q hq2]; exact hy⟩,
   ⟨z7,sb.extBut _ _ Z.a1 z2,⟨_,_,sb.extBut _ _ Z.a2 z3⟩,z4.1.extBut sb.extBut Z.a3,z5.1.extBut sb.extBut Z.a4⟩,fun c hc=>?_⟩
  have:=(hf c hc).1
  rw [upd_ne]
  ·exact this
  ·intro q
   obtain ⟨o,e,_⟩:∃ o,s.heap.get? c=some o/\True:=by
    simp only [List.mem_cons,List.not_mem_nil,or_false] at hc
    rcases hc with rfl | rfl | rfl | rfl | rfl
    ·exact ⟨_,t1,trivial⟩
    ·exact ⟨_,t2,trivial⟩
    ·exact ⟨_,t3,trivial⟩
    ·obtain ⟨o,e,_⟩:=t4; exact ⟨o,e,trivial⟩
    ·obtain ⟨o,e,_⟩:=t5; exact ⟨o,e,trivial⟩
   rw [q] at e
   exact absurd (Heap.lt_size e) (Nat.lt_irrefl _)
 done:=by
  intro X hP hw hK hc i pins s σ H E I hf ⟨t1,t2,⟨x0,y0,t3⟩,t4,t5⟩ hg
  subst hP hw hK
  obtain ⟨xs,ys,hq1,hq2,e1,e2,e3⟩:=hg
  obtain ⟨its1,rv1,p1,_⟩:=I.list hq1
  obtain ⟨its2,rv2,p2,_⟩:=I.list hq2
  have hh:X.A.in1.handled=none:=I.ok.hd hc
  have n1:its1.toArray.size=xs.length:=by rw [List.size_toArray]; exact rv1.length.symm
  have n2:its2.toArray.size=ys.length:=by rw [List.size_toArray]; exact rv2.length.symm
  refine zip_end (Draws.list hh i1 a na its1.toArray) (Draws.list hh i2 b nb its2.toArray) Z t1 t2 t3 ⟨t4,p1.isList⟩ ⟨t5,p2.isList⟩ (by omega) (by omega) (by omega) ?_
  intro h1 tk keep
  refine ⟨rfl,I.turnN (h':=h1) (tk:=tk) (ch:=[z,TI,TO,i1,i2]) hf fun c o hc e=>?_⟩
  simp only [List.mem_cons,List.not_mem_nil,or_false,not_or] at hc
  exact keep c o hc.1 hc.2.2.1 hc.2.2.2.1 hc.2.2.2.2 e
 self:=fun _ _ _ _ _ st h=>wpAny_pyIter_zip st.1 h
section
variable {X:Cx} {es:List Expr} {kk:Nat} {tp:Pos}
noncomputable def iZipL (K:PySem.W.Frag) (ta:TA):TI:=fun σ H R=>ta σ H fun vs H1=>∃ a b,vs=[.ref a,.ref b]/\(∃ xs,SqL K H1 a xs)/\(∃ ys,SqL K H1 b ys)/\R (ItzL K a b) H1
theorem pi_zipL {e1 e2:Expr} {ta:TA} {p pos:Pos} (hg:Gl X "zip") (hm:X.mg "zip" = none) (ha:PA X [e1,e2] ta) (hs:starEach [e1,e2] X.env=[(false,eval e1 X.env),(false,eval e2 X.env)]:=by rfl) (hs2:starEach [e2] X.env=[(false,eval e2 X.env)]:=by rfl) :
  PI X (.Tuple es kk tp) (.Call (.Name "zip" p) [e1,e2] [] pos) (iZipL X.K ta):=by
 intro pins s σ H R I h
 refine Call_ (ld_blt I hg hm (show bootBuiltins "zip" = some (.type "zip") by decide +kernel) (PyProof.Rows.callWith_type1 (thn (ha pos pins s σ H _ I h) fun us s1 ⟨vs,H1,I1,r1,q1⟩=>?_) (by rw [hs,hs2]) (by rw [hs2]; rfl)))
 obtain ⟨a,b,e,⟨xs,hx⟩,⟨ys,hy⟩,q⟩:=q1
 subst e
 obtain ⟨u,v,rfl,ru,rv⟩:=vals2 r1
 cases ru
 cases rv
 obtain ⟨its1,rv1,p1,_⟩:=I1.list hx
 obtain ⟨its2,rv2,p2,_⟩:=I1.list hy
 have la:a < s1.heap.objs.size:=by obtain ⟨o,n,e,_⟩:=p1; exact Heap.lt_size e
 have lb:b < s1.heap.objs.size:=by obtain ⟨o,n,e,_⟩:=p2; exact Heap.lt_size e
 refine call_zip_2 p1.isList p2.isList fun h' z1 z2 z3 z4 z5 _ keep=>wpAny_pyIter_zip z1 ?_
 have I2:Inv X pins σ H1 { s1 with heap:=h' }:=I1.kept (t':=s1.toks) keep
 refine ⟨s1.heap.objs.size + 4,[s1.heap.objs.size + 4,s1.heap.objs.size + 2,s1.heap.objs.size + 3,s1.heap.objs.size,s1.heap.objs.size + 1],_,_,H1,rfl,I2,
  turn_zipL (a:=a) (b:=b) (zp_mk _ _ _ la lb) (Nat.ne_of_lt la) (Nat.ne_of_lt (Nat.lt_succ_of_lt lb)),⟨z1,z2,⟨_,_,z3⟩,z4,z5⟩,fun c hc=>?_,q⟩
 ·have ge:s1.heap.objs.size<=c:=by
   simp only [List.mem_cons,List.not_mem_nil,or_false] at hc
   rcases hc with rfl | rfl | rfl | rfl | rfl
   ·exact Nat.le_add_right _ 4
   ·exact Nat.le_add_right _ 2
   ·exact Nat.le_add_right _ 3
   ·exact Nat.le_refl _
   ·exact Nat.le_add_right _ 1
  exact I1.fpOk ge (I1.hok.fresh ge)
end
theorem for_zipL {K:PySem.W.Frag} {a b:Addr} {xs ys:List V} {g:TG} {tb:TS} {D:Ends} {σ:St} {H:Hp} (Pv:Nat->St->Hp->Prop) (h0:Pv 0 σ H) (hl:∀ i σ H,i<=xs.length->Pv i σ H->SqL K H a xs/\SqL K H b ys) (hlen:xs.length<=ys.length)
  (hs:∀ i x y T σ H,xs[i]? = some x->ys[i]? = some y->H T=none->Pv i σ H->g (.ref T) σ (upd H T (.tup [x,y])) fun σ2 H2=>tb { D with nx:=Pv (i + 1),ct:=Pv (i + 1),bk:=D.nx } σ2 H2) (hd:∀ σ H,Pv xs.length σ H->D.nx σ H) :
  ∃ W:Nat->Nat->St->Hp->Prop,(∃ m,W 0 m σ H)/\∀ i m σ H,W i m σ H->
   ((ItzL K a b).stop i H/\D.nx σ H)\/((ItzL K a b).go i H/\∃ N:St->Hp->Prop,(∀ σ' H',N σ' H'->∃ m',m' < m/\W (i + 1) m' σ' H')/\∀ x H',(ItzL K a b).yld i H x H'->g x σ H' fun σ2 H2=>tb { D with nx:=N,ct:=N,bk:=D.nx } σ2 H2):=by
 refine ⟨fun i m σ H=>m=xs.length - i/\i<=xs.length/\Pv i σ H,⟨xs.length,by simp,Nat.zero_le _,h0⟩,?_⟩
 rintro i m σ H ⟨rfl,hi,p⟩
 obtain ⟨q1,q2⟩:=hl i σ H hi p
 by_cases hlt:i < xs.length
 ·have hlt2:i < ys.length:=by omega
  refine .inr ⟨⟨xs,ys,xs[i],ys[i],q1,q2,by simp [hlt],by simp [hlt2]⟩,Pv (i + 1),fun σ' H' p'=>⟨xs.length - (i + 1),by omega,rfl,hlt,p'⟩,fun v H' y=>?_⟩
  obtain ⟨T,x,y,rfl,hT,rfl,c1,c2⟩:=y
  exact hs i x y T σ H (c1 xs q1) (c2 ys q2) hT p
 ·have e:i=xs.length:=by omega
  subst e
  exact .inl ⟨⟨xs,ys,q1,q2,Nat.le_refl _,hlen,.inl rfl⟩,hd σ H p⟩
theorem comp_zipL {K:PySem.W.Frag} {a b:Addr} {xs ys:List V} {g:TG} {te:TE} {σ0:St} {H:Hp} {Q:VK} (Pv:Nat->List V->St->Hp->Prop) (h0:Pv 0 [] σ0 H) (hl:∀ i zs σ H,i<=xs.length->Pv i zs σ H->SqL K H a xs/\SqL K H b ys/\zs.length<=i) (hlen:xs.length<=ys.length) (hz:xs.length<=sizeLine)
  (hs:∀ i x y T zs σ H,xs[i]? = some x->ys[i]? = some y->H T=none->Pv i zs σ H->g (.ref T) σ (upd H T (.tup [x,y])) fun σ2 H2=>te σ2 H2 fun z H3=>Pv (i + 1) (zs++[z]) σ2 H3)
  (hd:∀ zs σ H,Pv xs.length zs σ H->∀ p,H p=none->Q (.ref p) (upd H p (.lst zs))):CompGo (ItzL K a b) g te Q σ0 H:=by
 refine ⟨fun i m zs σ H=>m=xs.length - i/\i<=xs.length/\Pv i zs σ H,⟨xs.length,by simp,Nat.zero_le _,h0⟩,?_⟩
 rintro i m zs σ H ⟨rfl,hi,p⟩
 obtain ⟨q1,q2,hy⟩:=hl i zs σ H hi p
 by_cases hlt:i < xs.length
 ·have hlt2:i < ys.length:=by omega
  refine .inr ⟨⟨xs,ys,xs[i],ys[i],q1,q2,by simp [hlt],by simp [hlt2]⟩,by omega,fun z σ' H'=>Pv (i + 1) (zs++[z]) σ' H',fun z σ' H' p'=>⟨xs.length - (i + 1),by omega,rfl,hlt,p'⟩,fun v H' y=>?_⟩
  obtain ⟨T,x,y,rfl,hT,rfl,c1,c2⟩:=y
  exact hs i x y T zs σ H (c1 xs q1) (c2 ys q2) hT p
 ·have e:i=xs.length:=by omega
  subst e
  exact .inl ⟨⟨xs,ys,q1,q2,Nat.le_refl _,hlen,.inl rfl⟩,hd zs σ H p⟩
theorem comp_zip {K:PySem.W.Frag} {a b:Addr} {xs ys:List V} {g:TG} {te:TE} {σ0:St} {H:Hp} {Q:VK} (Pv:Nat->List V->St->Hp->Prop) (h0:Pv 0 [] σ0 H) (hl:∀ i zs σ H,i<=xs.length->Pv i zs σ H->SqT K H a xs/\SqL K H b ys/\zs.length<=i) (hlen:xs.length<=ys.length) (hz:xs.length<=sizeLine)
  (hs:∀ i x y T zs σ H,xs[i]? = some x->ys[i]? = some y->H T=none->Pv i zs σ H->g (.ref T) σ (upd H T (.tup [x,y])) fun σ2 H2=>te σ2 H2 fun z H3=>Pv (i + 1) (zs++[z]) σ2 H3)
  (hd:∀ zs σ H,Pv xs.length zs σ H->∀ p,H p=none->Q (.ref p) (upd H p (.lst zs))):CompGo (Itz K a b) g te Q σ0 H:=by
 refine ⟨fun i m zs σ H=>m=xs.length - i/\i<=xs.length/\Pv i zs σ H,⟨xs.length,by simp,Nat.zero_le _,h0⟩,?_⟩
 rintro i m zs σ H ⟨rfl,hi,p⟩
 obtain ⟨q1,q2,hy⟩:=hl i zs σ H hi p
 by_cases hlt:i < xs.length
 ·have hlt2:i < ys.length:=by omega
  refine .inr ⟨⟨xs,ys,xs[i],ys[i],q1,q2,by simp [hlt],by simp [hlt2]⟩,by omega,fun z σ' H'=>Pv (i + 1) (zs++[z]) σ' H',fun z σ' H' p'=>⟨xs.length - (i + 1),by omega,rfl,hlt,p'⟩,fun v H' y=>?_⟩
  obtain ⟨T,x,y,rfl,hT,rfl,c1,c2⟩:=y
  exact hs i x y T zs σ H (c1 xs q1) (c2 ys q2) hT p
 ·have e:i=xs.length:=by omega
  subst e
  exact .inl ⟨⟨xs,ys,q1,q2,Nat.le_refl _,hlen,.inl rfl⟩,hd zs σ H p⟩
end L2
namespace L2
open PySem PySem.Spec PyProof.Rows
section
variable {X:Cx}
noncomputable def rEqX (K:PySem.W.Frag):R2:=fun x y H Q=>∃ d e:PyData,Dp K H x d/\Dp K H y e/\d.canLay0=true/\e.canLay0=true/\d.depth<=60/\e.depth<=60/\Q (.bl (PyData.eqv d e)) H
theorem op_eqX (hu:X.A.units + 64 < cLine):OpR X (compareOp .Eq) (rEqX X.K):=by
 intro pins s σ H x y v u Q I rx ry h
 obtain ⟨d,e,hx,hy,hc,hc',hd,hd',q⟩:=h
 obtain ⟨_,r1⟩:=hx.reads I rx
 obtain ⟨_,r2⟩:=hy.reads I ry
 exact SeqAt.compareEq_reads r1 r2 hc hc' (by omega) ⟨.bl _,H,I,rfl,q⟩
end
end L2
namespace Sh
open PySem L2
theorem eqvA_ints:∀ ns ms:List Int,PyData.eqvAll (ns.map PyData.int) (ms.map PyData.int)=decide (ns=ms)
 | [],[]=>by simp [PyData.eqvAll]
 | [],_ :: _=>by simp [PyData.eqvAll]
 | _ :: _,[]=>by simp [PyData.eqvAll]
 | a :: r,b :: t=>by
  have ih:=eqvA_ints r t
  simp only [List.map_cons,PyData.eqvAll,PyData.eqv,ih,List.cons.injEq]
  by_cases h1:a=b <;> by_cases h2:r=t <;> simp [h1,h2]
theorem eqv_ints (ns ms:List Int):PyData.eqv (.list (ns.map PyData.int)) (.list (ms.map PyData.int))=decide (ns=ms):=eqvA_ints ns ms
noncomputable def FrV (H:Hp) (v:V) (p:Int × Int):Prop:=∃ r,v=.ref r/\H r=some (.tup [.int p.1,.int p.2])
noncomputable abbrev PtV (H:Hp) (vs:List V) (pts:List (Int × Int)):Prop:=Paired (FrV H) vs pts
noncomputable def rowV (ws:List Int) (b:Int):List V:=ws.map V.int++[.int b]
theorem FrV.same {H H':Hp} {v:V} {p:Int × Int} (s:Same H H') (h:FrV H v p):FrV H' v p:=let ⟨r,e,q⟩:=h; ⟨r,e,s _ _ q⟩
theorem PtV.same {H H':Hp} {vs:List V} {pts:List (Int × Int)} (s:Same H H') (h:PtV H vs pts):PtV H' vs pts:=Paired.mapP h fun _ _ z=>z.same s
theorem FrV.upd {H:Hp} {v:V} {p:Int × Int} {l:Addr} {xs:List V} {o:HO} (hl:H l=some (.lst xs)) (h:FrV H v p):FrV (upd H l o) v p:=by
 obtain ⟨r,e,q⟩:=h
 exact ⟨r,e,by rw [upd_ne (ne_of q hl (by intro z; cases z))]; exact q⟩
theorem PtV.upd {H:Hp} {vs:List V} {pts:List (Int × Int)} {l:Addr} {xs:List V} {o:HO} (hl:H l=some (.lst xs)) (h:PtV H vs pts):PtV (upd H l o) vs pts:=Paired.mapP h fun _ _ z=>z.upd hl
structure PtOk (pts:List (Int × Int)):Prop where
 n7:pts.length<=7
 ok:∀ p∈pts,0 < p.2/\Bd 1000 p.1/\Bd 1000 p.2
structure RwOk (ws:List Int) (n:Nat):Prop where
 len:ws.length=n
 bd:∀ w∈ws,Bd 1000 w
theorem bd_al:∀ (n:Nat) (l:List (Int × Int × Int)),l.length=n->(∀ p∈l,Bd 1000 p.1/\Bd 1000 p.2.1/\Bd 1000 p.2.2)->Bd (2001 + 1001 * n) (l.foldl alStep (0,1)).1/\Bd (1000 * n + 1) (l.foldl alStep (0,1)).2
 | 0,l,e,_=>by
  have:l=[]:=List.length_eq_zero_iff.mp e
  subst this
  exact ⟨(Bd.lit (n:=1)).mono (by decide),Bd.lit⟩
 | n + 1,l,e,h=>by
  rcases List.eq_nil_or_concat l with rfl | ⟨r,p,rfl⟩
  ·cases e
  rw [List.concat_eq_append] at *
  rw [List.length_append,List.length_singleton] at e
  obtain ⟨i1,i2⟩:=bd_al n r (by omega) fun q hq=>h q (List.mem_append_left _ hq)
  obtain ⟨h1,h2,h3⟩:=h p (List.mem_append_right _ (List.mem_singleton.mpr rfl))
  rw [List.foldl_append]
  generalize r.foldl alStep (0,1)=st at i1 i2
  constructor
  ·show Bd (2001 + 1001 * (n + 1)) (st.1 * p.2.2 + p.1 * p.2.1 * st.2)
   exact (((i1.mul h3).mono (show 2001 + 1001 * n + 1000<=3001 + 1001 * n by omega)).add (((h1.mul h2).mul i2).mono (show 1000 + 1000 + (1000 * n + 1)<=3001 + 1001 * n by omega))).mono (by omega)
  ·show Bd (1000 * (n + 1) + 1) (st.2 * p.2.2)
   exact (i2.mul h3).mono (by omega)
theorem zip_ok {ws:List Int} {pts:List (Int × Int)} (P:PtOk pts) (W:RwOk ws pts.length):∀ p∈ws.zip pts,0 < p.2.2/\Bd 1000 p.1/\Bd 1000 p.2.1/\Bd 1000 p.2.2:=fun p hp=>by
 obtain ⟨a,b⟩:=List.of_mem_zip hp
 obtain ⟨c1,c2,c3⟩:=P.ok _ b
 exact ⟨c1,W.bd _ a,c2,c3⟩
theorem zip_len {ws:List Int} {pts:List (Int × Int)} (W:RwOk ws pts.length):(ws.zip pts).length=pts.length:=by
 rw [List.length_zip,W.len,Nat.min_self]
theorem al_pos {ws:List Int} {pts:List (Int × Int)} (P:PtOk pts) (W:RwOk ws pts.length):0 < (alFold ws pts).2:=by
 rw [alFold_eq ws pts fun p hp=>(P.ok p hp).1]
 exact prodB_pos fun p hp=>(zip_ok P W p hp).1
structure RowOk (r:List Int) (n:Nat):Prop where
 len:r.length=n + 1
 bd:∀ x∈r,Bd 1000 x
theorem row_split {r:List Int} {n:Nat} (h:r.length=n + 1):r.take n++[r.getD n 0]=r:=by
 have e:r[n]? = some (r.getD n 0):=by
  rw [List.getD_eq_getElem?_getD,List.getElem?_eq_getElem (by omega)]
  rfl
 have z:=take_snoc e
 rw [<- z,List.take_of_length_le (by omega)]
theorem rowV_split {r:List Int} {n:Nat} (h:r.length=n + 1):rowV (r.take n) (r.getD n 0)=r.map V.int:=by
 have e:rowV (r.take n) (r.getD n 0)=(r.take n++[r.getD n 0]).map V.int:=by
  rw [List.map_append]
  rfl
 rw [e,row_split h]
theorem row_at {r:List Int} {j n:Nat} (h:r.length=n + 1) (hj:j<=n):r[j]? = some (r.getD j 0):=by
 have:j < r.length:=by omega
 rw [List.getD_eq_getElem?_getD,List.getElem?_eq_getElem this]
 rfl
noncomputable def rowT (r:List Int):PyData:=.tuple (r.map PyData.int)
theorem dp_ways {K:PySem.W.Frag} {H:Hp}:∀ {rv:List V} {rows:List (List Int)},WaysV H rv rows->DpAll K H rv (rows.map rowT)
 | _,_,.nil=>.nil
 | _,_,.cons ⟨a,e,h⟩ t=>by
  subst e
  exact .cons (.tup (SqT.of h) (dp_ints _)) (dp_ways t)
theorem lay_ways:∀ rows:List (List Int),PyData.canLayAll0 (rows.map rowT)=true
 | []=>rfl
 | r :: t=>by
  show (PyData.canLayAll0 (r.map PyData.int) && PyData.canLayAll0 (t.map rowT))=true
  rw [lay_i,lay_ways t]
  rfl
theorem dep_ways:∀ rows:List (List Int),PyData.depthAll (rows.map rowT)<=1
 | []=>Nat.zero_le _
 | r :: t=>by
  show max (PyData.depthAll (r.map PyData.int) + 1) (PyData.depthAll (t.map rowT))<=1
  rw [dep_i]
  have:=dep_ways t
  omega
end Sh
namespace Sh
open PySem L2
inductive Kd where
 | int | bool | non | str | lst | tup | dic
 deriving DecidableEq
noncomputable def Kd.nm:Kd->String
 | .int=>"int" | .bool=>"bool" | .non=>"NoneType" | .str=>"str" | .lst=>"list" | .tup=>"tuple" | .dic=>"dict"
noncomputable def Kd.whole:Kd->Bool
 | .int=>true
 | _=>false
noncomputable def Kd.isInt:Kd->Bool
 | .int=>true
 | .bool=>true
 | _=>false
noncomputable def Kd.isBool:Kd->Bool
 | .bool=>true
 | _=>false
noncomputable def Kd.isTup:Kd->Bool
 | .tup=>true
 | _=>false
inductive Kof (H:Hp):V->Kd->Prop where
 | non:Kof H .non .non
 | bl (b:Bool):Kof H (.bl b) .bool
 | int (i:Int):Kof H (.int i) .int
 | str (x:Str):Kof H (.str x) .str
 | lst {a:Addr} {xs:List V} (e:H a=some (.lst xs)):Kof H (.ref a) .lst
 | tup {a:Addr} {xs:List V} (e:H a=some (.tup xs)):Kof H (.ref a) .tup
 | dic {a:Addr} {kvs:List (Key × V)} (e:H a=some (.dK kvs)):Kof H (.ref a) .dic
theorem Kof.ty {K:PySem.W.Frag} {H:Hp} {x:V} {k:Kd} (h:Kof H x k):TyOf K H x (.type k.nm):=by
 cases h with
 | non=>exact .non
 | bl b=>exact .bl b
 | int i=>exact .int i
 | str x=>exact .str x
 | lst e=>exact .lst e
 | tup e=>exact .tup e
 | dic e=>exact .dK e
theorem Kof.same {H H':Hp} {x:V} {k:Kd} (s:Same H H') (h:Kof H x k):Kof H' x k:=by
 cases h with
 | non=>exact .non
 | bl b=>exact .bl b
 | int i=>exact .int i
 | str x=>exact .str x
 | lst e=>exact .lst (s _ _ e)
 | tup e=>exact .tup (s _ _ e)
 | dic e=>exact .dic (s _ _ e)
noncomputable def Kd.isLst:Kd->Bool
 | .lst=>true
 | _=>false
section
variable (K:PySem.W.Frag)
theorem kd_int (k:Kd):PySem.W.kitOne K (.type k.nm) (.type "int")=some k.isInt:=by
 cases k <;> first | rfl | decide +kernel | (unfold PySem.W.kitOne; rw [if_pos (by decide +kernel)]; rfl) | (unfold PySem.W.kitOne; rw [if_neg (by decide +kernel)]; rfl)
theorem kd_bool (k:Kd):PySem.W.kitOne K (.type k.nm) (.type "bool")=some k.isBool:=by
 cases k <;> first | rfl | decide +kernel | (unfold PySem.W.kitOne; rw [if_pos (by decide +kernel)]; rfl) | (unfold PySem.W.kitOne; rw [if_neg (by decide +kernel)]; rfl)
theorem kd_tup (k:Kd):PySem.W.kitOne K (.type k.nm) (.type "tuple")=some k.isTup:=by
 cases k <;> first | rfl | decide +kernel | (unfold PySem.W.kitOne; rw [if_pos (by decide +kernel)]; rfl) | (unfold PySem.W.kitOne; rw [if_neg (by decide +kernel)]; rfl)
theorem kd_lst (k:Kd):PySem.W.kitOne K (.type k.nm) (.type "list")=some k.isLst:=by
 cases k <;> first | rfl | decide +kernel | (unfold PySem.W.kitOne; rw [if_pos (by decide +kernel)]; rfl) | (unfold PySem.W.kitOne; rw [if_neg (by decide +kernel)]; rfl)
end
end Sh
namespace L2
open PySem PySem.Spec PyProof.Rows
section
variable {X:Cx}
end
end L2
namespace L2
open PySem PySem.Spec PyProof.Rows
structure ClsF (K:PySem.W.Frag) (mg:Str->Option Value) (x:Str) (C:Addr):Prop where
 cl:Cls K C
 mgC:mg x=some (.ref C)
 ha:PySem.W.findIn K (.ref C) "__class__" = some (some (.builtin "object.__class__"))
 hn:PySem.W.specialIn K (.builtin "object.__class__") "__get__" = some (some (.builtin "getset_descriptor.__get__"))
 htk:PySem.W.takesIn K (.builtin "object.__class__")=some true
 hm:PySem.W.mroIn K C (.type "object")=some true
theorem ClsF.ty {K:PySem.W.Frag} {mg:Str->Option Value} {x:Str} {C a dx:Addr} {H:Hp} {fs:List (Str × V)} (T:ClsF K mg x C) (e:H a=some (.ins C dx fs)):TyOf K H (.ref a) (.ref C):=.ins e T.cl T.ha T.hn T.htk T.hm
structure FnM (P:Program) (w:World) (K:PySem.W.Frag) (mg:Str->Option Value) (base:Heap) (C:Addr) (m:Str) (ps:List Str) (k:Nat) (sp:Sp):Prop where
 ex:∃ f fd,FnOk P w K mg base CX0 k f fd ps sp/\Meth K C m f/\Binds K fd ps []
structure FnC (P:Program) (w:World) (K:PySem.W.Frag) (mg:Str->Option Value) (base:Heap) (C:Addr) (ps:List Str) (k:Nat) (sp:Sp):Prop where
 ex:∃ f fd,FnOk P w K mg base CX0 k f fd ps sp/\Mk K C f/\Binds K fd ps []
structure FnCD (P:Program) (w:World) (K:PySem.W.Frag) (mg:Str->Option Value) (base:Heap) (C:Addr) (ps:List Str) (k:Nat) (sp:Sp) (dv:V):Prop where
 ex:∃ f fd d,FnOk P w K mg base CX0 k f fd ps sp/\Mk K C f/\Binds K fd ps []/\Binds K fd ps [d]/\RelV dv d
theorem FnM.mono {P:Program} {w:World} {K:PySem.W.Frag} {mg:Str->Option Value} {base:Heap} {C:Addr} {m:Str} {ps:List Str} {j k:Nat} {sp:Sp} (F:FnM P w K mg base C m ps j sp) (h:j<=k):FnM P w K mg base C m ps k sp:=by
 obtain ⟨f,fd,a,b,c⟩:=F.ex
 exact ⟨f,fd,a.mono h,b,c⟩
theorem FnC.mono {P:Program} {w:World} {K:PySem.W.Frag} {mg:Str->Option Value} {base:Heap} {C:Addr} {ps:List Str} {j k:Nat} {sp:Sp} (F:FnC P w K mg base C ps j sp) (h:j<=k):FnC P w K mg base C ps k sp:=by
 obtain ⟨f,fd,a,b,c⟩:=F.ex
 exact ⟨f,fd,a.mono h,b,c⟩
theorem FnCD.mono {P:Program} {w:World} {K:PySem.W.Frag} {mg:Str->Option Value} {base:Heap} {C:Addr} {ps:List Str} {j k:Nat} {sp:Sp} {dv:V} (F:FnCD P w K mg base C ps j sp dv) (h:j<=k):FnCD P w K mg base C ps k sp dv:=by
 obtain ⟨f,fd,d,a,b,c⟩:=F.ex
 exact ⟨f,fd,d,a.mono h,b,c⟩
theorem FnCD.fn {P:Program} {w:World} {K:PySem.W.Frag} {mg:Str->Option Value} {base:Heap} {C:Addr} {ps:List Str} {k:Nat} {sp:Sp} {dv:V} (F:FnCD P w K mg base C ps k sp dv):FnC P w K mg base C ps k sp:=by
 obtain ⟨f,fd,d,a,b,c,_⟩:=F.ex
 exact ⟨f,fd,a,b,c⟩
section
variable {X:Cx} {C:Addr} {m x:Str} {ps:List Str} {k:Nat} {sp:Sp} {o e:Expr} {es:List Expr} {ta:TE} {t:TA} {p pos apos:Pos} {dv:V}
theorem pe_methF0 {pl:Sem Bool} (F:FnM X.prog X.w X.K X.mg X.base C m ps k sp) (T:ClsF X.K X.mg x C) (hr:Room k X.A) (he:PE X o ta)
  (ht:eval (.Call (.Attribute o m apos) [] [] pos) X.env=(do
   let ov <- eval o X.env
   standAt apos.atName
   let (f,first) <- holding [ov] (getMethod ov m pl)
   callWith pos f first (backTo pos (starEach [] X.env)) (backToKw pos (keywordEach [] X.env))):=by rfl) :
  PE X (.Call (.Attribute o m apos) [] [] pos) (tMeth C m sp [] E0 ta tNil):=by
 obtain ⟨f,fd,a,b,c⟩:=F.ex
 exact pe_meth0 he T.cl b a hr c .nil pass0 ht
theorem pe_makeF (F:FnC X.prog X.w X.K X.mg X.base C ps k sp) (T:ClsF X.K X.mg x C) (hr:Room (k + 1) X.A) (hg:Gl X x) (ha:PA X (e :: es) t)
  (hdb:(x == ("__debug__" : Str))=false:=by decide) (he:starEach (e :: es) X.env=(false,eval e X.env) :: starEach es X.env:=by rfl) (hpl:(backTo pos (starEach es X.env)).any (·.1)=false:=by rfl) :
  PE X (.Call (.Name x p) (e :: es) [] pos) (tMake C sp [] E0 t):=by
 obtain ⟨f,fd,a,b,c⟩:=F.ex
 exact pe_make b a hr hg T.mgC c .nil pass0 ha hdb he hpl
theorem pe_cls (T:ClsF X.K X.mg x C) (hg:Gl X x) (hd:(x == ("__debug__" : Str))=false:=by decide):PE X (.Name x pos) (tC (.ref C)):=pe_glob hg T.mgC rfl hd
noncomputable def rInstO (K:PySem.W.Frag):List V->Hp->VK->Prop:=fun xs H Q=>∃ x C t b,xs=[x,.ref C]/\TyOf K H x t/\PySem.W.kitOne K t (.ref C)=some b/\Q (.bl b) H
theorem call_isinstO:CallR X (.builtin "isinstance") (rInstO X.K):=by
 intro pins s σ H xs us Q I r h
 obtain ⟨x,C,t,b,rfl,ty,e,q⟩:=h
 obtain ⟨u,v,rfl,ru,rv⟩:=vals2 r
 cases (show v=Value.ref C from rv)
 exact isinst_ok I ru ty e fun tk=>⟨.bl b,H,I.tok tk,rfl,q⟩
end
end L2
namespace L2
open PySem PySem.Spec PyProof.Rows
section
variable {X:Cx} {pos:Pos}
theorem pe_const {x:Str} {n:Int} (hg:Gl X x) (h:∃ t,X.mg x=some (.int n t)) (hd:(x == ("__debug__" : Str))=false:=by decide):PE X (.Name x pos) (tC (.int n)):=
 let ⟨t,e⟩:=h
 pe_glob hg e ⟨t,rfl⟩ hd
end
noncomputable def spNone:Sp:=fun _ _ _ _=>False
theorem FnOk.none {P:Program} {w:World} {K:PySem.W.Frag} {mg:Str->Option Value} {base:Heap} {CX:CXT} {k:Nat} {f:Addr} {fd:FuncData} {ps:List Str}:FnOk P w K mg base CX k f fd ps spNone:=
 ⟨fun _ _ _ _ h=>h.elim,fun _ _ _ _ _ _ _ _ _ _ _ _ _ h=>h.elim⟩
end L2
namespace L2
open PySem PySem.Spec PyProof.Rows PySem.SeqAt
section
variable {X:Cx}
end
end L2
namespace L2
open PySem PySem.Spec PyProof.Rows
open PySem
noncomputable abbrev zttq1 (h:Heap) (t:Addr):Heap:=h.push { cls:=.type "tuple_iterator",data:=.fields #[.ref t,.int 0 0] }
noncomputable abbrev zttq2 (h:Heap) (t l:Addr):Heap:=(zttq1 h t).push { cls:=.type "tuple_iterator",data:=.fields #[.ref l,.int 0 0] }
noncomputable abbrev zttq3 (h:Heap) (t l:Addr):Heap:=(zttq2 h t l).push { cls:=.type "tuple",data:=.seq #[.ref h.objs.size,.ref (zttq1 h t).objs.size] }
noncomputable abbrev zttq4 (h:Heap) (t l:Addr):Heap:=(zttq3 h t l).push { cls:=.type "tuple",data:=.seq #[.none,.none] }
noncomputable abbrev zttq5 (h:Heap) (t l:Addr):Heap:=(zttq4 h t l).push { cls:=.type "zip",data:=.fields #[.none,.bool false,.bool false,.ref (zttq2 h t l).objs.size,.ref (zttq3 h t l).objs.size] }
theorem zip_new_tt (t l:Addr) (xs ys:Array Value) :
  Meets (Builtin.«zip.__new__» ⟨[.type "zip",.ref t,.ref l],[]⟩) (fun _ R s=>s.heap.IsTuple t xs/\s.heap.IsTuple l ys/\R (.ok (.ret (.ref (zttq4 s.heap t l).objs.size))) { s with heap:=zttq5 s.heap t l }):=
 .of_wp fun prog w A R s h=>by
  obtain ⟨hp,g,d,tk,os⟩:=s; obtain ⟨h1,h2,h⟩:=h
  have hsub:=sub_zip
  have e1:Heap.IsTuple (Shared.heap ⟨hp,g,d,tk,os⟩) t xs:=h1
  have e2:Heap.IsTuple (Shared.heap ⟨hp.push { cls:=.type "tuple_iterator",data:=.fields #[.ref t,.int 0 0] },g,d,tk,os⟩) l ys:=(let ⟨o,e,r⟩:=h2; ⟨o,Heap.get?_push_of_some _ e,r⟩)
  wp_walk using wpAny_pyIter_tuple e1,wpAny_pyIter_tuple e2
  exact ⟨_,rfl,h⟩
theorem call_zip_tt {prog:Program} {w:World} {A:Around} {E:Value->Shared->Prop} {s:Shared} {t l:Addr} {xs ys:Array Value} {Q:Value->Shared->Prop} (h1:s.heap.IsTuple t xs) (h2:s.heap.IsTuple l ys)
  (h:∀ h',IsZip h' (s.heap.objs.size + 4) (s.heap.objs.size + 2) (s.heap.objs.size + 3) .none->IsPair h' (s.heap.objs.size + 2) (.ref s.heap.objs.size) (.ref (s.heap.objs.size + 1))->IsPair h' (s.heap.objs.size + 3) .none .none->
   h'.IsTupleIter s.heap.objs.size t 0->h'.IsTupleIter (s.heap.objs.size + 1) l 0->(∀ c o,s.heap.get? c=some o->h'.get? c=some o)->Q (.ref (s.heap.objs.size + 4)) { s with heap:=h' }) :
  wpAny (model prog w) A (call (.type "zip") [.ref t,.ref l]) Q E s:=by
 refine callType_new F.called_zip (by decide) (F.typeCall_zip_2 _ _) (F.newCall_zip_2 _ _) (fun obj=>F.args_object_init_3 obj _ _) F.entry_zip_new (zip_new_tt t l xs ys) ⟨h1,h2,?_⟩
 have n1:(zttq1 s.heap t).objs.size=s.heap.objs.size + 1:=Heap.size_push ..
 have n2:(zttq2 s.heap t l).objs.size=s.heap.objs.size + 2:=by rw [Heap.size_push,n1]
 have n3:(zttq3 s.heap t l).objs.size=s.heap.objs.size + 3:=by rw [Heap.size_push,n2]
 have n4:(zttq4 s.heap t l).objs.size=s.heap.objs.size + 4:=by rw [Heap.size_push,n3]
 have p5:(zttq5 s.heap t l).get? (zttq4 s.heap t l).objs.size=some _:=Heap.get?_push_size _ rfl
 have p4:(zttq5 s.heap t l).get? (zttq3 s.heap t l).objs.size=some _:=Heap.get?_push_of_some _ (Heap.get?_push_size _ rfl)
 have p3:(zttq5 s.heap t l).get? (zttq2 s.heap t l).objs.size=some _:=Heap.get?_push_of_some _ (Heap.get?_push_of_some _ (Heap.get?_push_size _ rfl))
 have p2:(zttq5 s.heap t l).get? (zttq1 s.heap t).objs.size=some _:=Heap.get?_push_of_some _ (Heap.get?_push_of_some _ (Heap.get?_push_of_some _ (Heap.get?_push_size _ rfl)))
 have p1:(zttq5 s.heap t l).get? s.heap.objs.size=some _:=Heap.get?_push_of_some _ (Heap.get?_push_of_some _ (Heap.get?_push_of_some _ (Heap.get?_push_of_some _ (Heap.get?_push_size _ rfl))))
 change _/\_
 rw [n2,n3,n4] at p5
 rw [n1,n2] at p3
 rw [n3] at p4
 rw [n1] at p2
 rw [n4]
 exact ⟨⟨_,p5,rfl⟩,h _ p5 p3 p4 ⟨_,p1,rfl,rfl⟩ ⟨_,p2,rfl,rfl⟩ fun c o x=>Heap.get?_push_of_some _ (Heap.get?_push_of_some _ (Heap.get?_push_of_some _ (Heap.get?_push_of_some _ (Heap.get?_push_of_some _ x))))⟩
noncomputable abbrev zltq1 (h:Heap) (t:Addr):Heap:=h.push { cls:=.type "list_iterator",data:=.fields #[.ref t,.int 0 0] }
noncomputable abbrev zltq2 (h:Heap) (t l:Addr):Heap:=(zltq1 h t).push { cls:=.type "tuple_iterator",data:=.fields #[.ref l,.int 0 0] }
noncomputable abbrev zltq3 (h:Heap) (t l:Addr):Heap:=(zltq2 h t l).push { cls:=.type "tuple",data:=.seq #[.ref h.objs.size,.ref (zltq1 h t).objs.size] }
noncomputable abbrev zltq4 (h:Heap) (t l:Addr):Heap:=(zltq3 h t l).push { cls:=.type "tuple",data:=.seq #[.none,.none] }
noncomputable abbrev zltq5 (h:Heap) (t l:Addr):Heap:=(zltq4 h t l).push { cls:=.type "zip",data:=.fields #[.none,.bool false,.bool false,.ref (zltq2 h t l).objs.size,.ref (zltq3 h t l).objs.size] }
theorem zip_new_lt (t l:Addr) (xs ys:Array Value) :
  Meets (Builtin.«zip.__new__» ⟨[.type "zip",.ref t,.ref l],[]⟩) (fun _ R s=>s.heap.IsList t xs/\s.heap.IsTuple l ys/\R (.ok (.ret (.ref (zltq4 s.heap t l).objs.size))) { s with heap:=zltq5 s.heap t l }):=
 .of_wp fun prog w A R s h=>by
  obtain ⟨hp,g,d,tk,os⟩:=s; obtain ⟨h1,h2,h⟩:=h
  have hsub:=sub_zip
  have e1:Heap.IsList (Shared.heap ⟨hp,g,d,tk,os⟩) t xs:=h1
  have e2:Heap.IsTuple (Shared.heap ⟨hp.push { cls:=.type "list_iterator",data:=.fields #[.ref t,.int 0 0] },g,d,tk,os⟩) l ys:=(let ⟨o,e,r⟩:=h2; ⟨o,Heap.get?_push_of_some _ e,r⟩)
  wp_walk using wpAny_pyIter_list e1,wpAny_pyIter_tuple e2
  exact ⟨_,rfl,h⟩
theorem call_zip_lt {prog:Program} {w:World} {A:Around} {E:Value->Shared->Prop} {s:Shared} {t l:Addr} {xs ys:Array Value} {Q:Value->Shared->Prop} (h1:s.heap.IsList t xs) (h2:s.heap.IsTuple l ys)
  (h:∀ h',IsZip h' (s.heap.objs.size + 4) (s.heap.objs.size + 2) (s.heap.objs.size + 3) .none->IsPair h' (s.heap.objs.size + 2) (.ref s.heap.objs.size) (.ref (s.heap.objs.size + 1))->IsPair h' (s.heap.objs.size + 3) .none .none->
   h'.IsListIter s.heap.objs.size t 0->h'.IsTupleIter (s.heap.objs.size + 1) l 0->(∀ c o,s.heap.get? c=some o->h'.get? c=some o)->Q (.ref (s.heap.objs.size + 4)) { s with heap:=h' }) :
  wpAny (model prog w) A (call (.type "zip") [.ref t,.ref l]) Q E s:=by
 refine callType_new F.called_zip (by decide) (F.typeCall_zip_2 _ _) (F.newCall_zip_2 _ _) (fun obj=>F.args_object_init_3 obj _ _) F.entry_zip_new (zip_new_lt t l xs ys) ⟨h1,h2,?_⟩
 have n1:(zltq1 s.heap t).objs.size=s.heap.objs.size + 1:=Heap.size_push ..
 have n2:(zltq2 s.heap t l).objs.size=s.heap.objs.size + 2:=by rw [Heap.size_push,n1]
 have n3:(zltq3 s.heap t l).objs.size=s.heap.objs.size + 3:=by rw [Heap.size_push,n2]
 have n4:(zltq4 s.heap t l).objs.size=s.heap.objs.size + 4:=by rw [Heap.size_push,n3]
 have p5:(zltq5 s.heap t l).get? (zltq4 s.heap t l).objs.size=some _:=Heap.get?_push_size _ rfl
 have p4:(zltq5 s.heap t l).get? (zltq3 s.heap t l).objs.size=some _:=Heap.get?_push_of_some _ (Heap.get?_push_size _ rfl)
 have p3:(zltq5 s.heap t l).get? (zltq2 s.heap t l).objs.size=some _:=Heap.get?_push_of_some _ (Heap.get?_push_of_some _ (Heap.get?_push_size _ rfl))
 have p2:(zltq5 s.heap t l).get? (zltq1 s.heap t).objs.size=some _:=Heap.get?_push_of_some _ (Heap.get?_push_of_some _ (Heap.get?_push_of_some _ (Heap.get?_push_size _ rfl)))
 have p1:(zltq5 s.heap t l).get? s.heap.objs.size=some _:=Heap.get?_push_of_some _ (Heap.get?_push_of_some _ (Heap.get?_push_of_some _ (Heap.get?_push_of_some _ (Heap.get?_push_size _ rfl))))
 change _/\_
 rw [n2,n3,n4] at p5
 rw [n1,n2] at p3
 rw [n3] at p4
 rw [n1] at p2
 rw [n4]
 exact ⟨⟨_,p5,rfl⟩,h _ p5 p3 p4 ⟨_,p1,rfl,rfl⟩ ⟨_,p2,rfl,rfl⟩ fun c o x=>Heap.get?_push_of_some _ (Heap.get?_push_of_some _ (Heap.get?_push_of_some _ (Heap.get?_push_of_some _ (Heap.get?_push_of_some _ x))))⟩
noncomputable def ItzTT (K:PySem.W.Frag) (a b:Addr):It:=
 ⟨fun i H=>∃ xs ys x y,SqT K H a xs/\SqT K H b ys/\xs[i]? = some x/\ys[i]? = some y,
  fun i H v H'=>∃ T x y,v=.ref T/\H T=none/\H'=upd H T (.tup [x,y])/\(∀ xs,SqT K H a xs->xs[i]? = some x)/\∀ ys,SqT K H b ys->ys[i]? = some y,
  fun i H=>∃ xs ys,SqT K H a xs/\SqT K H b ys/\i<=xs.length/\i<=ys.length/\(i=xs.length\/i=ys.length)⟩
theorem turn_zipTT {P:Program} {w:World} {K:PySem.W.Frag} {es:List Expr} {kk:Nat} {tp:Pos} {a b z TI TO i1 i2:Addr} (Z:Zp z TI TO i1 i2 [i1,a] [i2,b]) (na:a≠i1) (nb:b≠i2) :
  Turn P w K (.Tuple es kk tp) (ItzTT K a b) [z,TI,TO,i1,i2] z (fun i h=>IsZip h z TI TO .none/\IsPair h TI (.ref i1) (.ref i2)/\(∃ x y,IsPair h TO x y)/\h.IsTupleIter i1 a i/\h.IsTupleIter i2 b i) where
 mem:=by simp
 obj:=fun i h ⟨t1,t2,⟨x,y,t3⟩,t4,t5⟩ c hc=>by
  simp only [List.mem_cons,List.not_mem_nil,or_false] at hc
  rcases hc with rfl | rfl | rfl | rfl | rfl
  ·exact ⟨_,t1,fields_no_cell⟩
  ·exact ⟨_,t2,seq_no_cell⟩
  ·exact ⟨_,t3,seq_no_cell⟩
  ·obtain ⟨o,e,_,d⟩:=t4
   exact ⟨o,e,by rw [d]; exact fields_no_cell⟩
  ·obtain ⟨o,e,_,d⟩:=t5
   exact ⟨o,e,by rw [d]; exact fields_no_cell⟩
 keep:=fun i h h' ⟨t1,t2,⟨x,y,t3⟩,t4,t5⟩ k=>⟨k z (by simp) _ t1,k TI (by simp) _ t2,⟨x,y,k TO (by simp) _ t3⟩,(by obtain ⟨o,e,r⟩:=t4; exact ⟨o,k i1 (by simp) o e,r⟩),(by obtain ⟨o,e,r⟩:=t5; exact ⟨o,k i2 (by simp) o e,r⟩)⟩
 item:=by
  intro X hP hw hK hc i pins s σ H E I hf ⟨t1,t2,⟨x0,y0,t3⟩,t4,t5⟩ hg
  subst hP hw hK
  obtain ⟨xs,ys,x,y,hq1,hq2,hx,hy⟩:=hg
  obtain ⟨its1,rv1,p1,_⟩:=I.tuple hq1
  obtain ⟨its2,rv2,p2,_⟩:=I.tuple hq2
  obtain ⟨u,hu,ru⟩:=rv1.get hx
  obtain ⟨v,hv,rv⟩:=rv2.get hy
  have hh:X.A.in1.handled=none:=I.ok.hd hc
  have l1:i < its1.toArray.size:=by rw [List.size_toArray]; exact (List.getElem?_eq_some_iff.mp hu).1
  have l2:i < its2.toArray.size:=by rw [List.size_toArray]; exact (List.getElem?_eq_some_iff.mp hv).1
  refine zip_next (draws_tup hh i1 a na its1.toArray) (draws_tup hh i2 b nb its2.toArray) Z t1 t2 t3 ⟨t4,p1⟩ ⟨t5,p2⟩ l1 l2 ?_
  intro x' y' h1 tk px py z1 z2 z3 z4 z5 z6 keep
  have ex:x'=u:=by
   have q:its1.toArray[i]? = some x':=px
   simp only [List.getElem?_toArray] at q
   rw [hu] at q
   exact (Option.some.inj q).symm
  have ey:y'=v:=by
   have q:its2.toArray[i]? = some y':=py
   simp only [List.getElem?_toArray] at q
   rw [hv] at q
   exact (Option.some.inj q).symm
  subst ex ey
  refine ⟨_,rfl,wpAny_letOwnedTupleGo_zip (s:={ s with heap:=h1,toks:=tk }) z1 fun h2 z7 sb=>?_⟩
  have zlt:z < s.heap.objs.size:=Heap.lt_size t1
  have keep2:∀ c o,c∉[z,TI,TO,i1,i2]->s.heap.get? c=some o->h2.get? c=some o:=fun c o hc e=>by
   simp only [List.mem_cons,List.not_mem_nil,or_false,not_or] at hc
   exact sb.extBut c o hc.1 (keep c o hc.1 hc.2.2.1 hc.2.2.2.1 hc.2.2.2.2 e)
  have pT:IsPair h2 s.heap.objs.size x' y':=sb.extBut _ _ (Nat.ne_of_gt zlt) z6
  have I':=I.turnT (h':=h2) (tk:=tk) (ch:=[z,TI,TO,i1,i2]) (x:=x) (y:=y) hf keep2 (Nat.le_refl _) pT ru rv
  refine ⟨.ref s.heap.objs.size,_,I',rfl,⟨s.heap.objs.size,x,y,rfl,I.hok.fresh (Nat.le_refl _),rfl,fun xs' q=>by rw [I.tuple_inj q hq1]; exact hx,fun ys' q=>by rw [I.tuple_inj q hq2]; exact hy⟩,
   ⟨z7,sb.extBut _ _ Z.a1 z2,⟨_,_,sb.extBut _ _ Z.a2 z3⟩,z4.1.extBut sb.extBut Z.a3,z5.1.extBut sb.extBut Z.a4⟩,fun c hc=>?_⟩
  have:=(hf c hc).1
  rw [upd_ne]
  ·exact this
  ·intro q
   obtain ⟨o,e,_⟩:∃ o,s.heap.get? c=some o/\True:=by
    simp only [List.mem_cons,List.not_mem_nil,or_false] at hc
    rcases hc with rfl | rfl | rfl | rfl | rfl
    ·exact ⟨_,t1,trivial⟩
    ·exact ⟨_,t2,trivial⟩
    ·exact ⟨_,t3,trivial⟩
    ·obtain ⟨o,e,_⟩:=t4; exact ⟨o,e,trivial⟩
    ·obtain ⟨o,e,_⟩:=t5; exact ⟨o,e,trivial⟩
   rw [q] at e
   exact absurd (Heap.lt_size e) (Nat.lt_irrefl _)
 done:=by
  intro X hP hw hK hc i pins s σ H E I hf ⟨t1,t2,⟨x0,y0,t3⟩,t4,t5⟩ hg
  subst hP hw hK
  obtain ⟨xs,ys,hq1,hq2,e1,e2,e3⟩:=hg
  obtain ⟨its1,rv1,p1,_⟩:=I.tuple hq1
  obtain ⟨its2,rv2,p2,_⟩:=I.tuple hq2
  have hh:X.A.in1.handled=none:=I.ok.hd hc
  have n1:its1.toArray.size=xs.length:=by rw [List.size_toArray]; exact rv1.length.symm
  have n2:its2.toArray.size=ys.length:=by rw [List.size_toArray]; exact rv2.length.symm
  refine zip_end (draws_tup hh i1 a na its1.toArray) (draws_tup hh i2 b nb its2.toArray) Z t1 t2 t3 ⟨t4,p1⟩ ⟨t5,p2⟩ (by omega) (by omega) (by omega) ?_
  intro h1 tk keep
  refine ⟨rfl,I.turnN (h':=h1) (tk:=tk) (ch:=[z,TI,TO,i1,i2]) hf fun c o hc e=>?_⟩
  simp only [List.mem_cons,List.not_mem_nil,or_false,not_or] at hc
  exact keep c o hc.1 hc.2.2.1 hc.2.2.2.1 hc.2.2.2.2 e
 self:=fun _ _ _ _ _ st h=>wpAny_pyIter_zip st.1 h
theorem comp_zipTT {K:PySem.W.Frag} {a b:Addr} {xs ys:List V} {g:TG} {te:TE} {σ0:St} {H:Hp} {Q:VK} (Pv:Nat->List V->St->Hp->Prop) (h0:Pv 0 [] σ0 H) (hl:∀ i zs σ H,i<=xs.length->Pv i zs σ H->SqT K H a xs/\SqT K H b ys/\zs.length<=i) (hlen:xs.length<=ys.length) (hz:xs.length<=sizeLine)
  (hs:∀ i x y T zs σ H,xs[i]? = some x->ys[i]? = some y->H T=none->Pv i zs σ H->g (.ref T) σ (upd H T (.tup [x,y])) fun σ2 H2=>te σ2 H2 fun z H3=>Pv (i + 1) (zs++[z]) σ2 H3)
  (hd:∀ zs σ H,Pv xs.length zs σ H->∀ p,H p=none->Q (.ref p) (upd H p (.lst zs))):CompGo (ItzTT K a b) g te Q σ0 H:=by
 refine ⟨fun i m zs σ H=>m=xs.length - i/\i<=xs.length/\Pv i zs σ H,⟨xs.length,by simp,Nat.zero_le _,h0⟩,?_⟩
 rintro i m zs σ H ⟨rfl,hi,p⟩
 obtain ⟨q1,q2,hy⟩:=hl i zs σ H hi p
 by_cases hlt:i < xs.length
 ·have hlt2:i < ys.length:=by omega
  refine .inr ⟨⟨xs,ys,xs[i],ys[i],q1,q2,by simp [hlt],by simp [hlt2]⟩,by omega,fun z σ' H'=>Pv (i + 1) (zs++[z]) σ' H',fun z σ' H' p'=>⟨xs.length - (i + 1),by omega,rfl,hlt,p'⟩,fun v H' y=>?_⟩
  obtain ⟨T,x,y,rfl,hT,rfl,c1,c2⟩:=y
  exact hs i x y T zs σ H (c1 xs q1) (c2 ys q2) hT p
 ·have e:i=xs.length:=by omega
  subst e
  exact .inl ⟨⟨xs,ys,q1,q2,Nat.le_refl _,hlen,.inl rfl⟩,hd zs σ H p⟩
noncomputable def ItzLT (K:PySem.W.Frag) (a b:Addr):It:=
 ⟨fun i H=>∃ xs ys x y,SqL K H a xs/\SqT K H b ys/\xs[i]? = some x/\ys[i]? = some y,
  fun i H v H'=>∃ T x y,v=.ref T/\H T=none/\H'=upd H T (.tup [x,y])/\(∀ xs,SqL K H a xs->xs[i]? = some x)/\∀ ys,SqT K H b ys->ys[i]? = some y,
  fun i H=>∃ xs ys,SqL K H a xs/\SqT K H b ys/\i<=xs.length/\i<=ys.length/\(i=xs.length\/i=ys.length)⟩
theorem turn_zipLT {P:Program} {w:World} {K:PySem.W.Frag} {es:List Expr} {kk:Nat} {tp:Pos} {a b z TI TO i1 i2:Addr} (Z:Zp z TI TO i1 i2 [i1,a] [i2,b]) (na:a≠i1) (nb:b≠i2) :
  Turn P w K (.Tuple es kk tp) (ItzLT K a b) [z,TI,TO,i1,i2] z (fun i h=>IsZip h z TI TO .none/\IsPair h TI (.ref i1) (.ref i2)/\(∃ x y,IsPair h TO x y)/\h.IsListIter i1 a i/\h.IsTupleIter i2 b i) where
 mem:=by simp
 obj:=fun i h ⟨t1,t2,⟨x,y,t3⟩,t4,t5⟩ c hc=>by
  simp only [List.mem_cons,List.not_mem_nil,or_false] at hc
  rcases hc with rfl | rfl | rfl | rfl | rfl
  ·exact ⟨_,t1,fields_no_cell⟩
  ·exact ⟨_,t2,seq_no_cell⟩
  ·exact ⟨_,t3,seq_no_cell⟩
  ·obtain ⟨o,e,_,d⟩:=t4
   exact ⟨o,e,by rw [d]; exact fields_no_cell⟩
  ·obtain ⟨o,e,_,d⟩:=t5
   exact ⟨o,e,by rw [d]; exact fields_no_cell⟩
 keep:=fun i h h' ⟨t1,t2,⟨x,y,t3⟩,t4,t5⟩ k=>⟨k z (by simp) _ t1,k TI (by simp) _ t2,⟨x,y,k TO (by simp) _ t3⟩,(by obtain ⟨o,e,r⟩:=t4; exact ⟨o,k i1 (by simp) o e,r⟩),(by obtain ⟨o,e,r⟩:=t5; exact ⟨o,k i2 (by simp) o e,r⟩)⟩
 item:=by
  intro X hP hw hK hc i pins s σ H E I hf ⟨t1,t2,⟨x0,y0,t3⟩,t4,t5⟩ hg
  subst hP hw hK
  obtain ⟨xs,ys,x,y,hq1,hq2,hx,hy⟩:=hg
  obtain ⟨its1,rv1,p1,_⟩:=I.list hq1
  obtain ⟨its2,rv2,p2,_⟩:=I.tuple hq2
  obtain ⟨u,hu,ru⟩:=rv1.get hx
  obtain ⟨v,hv,rv⟩:=rv2.get hy
  have hh:X.A.in1.handled=none:=I.ok.hd hc
  have l1:i < its1.toArray.size:=by rw [List.size_toArray]; exact (List.getElem?_eq_some_iff.mp hu).1
  have l2:i < its2.toArray.size:=by rw [List.size_toArray]; exact (List.getElem?_eq_some_iff.mp hv).1
  refine zip_next (Draws.list hh i1 a na its1.toArray) (draws_tup hh i2 b nb its2.toArray) Z t1 t2 t3 ⟨t4,p1.isList⟩ ⟨t5,p2⟩ l1 l2 ?_
  intro x' y' h1 tk px py z1 z2 z3 z4 z5 z6 keep
  have ex:x'=u:=by
   have q:its1.toArray[i]? = some x':=px
   simp only [List.getElem?_toArray] at q
   rw [hu] at q
   exact (Option.some.inj q).symm
  have ey:y'=v:=by
   have q:its2.toArray[i]? = some y':=py
   simp only [List.getElem?_toArray] at q
   rw [hv] at q
   exact (Option.some.inj q).symm
  subst ex ey
  refine ⟨_,rfl,wpAny_letOwnedTupleGo_zip (s:={ s with heap:=h1,toks:=tk }) z1 fun h2 z7 sb=>?_⟩
  have zlt:z < s.heap.objs.size:=Heap.lt_size t1
  have keep2:∀ c o,c∉[z,TI,TO,i1,i2]->s.heap.get? c=some o->h2.get? c=some o:=fun c o hc e=>by
   simp only [List.mem_cons,List.not_mem_nil,or_false,not_or] at hc
   exact sb.extBut c o hc.1 (keep c o hc.1 hc.2.2.1 hc.2.2.2.1 hc.2.2.2.2 e)
  have pT:IsPair h2 s.heap.objs.size x' y':=sb.extBut _ _ (Nat.ne_of_gt zlt) z6
  have I':=I.turnT (h':=h2) (tk:=tk) (ch:=[z,TI,TO,i1,i2]) (x:=x) (y:=y) hf keep2 (Nat.le_refl _) pT ru rv
  refine ⟨.ref s.heap.objs.size,_,I',rfl,⟨s.heap.objs.size,x,y,rfl,I.hok.fresh (Nat.le_refl _),rfl,fun xs' q=>by rw [I.list_inj q hq1]; exact hx,fun ys' q=>by rw [I.tuple_inj q hq2]; exact hy⟩,
   ⟨z7,sb.extBut _ _ Z.a1 z2,⟨_,_,sb.extBut _ _ Z.a2 z3⟩,z4.1.extBut sb.extBut Z.a3,z5.1.extBut sb.extBut Z.a4⟩,fun c hc=>?_⟩
  have:=(hf c hc).1
  rw [upd_ne]
  ·exact this
  ·intro q
   obtain ⟨o,e,_⟩:∃ o,s.heap.get? c=some o/\True:=by
    simp only [List.mem_cons,List.not_mem_nil,or_false] at hc
    rcases hc with rfl | rfl | rfl | rfl | rfl
    ·exact ⟨_,t1,trivial⟩
    ·exact ⟨_,t2,trivial⟩
    ·exact ⟨_,t3,trivial⟩
    ·obtain ⟨o,e,_⟩:=t4; exact ⟨o,e,trivial⟩
    ·obtain ⟨o,e,_⟩:=t5; exact ⟨o,e,trivial⟩
   rw [q] at e
   exact absurd (Heap.lt_size e) (Nat.lt_irrefl _)
 done:=by
  intro X hP hw hK hc i pins s σ H E I hf ⟨t1,t2,⟨x0,y0,t3⟩,t4,t5⟩ hg
  subst hP hw hK
  obtain ⟨xs,ys,hq1,hq2,e1,e2,e3⟩:=hg
  obtain ⟨its1,rv1,p1,_⟩:=I.list hq1
  obtain ⟨its2,rv2,p2,_⟩:=I.tuple hq2
  have hh:X.A.in1.handled=none:=I.ok.hd hc
  have n1:its1.toArray.size=xs.length:=by rw [List.size_toArray]; exact rv1.length.symm
  have n2:its2.toArray.size=ys.length:=by rw [List.size_toArray]; exact rv2.length.symm
  refine zip_end (Draws.list hh i1 a na its1.toArray) (draws_tup hh i2 b nb its2.toArray) Z t1 t2 t3 ⟨t4,p1.isList⟩ ⟨t5,p2⟩ (by omega) (by omega) (by omega) ?_
  intro h1 tk keep
  refine ⟨rfl,I.turnN (h':=h1) (tk:=tk) (ch:=[z,TI,TO,i1,i2]) hf fun c o hc e=>?_⟩
  simp only [List.mem_cons,List.not_mem_nil,or_false,not_or] at hc
  exact keep c o hc.1 hc.2.2.1 hc.2.2.2.1 hc.2.2.2.2 e
 self:=fun _ _ _ _ _ st h=>wpAny_pyIter_zip st.1 h
theorem comp_zipLT {K:PySem.W.Frag} {a b:Addr} {xs ys:List V} {g:TG} {te:TE} {σ0:St} {H:Hp} {Q:VK} (Pv:Nat->List V->St->Hp->Prop) (h0:Pv 0 [] σ0 H) (hl:∀ i zs σ H,i<=xs.length->Pv i zs σ H->SqL K H a xs/\SqT K H b ys/\zs.length<=i) (hlen:xs.length<=ys.length) (hz:xs.length<=sizeLine)
  (hs:∀ i x y T zs σ H,xs[i]? = some x->ys[i]? = some y->H T=none->Pv i zs σ H->g (.ref T) σ (upd H T (.tup [x,y])) fun σ2 H2=>te σ2 H2 fun z H3=>Pv (i + 1) (zs++[z]) σ2 H3)
  (hd:∀ zs σ H,Pv xs.length zs σ H->∀ p,H p=none->Q (.ref p) (upd H p (.lst zs))):CompGo (ItzLT K a b) g te Q σ0 H:=by
 refine ⟨fun i m zs σ H=>m=xs.length - i/\i<=xs.length/\Pv i zs σ H,⟨xs.length,by simp,Nat.zero_le _,h0⟩,?_⟩
 rintro i m zs σ H ⟨rfl,hi,p⟩
 obtain ⟨q1,q2,hy⟩:=hl i zs σ H hi p
 by_cases hlt:i < xs.length
 ·have hlt2:i < ys.length:=by omega
  refine .inr ⟨⟨xs,ys,xs[i],ys[i],q1,q2,by simp [hlt],by simp [hlt2]⟩,by omega,fun z σ' H'=>Pv (i + 1) (zs++[z]) σ' H',fun z σ' H' p'=>⟨xs.length - (i + 1),by omega,rfl,hlt,p'⟩,fun v H' y=>?_⟩
  obtain ⟨T,x,y,rfl,hT,rfl,c1,c2⟩:=y
  exact hs i x y T zs σ H (c1 xs q1) (c2 ys q2) hT p
 ·have e:i=xs.length:=by omega
  subst e
  exact .inl ⟨⟨xs,ys,q1,q2,Nat.le_refl _,hlen,.inl rfl⟩,hd zs σ H p⟩
theorem Same.seqT {K:PySem.W.Frag} {H H':Hp} {a:Addr} {xs:List V} (e:Same H H') (h:SqT K H a xs):SqT K H' a xs:=by
 rcases h with (h | ⟨o,h⟩) | h
 ·exact .inl (.inl (e _ _ h))
 ·exact .inl (.inr ⟨o,e _ _ h⟩)
 ·exact .inr h
noncomputable def SqE (K:PySem.W.Frag) (H:Hp) (a:Addr) (xs:List V):Prop:=SqT K H a xs\/SqL K H a xs
theorem SqE.same {K:PySem.W.Frag} {H H':Hp} {a:Addr} {xs:List V} (s:Same H H') (h:SqE K H a xs):SqE K H' a xs:=h.imp (fun z=>s.seqT z) (fun z=>s.seq z)
section
variable {X:Cx} {es:List Expr} {kk:Nat} {tp:Pos}
theorem five {pins:List (Addr × Obj)} {σ:St} {H:Hp} {s:Shared} (I:Inv X pins σ H s) {c:Addr} (hc:c∈[s.heap.objs.size + 4,s.heap.objs.size + 2,s.heap.objs.size + 3,s.heap.objs.size,s.heap.objs.size + 1]):FpOk X pins H c:=by
 have ge:s.heap.objs.size<=c:=by
  simp only [List.mem_cons,List.not_mem_nil,or_false] at hc
  rcases hc with rfl | rfl | rfl | rfl | rfl
  ·exact Nat.le_add_right _ 4
  ·exact Nat.le_add_right _ 2
  ·exact Nat.le_add_right _ 3
  ·exact Nat.le_refl _
  ·exact Nat.le_add_right _ 1
 exact I.fpOk ge (I.hok.fresh ge)
noncomputable def orZ (K:PySem.W.Frag) (H:Hp) (a b:Addr) (R:It->Hp->Prop):Prop:=
 ((∃ xs,SqT K H a xs)/\(∃ ys,SqL K H b ys)/\R (Itz K a b) H)\/((∃ xs,SqL K H a xs)/\(∃ ys,SqL K H b ys)/\R (ItzL K a b) H)\/((∃ xs,SqT K H a xs)/\(∃ ys,SqT K H b ys)/\R (ItzTT K a b) H)\/((∃ xs,SqL K H a xs)/\(∃ ys,SqT K H b ys)/\R (ItzLT K a b) H)
noncomputable def iZipS (K:PySem.W.Frag) (ta:TA):TI:=fun σ H R=>ta σ H fun vs H1=>∃ a b,vs=[.ref a,.ref b]/\orZ K H1 a b R
theorem pi_zipS {e1 e2:Expr} {ta:TA} {p pos:Pos} (hg:Gl X "zip") (hm:X.mg "zip" = none) (ha:PA X [e1,e2] ta) (hs:starEach [e1,e2] X.env=[(false,eval e1 X.env),(false,eval e2 X.env)]:=by rfl) (hs2:starEach [e2] X.env=[(false,eval e2 X.env)]:=by rfl) :
  PI X (.Tuple es kk tp) (.Call (.Name "zip" p) [e1,e2] [] pos) (iZipS X.K ta):=by
 intro pins s σ H R I h
 refine Call_ (ld_blt I hg hm (show bootBuiltins "zip" = some (.type "zip") by decide +kernel) (PyProof.Rows.callWith_type1 (thn (ha pos pins s σ H _ I h) fun us s1 ⟨vs,H1,I1,r1,q1⟩=>?_) (by rw [hs,hs2]) (by rw [hs2]; rfl)))
 obtain ⟨a,b,e,q1⟩:=q1
 subst e
 obtain ⟨u,v,rfl,ru,rv⟩:=vals2 r1
 cases ru
 cases rv
 rcases q1 with ⟨⟨xs,hx⟩,⟨ys,hy⟩,q⟩ | ⟨⟨xs,hx⟩,⟨ys,hy⟩,q⟩ | ⟨⟨xs,hx⟩,⟨ys,hy⟩,q⟩ | ⟨⟨xs,hx⟩,⟨ys,hy⟩,q⟩
 ·obtain ⟨its1,rv1,p1,_⟩:=I1.tuple hx
  obtain ⟨its2,rv2,p2,_⟩:=I1.list hy
  have la:a < s1.heap.objs.size:=by obtain ⟨o,e,_⟩:=p1; exact Heap.lt_size e
  have lb:b < s1.heap.objs.size:=by obtain ⟨o,n,e,_⟩:=p2; exact Heap.lt_size e
  refine call_zip_tl p1 p2.isList fun h' z1 z2 z3 z4 z5 keep=>wpAny_pyIter_zip z1 ?_
  have I2:Inv X pins σ H1 { s1 with heap:=h' }:=I1.kept (t':=s1.toks) keep
  exact ⟨s1.heap.objs.size + 4,[s1.heap.objs.size + 4,s1.heap.objs.size + 2,s1.heap.objs.size + 3,s1.heap.objs.size,s1.heap.objs.size + 1],_,_,H1,rfl,I2,
   turn_zip (a:=a) (b:=b) (zp_mk _ _ _ la lb) (Nat.ne_of_lt la) (Nat.ne_of_lt (Nat.lt_succ_of_lt lb)),⟨z1,z2,⟨_,_,z3⟩,z4,z5⟩,fun c hc=>five I1 hc,q⟩
 ·obtain ⟨its1,rv1,p1,_⟩:=I1.list hx
  obtain ⟨its2,rv2,p2,_⟩:=I1.list hy
  have la:a < s1.heap.objs.size:=by obtain ⟨o,n,e,_⟩:=p1; exact Heap.lt_size e
  have lb:b < s1.heap.objs.size:=by obtain ⟨o,n,e,_⟩:=p2; exact Heap.lt_size e
  refine call_zip_2 p1.isList p2.isList fun h' z1 z2 z3 z4 z5 _ keep=>wpAny_pyIter_zip z1 ?_
  have I2:Inv X pins σ H1 { s1 with heap:=h' }:=I1.kept (t':=s1.toks) keep
  exact ⟨s1.heap.objs.size + 4,[s1.heap.objs.size + 4,s1.heap.objs.size + 2,s1.heap.objs.size + 3,s1.heap.objs.size,s1.heap.objs.size + 1],_,_,H1,rfl,I2,
   turn_zipL (a:=a) (b:=b) (zp_mk _ _ _ la lb) (Nat.ne_of_lt la) (Nat.ne_of_lt (Nat.lt_succ_of_lt lb)),⟨z1,z2,⟨_,_,z3⟩,z4,z5⟩,fun c hc=>five I1 hc,q⟩
 ·obtain ⟨its1,rv1,p1,_⟩:=I1.tuple hx
  obtain ⟨its2,rv2,p2,_⟩:=I1.tuple hy
  have la:a < s1.heap.objs.size:=by obtain ⟨o,e,_⟩:=p1; exact Heap.lt_size e
  have lb:b < s1.heap.objs.size:=by obtain ⟨o,e,_⟩:=p2; exact Heap.lt_size e
  refine call_zip_tt p1 p2 fun h' z1 z2 z3 z4 z5 keep=>wpAny_pyIter_zip z1 ?_
  have I2:Inv X pins σ H1 { s1 with heap:=h' }:=I1.kept (t':=s1.toks) keep
  exact ⟨s1.heap.objs.size + 4,[s1.heap.objs.size + 4,s1.heap.objs.size + 2,s1.heap.objs.size + 3,s1.heap.objs.size,s1.heap.objs.size + 1],_,_,H1,rfl,I2,
   turn_zipTT (a:=a) (b:=b) (zp_mk _ _ _ la lb) (Nat.ne_of_lt la) (Nat.ne_of_lt (Nat.lt_succ_of_lt lb)),⟨z1,z2,⟨_,_,z3⟩,z4,z5⟩,fun c hc=>five I1 hc,q⟩
 ·obtain ⟨its1,rv1,p1,_⟩:=I1.list hx
  obtain ⟨its2,rv2,p2,_⟩:=I1.tuple hy
  have la:a < s1.heap.objs.size:=by obtain ⟨o,n,e,_⟩:=p1; exact Heap.lt_size e
  have lb:b < s1.heap.objs.size:=by obtain ⟨o,e,_⟩:=p2; exact Heap.lt_size e
  refine call_zip_lt p1.isList p2 fun h' z1 z2 z3 z4 z5 keep=>wpAny_pyIter_zip z1 ?_
  have I2:Inv X pins σ H1 { s1 with heap:=h' }:=I1.kept (t':=s1.toks) keep
  exact ⟨s1.heap.objs.size + 4,[s1.heap.objs.size + 4,s1.heap.objs.size + 2,s1.heap.objs.size + 3,s1.heap.objs.size,s1.heap.objs.size + 1],_,_,H1,rfl,I2,
   turn_zipLT (a:=a) (b:=b) (zp_mk _ _ _ la lb) (Nat.ne_of_lt la) (Nat.ne_of_lt (Nat.lt_succ_of_lt lb)),⟨z1,z2,⟨_,_,z3⟩,z4,z5⟩,fun c hc=>five I1 hc,q⟩
end
theorem comp_zipS {K:PySem.W.Frag} {a b:Addr} {xs ys:List V} {g:TG} {te:TE} {σ0:St} {H:Hp} {Q:VK} (ha:SqE K H a xs) (hb:SqE K H b ys) (Pv:Nat->List V->St->Hp->Prop) (h0:Pv 0 [] σ0 H) (hl:∀ i zs σ H',i<=xs.length->Pv i zs σ H'->Same H H'/\zs.length<=i) (hlen:xs.length<=ys.length) (hz:xs.length<=sizeLine)
  (hs:∀ i x y T zs σ H,xs[i]? = some x->ys[i]? = some y->H T=none->Pv i zs σ H->g (.ref T) σ (upd H T (.tup [x,y])) fun σ2 H2=>te σ2 H2 fun z H3=>Pv (i + 1) (zs++[z]) σ2 H3)
  (hd:∀ zs σ H,Pv xs.length zs σ H->∀ p,H p=none->Q (.ref p) (upd H p (.lst zs))):orZ K H a b fun J H'=>CompGo J g te Q σ0 H':=by
 rcases ha with ha | ha
 ·rcases hb with hb | hb
  ·exact .inr (.inr (.inl ⟨⟨_,ha⟩,⟨_,hb⟩,comp_zipTT Pv h0 (fun i zs σ H' hi p=>⟨(hl i zs σ H' hi p).1.seqT ha,(hl i zs σ H' hi p).1.seqT hb,(hl i zs σ H' hi p).2⟩) hlen hz hs hd⟩))
  ·exact .inl ⟨⟨_,ha⟩,⟨_,hb⟩,comp_zip Pv h0 (fun i zs σ H' hi p=>⟨(hl i zs σ H' hi p).1.seqT ha,(hl i zs σ H' hi p).1.seq hb,(hl i zs σ H' hi p).2⟩) hlen hz hs hd⟩
 ·rcases hb with hb | hb
  ·exact .inr (.inr (.inr ⟨⟨_,ha⟩,⟨_,hb⟩,comp_zipLT Pv h0 (fun i zs σ H' hi p=>⟨(hl i zs σ H' hi p).1.seq ha,(hl i zs σ H' hi p).1.seqT hb,(hl i zs σ H' hi p).2⟩) hlen hz hs hd⟩))
  ·exact .inr (.inl ⟨⟨_,ha⟩,⟨_,hb⟩,comp_zipL Pv h0 (fun i zs σ H' hi p=>⟨(hl i zs σ H' hi p).1.seq ha,(hl i zs σ H' hi p).1.seq hb,(hl i zs σ H' hi p).2⟩) hlen hz hs hd⟩)
section
variable {prog:Program} {w:World} {A:Around} {E:Value->Shared->Prop}
theorem drawL {it l:Addr} {xs:Array Value} (ne:l≠it):∀ (m j:Nat) (s:Shared) (R:List Value->Shared->Prop),s.heap.IsListIter it l j->s.heap.IsList l xs->j + m<=xs.size->
  (∀ g,g.IsListIter it l (j + m)->Heap.SameBut it s.heap g->R ((xs.toList.drop j).take m) { s with heap:=g })->wpAny (model prog w) A (draw (.ref it) m) R E s
 | 0,j,s,R,hi,_,_,k=>wpAny_pure (by simpa using k s.heap hi (Heap.SameBut.refl ..))
 | m + 1,j,s,R,hi,hl,le,k=>by
  have lt:j < xs.size:=by omega
  have step:=fun g (z:Heap.SameBut it s.heap g)=>(hl.extBut z.extBut ne:g.IsList l xs)
  show wpAny _ _ (pyNext (.ref it) >>= _) R E s
  refine wpAny_bind (wpAny_pyNext_list_item hi hl (x:=xs[j]) (by simp [lt]) fun g1 i1 b1=>?_)
  refine wpAny_bind (wpAny_holding (drawL ne m (j + 1) _ _ i1 (step g1 b1) (by omega) fun g2 i2 b2=>wpAny_pure ?_))
  have z:=k g2 (by rw [show j + (m + 1)=j + 1 + m by omega]; exact i2) (b1.trans b2)
  rw [show xs.toList.drop j=xs[j] :: xs.toList.drop (j + 1) by simp [List.drop_eq_getElem_cons,lt],List.take_succ_cons] at z
  exact z
theorem itemsL {s:Shared} {l:Addr} {xs:Array Value} {R:List Value->Shared->Prop} (hd:A.handled=none) (hl:s.heap.IsList l xs)
  (k:∀ g,Heap.ExtBut s.heap.objs.size s.heap g->R xs.toList { s with heap:=g }):wpAny (model prog w) A (unpackItems (.ref l) xs.size none) R E s:=by
 have ne:l≠s.heap.objs.size:=by
  obtain ⟨o,eo,_⟩:=hl
  exact Nat.ne_of_lt (Heap.lt_size eo)
 unfold unpackItems
 refine wpAny_bind ?_
 unfold notIterableAtAll
 refine wpAny_bind (wpAny_specialOf hl.typeIs slot_list_iter.lookup ?_)
 refine wpAny_pure ?_
 simp only [Bool.false_eq_true,if_false]
 refine wpAny_bind (wpAny_holding (wpAny_pyIter_list hl ?_))
 refine wpAny_bind (wpAny_holding (drawL ne xs.size 0 _ _ ⟨_,Heap.get?_push_size _ rfl,rfl,rfl⟩ (hl.push _) (by omega) fun g1 i1 b1=>?_))
 rw [show List.take xs.size (List.drop 0 xs.toList)=xs.toList by rw [List.drop_zero]; exact List.take_of_length_le (by simp),if_neg (by simp)]
 refine wpAny_bind (wpAny_holding (wpAny_pyNext_list_end hd i1 ((hl.push _).extBut b1.extBut ne) (by simp) fun g2 x2=>?_))
 simp only [Option.isSome_none,Bool.false_eq_true,if_false]
 exact wpAny_pure (k g2 fun c o n e=>x2 c o n (b1.extBut c o n (Heap.get?_push_of_some _ e)))
end
section
variable {X:Cx} {pos:Pos}
noncomputable def gLst (K:PySem.W.Frag) (n:Nat) (t:TGs):TG:=fun v σ H Q=>∃ a xs,v=.ref a/\SqL K H a xs/\xs.length=n/\t xs σ H Q
theorem pg_lst {es:List Expr} {k:Nat} {t:TGs} {n:Nat} (hc:X.calm=true) (h:PGs X es t)
  (hn:(assignEach es X.env).length=n:=by rfl) (hst:(assignEach es X.env).findIdx? (·.1)=none:=by rfl):PG X (.Tuple es k pos) (gLst X.K n t):=by
 intro pins s σ H v u Q I r hw
 obtain ⟨a,xs,e1,hq,hl,hw⟩:=hw
 subst e1
 cases r
 obtain ⟨its,rv,ht,hz⟩:=I.list hq
 rw [assign_Tuple]
 refine wpAny_bind (wpAny_standAt ?_)
 unfold unpack
 rw [show (assignEach es X.env).length=its.toArray.size by simp [hn,<- hl,rv.length],hst]
 refine wpAny_bind (wpAny_holding (itemsL (I.ok.hd hc) ht.isList fun g hx=>?_))
 have I1:Inv X pins σ H { s with heap:=g }:=I.kept (t':=s.toks) fun b o e=>hx b o (Nat.ne_of_lt (Heap.lt_size e)) e
 exact h pins _ σ H xs _ Q I1 (by simpa using rv) hw
end
end L2
namespace L2
open PySem PySem.Spec PyProof.Rows
inductive JVar (i:Nat) (σ:St) (H:Hp) (Q:VK):Prop
 | mk (v:V) (_:σ[i]? = some (some v)) (_:Q v H):JVar i σ H Q
inductive JI (C:Int->Int->Prop) (g:Int->Int->V) (x y:V) (H:Hp) (Q:VK):Prop
 | mk (i j:Int) (_:x=.int i) (_:y=.int j) (_:C i j) (_:Q (g i j) H):JI C g x y H Q
inductive JI0 (g:Int->Int->V) (x y:V) (H:Hp) (Q:VK):Prop
 | mk (i j:Int) (_:x=.int i) (_:y=.int j) (_:Q (g i j) H):JI0 g x y H Q
inductive JIx (S:Hp->Addr->List V->Prop) (x y:V) (H:Hp) (Q:VK):Prop
 | mk (p:Addr) (xs:List V) (i:Int) (v:V) (_:x=.ref p) (_:y=.int i) (_:S H p xs) (_:atI xs i=some v) (_:Q v H):JIx S x y H Q
inductive JCat (x y:V) (H:Hp) (Q:VK):Prop
 | mk (l b:Addr) (xs zs:List V) (_:x=.ref l) (_:y=.ref b) (_:H l=some (.lst xs)) (_:H b=some (.lst zs)) (_:xs.length + zs.length<=sizeLine) (_:∀ p,H p=none->Q (.ref p) (upd H p (.lst (xs++zs)))):JCat x y H Q
inductive JLen (K:PySem.W.Frag) (xs:List V) (H:Hp) (Q:VK):Prop
 | mk (p:Addr) (ys:List V) (_:xs=[.ref p]) (_:SqL K H p ys\/SqT K H p ys) (_:Q (.int ys.length) H):JLen K xs H Q
inductive JApp (x:V) (vs:List V) (H:Hp) (Q:VK):Prop
 | mk (l:Addr) (xs:List V) (y:V) (_:x=.ref l) (_:vs=[y]) (_:H l=some (.lst xs)) (_:xs.length < sizeLine) (_:Q .non (upd H l (.lst (xs++[y])))):JApp x vs H Q
inductive JInst (K:PySem.W.Frag) (xs:List V) (H:Hp) (Q:VK):Prop
 | mk (x:V) (c:String) (t:Value) (b:Bool) (_:xs=[x,.ty c]) (_:TyOf K H x t) (_:PySem.W.kitOne K t (.type c)=some b) (_:Q (.bl b) H):JInst K xs H Q
inductive JSet (o i v:V) (H:Hp) (Q:Hp->Prop):Prop
 | mk (p:Addr) (xs:List V) (k:Int) (j:Nat) (_:o=.ref p) (_:i=.int k) (_:H p=some (.lst xs)) (_:ixN xs.length k=some j) (_:Q (upd H p (.lst (xs.set j v)))):JSet o i v H Q
inductive JSlT (K:PySem.W.Frag) (x:V) (lo hi:Option Int) (H:Hp) (Q:VK):Prop
 | mk (a:Addr) (xs:List V) (_:x=.ref a) (_:SqT K H a xs) (_:¬ (HT.sIx xs.length 0 lo=0/\HT.sIx xs.length xs.length hi=xs.length)) (_:∀ p,H p=none->Q (.ref p) (upd H p (.tup (cutV xs lo hi)))):JSlT K x lo hi H Q
inductive JSlL (K:PySem.W.Frag) (x:V) (lo hi:Option Int) (H:Hp) (Q:VK):Prop
 | mk (a:Addr) (xs:List V) (_:x=.ref a) (_:SqL K H a xs) (_:∀ p,H p=none->Q (.ref p) (upd H p (.lst (cutV xs lo hi)))):JSlL K x lo hi H Q
inductive JTup (K:PySem.W.Frag) (xs:List V) (H:Hp) (Q:VK):Prop
 | mk (p:Addr) (ys:List V) (_:xs=[.ref p]) (_:(SqL K H p ys/\∀ l,H l=none->Q (.ref l) (upd H l (.tup ys)))\/(SqT K H p ys/\Q (.ref p) H)):JTup K xs H Q
inductive JRep (x y:V) (H:Hp) (Q:VK):Prop
 | mk (l:Addr) (k:Int) (xs:List V) (_:x=.ref l) (_:y=.int k) (_:H l=some (.lst xs)) (_ : -(2 ^ 63)<=k) (_:k < 2 ^ 63) (_:xs.length * k.toNat<=sizeLine) (_:∀ p,H p=none->Q (.ref p) (upd H p (.lst (List.replicate k.toNat xs).flatten))):JRep x y H Q
section
variable {X:Cx}
theorem japp:MtM X "list.append" JApp:=fun pins s σ H x xs v us Q I rx rv ⟨l,ys,y,h1,h2,h3,h4,q⟩=>mt_append pins s σ H x xs v us Q I rx rv ⟨l,ys,y,h1,h2,h3,h4,q⟩
theorem jinst:CallR X (.builtin "isinstance") (JInst X.K):=fun pins s σ H xs us Q I r ⟨x,c,t,b,h1,h2,h3,q⟩=>call_isinst pins s σ H xs us Q I r ⟨x,c,t,b,h1,h2,h3,q⟩
theorem jset:PSet X JSet:=fun pins s σ H o i v ov iv u Q I h1 h2 h3 ⟨p,xs,k,j,a,b,c,d,q⟩=>set_list pins s σ H o i v ov iv u Q I h1 h2 h3 ⟨p,xs,k,j,a,b,c,d,q⟩
theorem jsl_tup:SlR X (JSlT X.K):=fun pins s σ H x v vl vu lo hi sl Q I h1 h2 h3 h4 ⟨a,xs,b,c,d,q⟩=>sl_tup pins s σ H x v vl vu lo hi sl Q I h1 h2 h3 h4 ⟨a,xs,b,c,d,q⟩
theorem jsl_list:SlR X (JSlL X.K):=fun pins s σ H x v vl vu lo hi sl Q I h1 h2 h3 h4 ⟨a,xs,b,c,q⟩=>sl_list pins s σ H x v vl vu lo hi sl Q I h1 h2 h3 h4 ⟨a,xs,b,c,q⟩
theorem jtup:CallR X (.type "tuple") (JTup X.K):=fun pins s σ H xs us Q I r ⟨p,ys,e,q⟩=>call_tuple_of pins s σ H xs us Q I r ⟨p,ys,e,q⟩
theorem jrep:OpR X (binaryOp .Mult) JRep:=fun pins s σ H x y v u Q I rx ry ⟨l,k,xs,a,b,c,d,e,f,q⟩=>op_rep pins s σ H x y v u Q I rx ry ⟨l,k,xs,a,b,c,d,e,f,q⟩
theorem pvj (i:Nat) {x:Str} {pos:Pos} (hN:X.N[i]? = some x:=by rfl) (hv:Vis X.env.scope x:=by first | exact Or.inl rfl | exact Or.inr (Or.inl rfl) | exact Or.inr (Or.inr rfl)) (hd:(x == ("__debug__" : Str))=false:=by decide)
  (hcd:(x == ("__classdict__" : Str))=false:=by decide):PE X (.Name x pos) (JVar i):=fun pins s σ H Q I ⟨v,e,h⟩=>pe_var hN hv hd hcd pins s σ H Q I ⟨v,e,h⟩
theorem ji {f:Value->Value->Sem Value} {C:Int->Int->Prop} {g:Int->Int->V} (h:OpR X f (rI C g)):OpR X f (JI C g):=fun pins s σ H x y v u Q I rx ry ⟨i,j,hx,hy,c,q⟩=>h pins s σ H x y v u Q I rx ry ⟨i,j,hx,hy,c,q⟩
theorem ji0 {f:Value->Value->Sem Value} {g:Int->Int->V} (h:OpR X f (rI0 g)):OpR X f (JI0 g):=fun pins s σ H x y v u Q I rx ry ⟨i,j,hx,hy,q⟩=>h pins s σ H x y v u Q I rx ry ⟨i,j,hx,hy,q⟩
theorem jix_list:IxR X (JIx (SqL X.K)):=fun a b pins s σ H x y v u Q I rx ry ⟨p,xs,i,w,hx,hy,hs,ha,q⟩=>ix_list a b pins s σ H x y v u Q I rx ry ⟨p,xs,i,w,hx,hy,hs,ha,q⟩
theorem jix_tup:IxR X (JIx (SqT X.K)):=fun a b pins s σ H x y v u Q I rx ry ⟨p,xs,i,w,hx,hy,hs,ha,q⟩=>ix_tup a b pins s σ H x y v u Q I rx ry ⟨p,xs,i,w,hx,hy,hs,ha,q⟩
theorem jcat:OpR X (binaryOp .Add) JCat:=fun pins s σ H x y v u Q I rx ry ⟨l,b,xs,zs,hx,hy,h1,h2,h3,q⟩=>op_cat pins s σ H x y v u Q I rx ry ⟨l,b,xs,zs,hx,hy,h1,h2,h3,q⟩
theorem jlen:CallR X (.builtin "len") (JLen X.K):=fun pins s σ H xs us Q I r ⟨p,ys,e,h,q⟩=>call_len_seq pins s σ H xs us Q I r ⟨p,ys,e,h,q⟩
end
end L2
namespace Sh
open PySem L2
noncomputable def LstI (H:Hp) (v:V) (r:List Int):Prop:=∃ a,v=.ref a/\H a=some (.lst (r.map V.int))
noncomputable abbrev TabV (H:Hp) (vs:List V) (tab:List (List Int)):Prop:=Paired (LstI H) vs tab
theorem LstI.same {H H':Hp} {v:V} {r:List Int} (s:Same H H') (h:LstI H v r):LstI H' v r:=let ⟨a,e,q⟩:=h; ⟨a,e,s _ _ q⟩
theorem TabV.same {H H':Hp} {vs:List V} {tab:List (List Int)} (s:Same H H') (h:TabV H vs tab):TabV H' vs tab:=Paired.mapP h fun _ _ z=>z.same s
noncomputable def SameB (p:Addr) (H H':Hp):Prop:=∀ b o,H b=some o->b≠p->H' b=some o
theorem Same.but {p:Addr} {H H':Hp} (s:Same H H'):SameB p H H':=fun b o e _=>s b o e
theorem SameB.trans {p:Addr} {H H1 H2:Hp} (a:SameB p H H1) (b:SameB p H1 H2):SameB p H H2:=fun c o e n=>b c o (a c o e n) n
theorem sameB_upd (p:Addr) (H:Hp) (o:HO):SameB p H (upd H p o):=fun b u e n=>by rw [upd_ne n]; exact e
noncomputable def NewL (H0 H:Hp) (v:V) (r:List Int):Prop:=∃ a,v=.ref a/\H0 a=none/\H a=some (.lst (r.map V.int))
inductive spC0 (vs:List V) (H:Hp) (Q:VK) (E:XK):Prop
 | mk (i d:Int) (_:vs=[.int i,.int d]) (_:Q (.int i) H):spC0 vs H Q E
noncomputable def spC1:Sp:=fun vs H Q _=>(∃ i d:Int,vs=[.int i,.int d]/\Q (.int i) H)∨
 (∃ (a:Addr) (ns:List Int) (d:Int),vs=[.ref a,.int d]/\1<=d/\H a=some (.lst (ns.map V.int))/\ns.length<=900/\∀ l H',Same H H'->H l=none->H' l=some (.lst (ns.map V.int))->Q (.ref l) H')∨
 (∃ (a:Addr) (ns:List Int) (d:Int),vs=[.ref a,.int d]/\1<=d/\H a=some (.tup (ns.map V.int))/\ns.length<=900/\∀ t H',Same H H'->H t=none->H' t=some (.tup (ns.map V.int))->Q (.ref t) H')
noncomputable def spC2:Sp:=fun vs H Q E=>spC1 vs H Q E∨
 (∃ (a:Addr) (rv:List V) (rows:List (List Int)) (d:Int),vs=[.ref a,.int d]/\2<=d/\H a=some (.lst rv)/\WaysV H rv rows/\rows.length<=900/\(∀ r∈rows,r.length<=900)/\∀ l lv H',Same H H'->H l=none->H' l=some (.lst lv)->WaysV H' lv rows->Q (.ref l) H')∨
 (∃ (a:Addr) (tv:List V) (tab:List (List Int)) (d:Int),vs=[.ref a,.int d]/\2<=d/\H a=some (.lst tv)/\TabV H tv tab/\tab.length<=900/\(∀ r∈tab,r.length<=900)/\∀ l lv H',Same H H'->H l=none->H' l=some (.lst lv)->Paired (NewL H H') lv tab->Q (.ref l) H')
inductive spIsRow (vs:List V) (H:Hp) (Q:VK) (E:XK):Prop
 | mk (a:Addr) (ns:List Int) (n:Nat) (_:vs=[.ref a,.int (n:Int)]) (_:H a=some (.tup (ns.map V.int))) (_:ns.length=n + 1) (_:n<=800) (_:∀ H',Same H H'->Q (.bl true) H'):spIsRow vs H Q E
inductive spIsRoom (vs:List V) (H:Hp) (Q:VK) (E:XK):Prop
 | mk (a:Addr) (rv:List V) (rows:List (List Int)) (n:Nat) (_:vs=[.ref a,.int (n:Int)]) (_:H a=some (.lst rv)) (_:WaysV H rv rows) (_:rows.length<=900) (_:(∀ r∈rows,r.length=n + 1)) (_:n<=800) (_:∀ H',Same H H'->Q (.bl true) H'):spIsRoom vs H Q E
inductive spIsPush (vs:List V) (H:Hp) (Q:VK) (E:XK):Prop
 | mk (a:Addr) (lo hi:Int) (_:vs=[.ref a]) (_:H a=some (.tup [.int lo,.int hi])) (_:lo<=hi) (_:Q (.bl true) H):spIsPush vs H Q E
structure MD where
 rows:List (List Int)
 nexts:List (List Int)
 steer:List Int
 push:List (List Int)
 add:List Int
 div:Int
structure MDOk (m:MD) (n p:Nat):Prop where
 rows:∀ r∈m.rows,r.length=n + 1
 few:m.rows.length<=900
 nexts:m.nexts.length=n/\∀ r∈m.nexts,r.length=n
 steer:m.steer.length=n
 push:m.push.length=n/\∀ r∈m.push,r.length=p
 add:m.add.length=n
 div:1<=m.div
 n3:n<=3
 p6:p<=12
noncomputable def modeF (r n s p a:V) (d:Int):List (Str × V):=[("rows",r),("nexts",n),("steer",s),("push",p),("add",a),("divisor",.int d)]
structure ModeAt (C:Addr) (H:Hp) (o:Addr) (m:MD) where
 dx:Addr
 r:Addr
 rv:List V
 n:Addr
 nv:List V
 s:Addr
 p:Addr
 pv:List V
 a:Addr
structure ModeAt.Ok {C:Addr} {H:Hp} {o:Addr} {m:MD} (M:ModeAt C H o m):Prop where
 ins:H o=some (.ins C M.dx (modeF (.ref M.r) (.ref M.n) (.ref M.s) (.ref M.p) (.ref M.a) m.div))
 hr:H M.r=some (.lst M.rv)
 hrv:WaysV H M.rv m.rows
 hn:H M.n=some (.lst M.nv)
 hnv:TabV H M.nv m.nexts
 hs:H M.s=some (.lst (m.steer.map V.int))
 hp:H M.p=some (.lst M.pv)
 hpv:TabV H M.pv m.push
 ha:H M.a=some (.lst (m.add.map V.int))
noncomputable def ModeV (C:Addr) (H:Hp) (v:V) (m:MD):Prop:=∃ (o:Addr) (M:ModeAt C H o m),v=.ref o/\M.Ok
theorem ModeV.same {C:Addr} {H H':Hp} {v:V} {m:MD} (s:Same H H') (h:ModeV C H v m):ModeV C H' v m:=
 let ⟨o,M,e,k⟩:=h
 ⟨o,⟨M.dx,M.r,M.rv,M.n,M.nv,M.s,M.p,M.pv,M.a⟩,e,⟨s _ _ k.ins,s _ _ k.hr,WaysV.same s k.hrv,s _ _ k.hn,TabV.same s k.hnv,s _ _ k.hs,s _ _ k.hp,TabV.same s k.hpv,s _ _ k.ha⟩⟩
inductive spModeInit (C:Addr) (vs:List V) (H:Hp) (Q:VK) (E:XK):Prop
 | mk (o dx ra na sa pa aa:Addr) (rv nv pv:List V) (m:MD) (n p:Nat) (_:vs=[.ref o,.ref ra,.ref na,.ref sa,.ref pa,.ref aa,.int m.div]) (_:H o=some (.ins C dx [])) (_:MDOk m n p) (_:H ra=some (.lst rv)) (_:WaysV H rv m.rows) (_:H na=some (.lst nv)) (_:TabV H nv m.nexts) (_:H sa=some (.lst (m.steer.map V.int))) (_:H pa=some (.lst pv)) (_:TabV H pv m.push) (_:H aa=some (.lst (m.add.map V.int))) (_:∀ (M:ModeAt C H o m) (H':Hp),SameB o H H'->(ModeAt.mk (C:=C) (H:=H') (o:=o) (m:=m) M.dx M.r M.rv M.n M.nv M.s M.p M.pv M.a).Ok->H M.r=none->H M.n=none->H M.s=none->H M.p=none->H M.a=none->Paired (NewL H H') M.nv m.nexts->Paired (NewL H H') M.pv m.push->Q .non H'):spModeInit C vs H Q E
inductive spIsMode (C:Addr) (vs:List V) (H:Hp) (Q:VK) (E:XK):Prop
 | mk (v:V) (m:MD) (n p:Nat) (_:vs=[v,.int (n:Int),.int (p:Int)]) (_:ModeV C H v m) (_:MDOk m n p) (_:∀ H',Same H H'->Q (.bl true) H'):spIsMode C vs H Q E
noncomputable def PuV (H:Hp) (v:V) (b:Int × Int):Prop:=∃ a,v=.ref a/\H a=some (.tup [.int b.1,.int b.2])
theorem PuV.same {H H':Hp} {v:V} {b:Int × Int} (s:Same H H') (h:PuV H v b):PuV H' v b:=let ⟨a,e,q⟩:=h; ⟨a,e,s _ _ q⟩
structure ThOk (n:Nat) (bs:List (Int × Int)) (ms:List MD):Prop where
 n1:1<=n
 n3:n<=3
 bok:∀ b∈bs,b.1<=b.2
 b6:bs.length<=6
 m1:1<=ms.length
 m40:ms.length<=40
 mok:∀ m∈ms,MDOk m n bs.length
inductive spIsSound (C:Addr) (vs:List V) (H:Hp) (Q:VK) (E:XK):Prop
 | mk (pa ma:Addr) (pv mv:List V) (n:Nat) (bs:List (Int × Int)) (ms:List MD) (_:vs=[.int (n:Int),.ref pa,.ref ma]) (_:H pa=some (.lst pv)) (_:Paired (PuV H) pv bs) (_:H ma=some (.lst mv)) (_:Paired (ModeV C H) mv ms) (_:ThOk n bs ms) (_:∀ H',Same H H'->Q (.bl true) H'):spIsSound C vs H Q E
noncomputable def thingF (n:Int) (p m:V):List (Str × V):=[("many",.int n),("kept_pushes",p),("kept_modes",m)]
structure ThingAt (C CM:Addr) (H:Hp) (o:Addr) (n:Nat) (bs:List (Int × Int)) (ms:List MD) (pv mv:List V) (kp km:Addr):Prop where
 ins:∃ dx,H o=some (.ins C dx (thingF (n:Int) (.ref kp) (.ref km)))
 hp:H kp=some (.lst pv)
 hpv:Paired (PuV H) pv bs
 hm:H km=some (.lst mv)
 hmv:Paired (ModeV CM H) mv ms
theorem ThingAt.same {C CM:Addr} {H H':Hp} {o:Addr} {n:Nat} {bs:List (Int × Int)} {ms:List MD} {pv mv:List V} {kp km:Addr} (s:Same H H') (h:ThingAt C CM H o n bs ms pv mv kp km):ThingAt C CM H' o n bs ms pv mv kp km:=
 ⟨let ⟨dx,e⟩:=h.ins; ⟨dx,s _ _ e⟩,s _ _ h.hp,Paired.mapP h.hpv fun _ _ z=>z.same s,s _ _ h.hm,Paired.mapP h.hmv fun _ _ z=>z.same s⟩
inductive spThingInit (C CM:Addr) (vs:List V) (H:Hp) (Q:VK) (E:XK):Prop
 | mk (o dx pa ma:Addr) (pv mv:List V) (n:Nat) (bs:List (Int × Int)) (ms:List MD) (_:vs=[.ref o,.int (n:Int),.ref pa,.ref ma]) (_:H o=some (.ins C dx [])) (_:H pa=some (.lst pv)) (_:Paired (PuV H) pv bs) (_:H ma=some (.lst mv)) (_:Paired (ModeV CM H) mv ms) (_:ThOk n bs ms) (_:∀ (kp km:Addr) (H':Hp),SameB o H H'->H kp=none->H km=none->kp≠km->H' o=some (.ins C dx (thingF (n:Int) (.ref kp) (.ref km)))->H' kp=some (.lst pv)->H' km=some (.lst mv)->Q .non H'):spThingInit C CM vs H Q E
inductive spPushes (C CM:Addr) (vs:List V) (H:Hp) (Q:VK) (E:XK):Prop
 | mk (o kp km:Addr) (n:Nat) (bs:List (Int × Int)) (ms:List MD) (pv mv:List V) (_:vs=[.ref o]) (_:ThingAt C CM H o n bs ms pv mv kp km) (_:∀ l H',Same H H'->H l=none->H' l=some (.lst pv)->Q (.ref l) H'):spPushes C CM vs H Q E
inductive spModes (C CM:Addr) (vs:List V) (H:Hp) (Q:VK) (E:XK):Prop
 | mk (o kp km:Addr) (n:Nat) (bs:List (Int × Int)) (ms:List MD) (pv mv:List V) (_:vs=[.ref o]) (_:ThingAt C CM H o n bs ms pv mv kp km) (_:∀ l H',Same H H'->H l=none->H' l=some (.lst mv)->Q (.ref l) H'):spModes C CM vs H Q E
theorem kit_self {K:PySem.W.Frag} {C:Addr}:PySem.W.kitOne K (.ref C) (.ref C)=some true:=by
 unfold PySem.W.kitOne
 rw [if_pos (by simp)]
theorem all_true:∀ n:Nat,(List.replicate n true).all id=true
 | 0=>rfl
 | n + 1=>by rw [List.replicate_succ,List.all_cons,all_true n]; rfl
theorem keepB {o:Addr} {H H':Hp} {C dx:Addr} {fs:List (Str × V)} (ho:H o=some (.ins C dx fs)) (s:SameB o H H') {a:Addr} {u:HO} (h:H a=some u) (hu:u≠.ins C dx fs):H' a=some u:=
 s _ _ h fun e=>hu (by rw [e,ho] at h; exact (Option.some.inj h).symm)
theorem freeB {o:Addr} {H H':Hp} (s:SameB o H H') {x:HO} (ho:H' o=some x) {l:Addr} (h:H' l=none):H l=none:=by
 cases e:H l with
 | none=>rfl
 | some u=>
  have n:l≠o:=fun z=>by rw [z,ho] at h; cases h
  rw [s _ _ e n] at h
  cases h
theorem WaysV.keepB {o:Addr} {H H':Hp} {C dx:Addr} {fs:List (Str × V)} (ho:H o=some (.ins C dx fs)) (s:SameB o H H') {vs:List V} {rows:List (List Int)} (h:WaysV H vs rows):WaysV H' vs rows:=
 Paired.mapP h fun _ _ ⟨a,e,q⟩=>⟨a,e,Sh.keepB ho s q fun z=>by cases z⟩
theorem TabV.keepB {o:Addr} {H H':Hp} {C dx:Addr} {fs:List (Str × V)} (ho:H o=some (.ins C dx fs)) (s:SameB o H H') {vs:List V} {tab:List (List Int)} (h:TabV H vs tab):TabV H' vs tab:=
 Paired.mapP h fun _ _ ⟨a,e,q⟩=>⟨a,e,Sh.keepB ho s q fun z=>by cases z⟩
theorem NewL.tab {H0 H:Hp} {vs:List V} {tab:List (List Int)} (h:Paired (NewL H0 H) vs tab):TabV H vs tab:=Paired.mapP h fun _ _ ⟨a,e,_,q⟩=>⟨a,e,q⟩
theorem mode_put (r n s p a:V) (d:Int):putF "divisor" (.int d) (putF "add" a (putF "push" p (putF "steer" s (putF "nexts" n (putF "rows" r [])))))=modeF r n s p a d:=rfl
end Sh
namespace Sh
open PySem L2
noncomputable def off (B:List Addr) (H H':Hp):Prop:=∀ b o,H b=some o->b∉B->H' b=some o
theorem off.refl (B:List Addr) (H:Hp):off B H H:=fun _ _ e _=>e
theorem off.put {B:List Addr} {H H':Hp} {x:Addr} (o:HO) (h:off B H H') (hx:x∈B):off B H (upd H' x o):=fun b u e nb=>by
 rw [upd_ne (fun e'=>by rw [e'] at nb; exact nb hx)]
 exact h b u e nb
theorem off.new {B:List Addr} {H H':Hp} {x:Addr} (o:HO) (h:off B H H') (hx:H' x=none):off B H (upd H' x o):=fun b u e nb=>by
 have z:=h b u e nb
 rw [upd_ne (fun e'=>by rw [e',hx] at z; cases z)]
 exact z
theorem off.trans {B:List Addr} {H H1 H2:Hp} (a:off B H H1) (b:off B H1 H2):off B H H2:=fun c o e n=>b c o (a c o e n) n
theorem off.same {B:List Addr} {H H1 H2:Hp} (a:off B H H1) (b:Same H1 H2):off B H H2:=fun c o e n=>b c o (a c o e n)
theorem off.of {B:List Addr} {H H1:Hp} (s:Same H H1):off B H H1:=fun c o e _=>s c o e
theorem off.cut {A B:List Addr} {H H1:Hp} (h1:off A H H1) (h:∀ x∈A,x∉B->H x=none):off B H H1:=fun b o e n=>h1 _ _ e fun z=>by
 rw [h b z n] at e
 cases e
theorem off.free {B:List Addr} {H H':Hp} (s:off B H H') {l:Addr} (h:H' l=none) (n:l∉B):H l=none:=by
 cases e:H l with
 | none=>rfl
 | some u=>rw [s _ _ e n] at h; cases h
noncomputable def hide (B:List Addr) (H:Hp):Hp:=fun b=>if b∈B then none else H b
theorem hide_sub {B:List Addr} {H:Hp}:Same (hide B H) H:=fun b o h=>by
 unfold hide at h
 by_cases e:b∈B
 ·rw [if_pos e] at h; cases h
 ·rw [if_neg e] at h; exact h
theorem hide_at {B:List Addr} {H:Hp} {b:Addr} (e:b∉B):hide B H b=H b:=by unfold hide; rw [if_neg e]
theorem hide_in {B:List Addr} {H:Hp} {b:Addr} (e:b∈B):hide B H b=none:=by unfold hide; rw [if_pos e]
theorem hide_mem {B:List Addr} {H:Hp} {b:Addr} {o:HO} (h:hide B H b=some o):b∉B:=fun e=>by rw [hide_in e] at h; cases h
theorem hide_off {B:List Addr} {H H':Hp} (s:off B H H'):Same (hide B H) (hide B H'):=fun b o h=>by
 have e:=hide_mem h
 rw [hide_at e] at h |-
 exact s _ _ h e
theorem hide_same {B:List Addr} {H H':Hp} (s:Same H H'):Same (hide B H) (hide B H'):=hide_off fun b o h _=>s _ _ h
theorem hide_fresh {B:List Addr} {H H':Hp} (f:∀ x∈B,H x=none) (s:Same H H'):Same H (hide B H'):=fun b o h=>by
 rw [hide_at (fun e=>by rw [f b e] at h; cases h)]
 exact s _ _ h
theorem same_but {H H1 H2:Hp} {x:Addr} (s:Same H H1) (b:SameB x H1 H2) (n:H x=none):Same H H2:=fun c o e=>b _ _ (s _ _ e) (ne_of_none e n)
theorem same_make {H:Hp} {x dx:Addr} (hx:H x=none) (hdx:H dx=none) (ne:dx≠x) (u o:HO):Same H (upd (upd H dx u) x o):=
 (same_new hdx _).trans (same_new ((upd_ne (Ne.symm ne)).trans hx) _)
end Sh
namespace L2
open PySem PySem.Spec PyProof.Rows
section
variable {X:Cx} {e:Expr}
end
theorem FnOk.no {P:Program} {w:World} {K:PySem.W.Frag} {mg:Str->Option Value} {base:Heap} {CX:CXT} {k:Nat} {f:Addr} {fd:FuncData} {ps:List Str} {sp:Sp} (hn:∀ vs H Q E,¬ sp vs H Q E):FnOk P w K mg base CX k f fd ps sp:=
 ⟨fun _ _ _ _ h=>(hn _ _ _ _ h).elim,fun _ _ _ _ _ _ _ _ _ _ _ _ _ h=>(hn _ _ _ _ h).elim⟩
theorem for_zipE {K:PySem.W.Frag} {a b:Addr} {xs ys:List V} {g:TG} {tb:TS} {D:Ends} {σ:St} {H:Hp} (ha:SqE K H a xs) (hb:SqL K H b ys) (Pv:Nat->St->Hp->Prop) (h0:Pv 0 σ H) (hl:∀ i σ H',i<=xs.length->Pv i σ H'->Same H H') (hlen:xs.length<=ys.length)
  (hs:∀ i x y T σ H,xs[i]? = some x->ys[i]? = some y->H T=none->Pv i σ H->g (.ref T) σ (upd H T (.tup [x,y])) fun σ2 H2=>tb { D with nx:=Pv (i + 1),ct:=Pv (i + 1),bk:=D.nx } σ2 H2) (hd:∀ σ H,Pv xs.length σ H->D.nx σ H) :
  orZ K H a b fun J H'=>∃ W:Nat->Nat->St->Hp->Prop,(∃ m,W 0 m σ H')/\∀ i m σ H,W i m σ H->
   (J.stop i H/\D.nx σ H)\/(J.go i H/\∃ N:St->Hp->Prop,(∀ σ' H',N σ' H'->∃ m',m' < m/\W (i + 1) m' σ' H')/\∀ x H',J.yld i H x H'->g x σ H' fun σ2 H2=>tb { D with nx:=N,ct:=N,bk:=D.nx } σ2 H2):=by
 rcases ha with ha | ha
 ·exact .inl ⟨⟨_,ha⟩,⟨_,hb⟩,for_zip Pv h0 (fun i σ H' hi p=>⟨(hl i σ H' hi p).seqT ha,(hl i σ H' hi p).seq hb⟩) hlen hs hd⟩
 ·exact .inr (.inl ⟨⟨_,ha⟩,⟨_,hb⟩,for_zipL Pv h0 (fun i σ H' hi p=>⟨(hl i σ H' hi p).seq ha,(hl i σ H' hi p).seq hb⟩) hlen hs hd⟩)
end L2
namespace Sh
theorem dvd_co {a b c:Int} (g:Int.gcd a b=1) (h:a ∣ b * c):a ∣ c:=by
 rw [<- Int.natAbs_dvd_natAbs] at h |-
 rw [Int.natAbs_mul] at h
 exact Nat.Coprime.dvd_of_dvd_mul_left (by rw [Int.gcd_eq_natAbs_gcd_natAbs] at g; exact g) h
theorem low_uniq {t b t' b':Int} (h:0 < b) (h':0 < b') (e:t * b'=t' * b):lowT t b=lowT t' b'/\lowB t b=lowB t' b':=by
 have hb:b≠0:=by omega
 have hb':b'≠0:=by omega
 have c1:=low_cross (t:=t) hb
 have c2:=low_cross (t:=t') hb'
 have p1:=lowB_pos (t:=t) hb
 have p2:=lowB_pos (t:=t') hb'
 have g1:=low_gcd (t:=t) hb
 have g2:=low_gcd (t:=t') hb'
 generalize lowT t b=x at *
 generalize lowB t b=y at *
 generalize lowT t' b'=x' at *
 generalize lowB t' b'=y' at *
 have k:x * y'=x' * y:=by
  have z:(x * y') * (b * b')=(x' * y) * (b * b'):=by
   calc (x * y') * (b * b')=(x * b) * (y' * b'):=by grind
    _=(t * y) * (y' * b'):=by rw [c1]
    _=(t * b') * (y * y'):=by grind
    _=(t' * b) * (y * y'):=by rw [e]
    _=(t' * y') * (b * y):=by grind
    _=(x' * b') * (b * y):=by rw [c2]
    _=(x' * y) * (b * b'):=by grind
  have ne:b * b'≠0:=Int.mul_ne_zero hb hb'
  exact Int.eq_of_mul_eq_mul_right ne z
 have d1:y ∣ y':=by
  have:y ∣ x * y':=by rw [k]; exact ⟨x',Int.mul_comm _ _⟩
  have g:Int.gcd y x=1:=by rw [Int.gcd_comm]; exact g1
  exact dvd_co g this
 have d2:y' ∣ y:=by
  have:y' ∣ x' * y:=by rw [<- k]; exact ⟨x,Int.mul_comm _ _⟩
  have g:Int.gcd y' x'=1:=by rw [Int.gcd_comm]; exact g2
  exact dvd_co g this
 have ey:y=y':=by
  have a1:=Int.le_of_dvd p2 d1
  have a2:=Int.le_of_dvd p1 d2
  omega
 subst ey
 exact ⟨Int.eq_of_mul_eq_mul_right (by omega) k,rfl⟩
inductive RT where
 | str (ns:List Int) (a d:Int)
 | stp (t:RT) (lo hi:Int)
 | prt (row:List Int) (x y:RT)
noncomputable def RT.rows:RT->List (List Int)
 | .str _ _ _=>[]
 | .stp t _ _=>t.rows
 | .prt r x y=>[r]++x.rows++y.rows
end Sh
namespace Sh
open PySem L2
theorem bd_gcd {n:Nat} {t b:Int} (h:Bd n b) (hb:b≠0):Bd n (Int.gcd t b:Int):=by
 refine h.of_le ?_
 rw [Int.natAbs_natCast]
 exact Int.gcd_le_natAbs_right t hb
theorem bd_cm {n:Nat} {t b:Int} (h:Bd n b) (hb:b≠0):Bd n (cm t b):=by
 unfold cm
 split
 ·exact (bd_gcd h hb).neg
 ·exact bd_gcd h hb
inductive spCommon (K:PySem.W.Frag) (vs:List V) (H:Hp) (Q:VK) (E:XK):Prop
 | mk (a:Addr) (ns:List Int) (_:vs=[.ref a]) (_:SqT K H a (ns.map V.int)) (_:Q (.int (gcdAll ns)) H):spCommon K vs H Q E
inductive spFraction (vs:List V) (H:Hp) (Q:VK) (E:XK):Prop
 | mk (t b:Int) (_:vs=[.int t,.int b]) (_:b≠0) (_:Bd 8000 b) (_:∀ r H',Same H H'->H' r=some (.tup [.int (lowT t b),.int (lowB t b)])->Q (.ref r) H'):spFraction vs H Q E
inductive spRawE (K:PySem.W.Frag) (vs:List V) (H:Hp) (Q:VK) (E:XK):Prop
 | mk (na pa:Addr) (ws:List Int) (pv:List V) (pts:List (Int × Int)) (_:vs=[.ref na,.ref pa]) (_:SqE K H na (ws.map V.int)) (_:SqL K H pa pv) (_:PtV H pv pts) (_:PtOk pts) (_:RwOk ws pts.length) (_:∀ r H',Same H H'->H' r=some (.tup [.int (alFold ws pts).1,.int (alFold ws pts).2])->Q (.ref r) H'):spRawE K vs H Q E
inductive spDivided (K:PySem.W.Frag) (vs:List V) (H:Hp) (Q:VK) (E:XK):Prop
 | mk (na pa:Addr) (ws:List Int) (pv:List V) (pts:List (Int × Int)) (a d:Int) (_:vs=[.ref na,.ref pa,.int a,.int d]) (_:SqE K H na (ws.map V.int)) (_:SqL K H pa pv) (_:PtV H pv pts) (_:PtOk pts) (_:pts.length<=3) (_:RwOk ws pts.length) (_:Bd 1000 a) (_:0 < d) (_:Bd 1000 d) (_:∀ r H',Same H H'->H' r=some (.tup [.int (lowT ((alFold ws pts).1 + a * (alFold ws pts).2) ((alFold ws pts).2 * d)),.int (lowB ((alFold ws pts).1 + a * (alFold ws pts).2) ((alFold ws pts).2 * d))])->Q (.ref r) H'):spDivided K vs H Q E
theorem al_bd3 {ws:List Int} {pts:List (Int × Int)} (P:PtOk pts) (n3:pts.length<=3) (W:RwOk ws pts.length):Bd 5100 (alFold ws pts).1/\Bd 3001 (alFold ws pts).2:=by
 obtain ⟨a,b⟩:=bd_al pts.length (ws.zip pts) (zip_len W) fun q hq=>(zip_ok P W q hq).2
 exact ⟨a.mono (by omega),b.mono (by omega)⟩
noncomputable def TrOk (n:Nat):RT->Prop
 | .str ns a d=>ns.length=n/\(∀ x∈ns,Bd 300 x)/\Bd 300 a/\0 < d/\Bd 300 d
 | .stp t lo hi=>TrOk n t/\Bd 300 lo/\Bd 300 hi
 | .prt r x y=>(r.length=n + 1/\∀ z∈r,Bd 300 z)/\TrOk n x/\TrOk n y
noncomputable def strF (l:V) (a d:Int):List (Str × V):=[("numbers",l),("add",.int a),("divisor",.int d)]
noncomputable def stpF (u:V) (lo hi:Int):List (Str × V):=[("rule",u),("low",.int lo),("high",.int hi)]
noncomputable def prtF (r u w:V):List (Str × V):=[("row",r),("rule",u),("other",w)]
noncomputable def RuleV (C1 C2 C3:Addr) (H:Hp):V->RT->Prop
 | v,.str ns a d=>∃ o dx la,v=.ref o/\H o=some (.ins C1 dx (strF (.ref la) a d))/\H la=some (.lst (ns.map V.int))
 | v,.stp t lo hi=>∃ o dx u,v=.ref o/\H o=some (.ins C2 dx (stpF u lo hi))/\RuleV C1 C2 C3 H u t
 | v,.prt r x y=>∃ o dx ra u w,v=.ref o/\H o=some (.ins C3 dx (prtF (.ref ra) u w))/\H ra=some (.tup (r.map V.int))/\RuleV C1 C2 C3 H u x/\RuleV C1 C2 C3 H w y
theorem RuleV.same {C1 C2 C3:Addr} {H H':Hp} (s:Same H H'):∀ {t:RT} {v:V},RuleV C1 C2 C3 H v t->RuleV C1 C2 C3 H' v t
 | .str ..,_,⟨o,dx,la,e,h1,h2⟩=>⟨o,dx,la,e,s _ _ h1,s _ _ h2⟩
 | .stp ..,_,⟨o,dx,u,e,h1,h2⟩=>⟨o,dx,u,e,s _ _ h1,RuleV.same s h2⟩
 | .prt ..,_,⟨o,dx,ra,u,w,e,h1,h2,h3,h4⟩=>⟨o,dx,ra,u,w,e,s _ _ h1,s _ _ h2,RuleV.same s h3,RuleV.same s h4⟩
noncomputable def TreeV (H:Hp):V->RT->Prop
 | v,.str ns a d=>∃ o la,v=.ref o/\H o=some (.tup [.str "straight",.ref la,.int a,.int d])/\H la=some (.lst (ns.map V.int))
 | v,.stp t lo hi=>∃ o u,v=.ref o/\H o=some (.tup [.str "stopped",u,.int lo,.int hi])/\TreeV H u t
 | v,.prt r x y=>∃ o ra u w,v=.ref o/\H o=some (.tup [.str "parted",.ref ra,u,w])/\H ra=some (.tup (r.map V.int))/\TreeV H u x/\TreeV H w y
theorem TreeV.same {H H':Hp} (s:Same H H'):∀ {t:RT} {v:V},TreeV H v t->TreeV H' v t
 | .str ..,_,⟨o,la,e,h1,h2⟩=>⟨o,la,e,s _ _ h1,s _ _ h2⟩
 | .stp ..,_,⟨o,u,e,h1,h2⟩=>⟨o,u,e,s _ _ h1,TreeV.same s h2⟩
 | .prt ..,_,⟨o,ra,u,w,e,h1,h2,h3,h4⟩=>⟨o,ra,u,w,e,s _ _ h1,s _ _ h2,TreeV.same s h3,TreeV.same s h4⟩
theorem TrOk.row {n:Nat} {r:List Int} (h:r.length=n + 1/\∀ z∈r,Bd 300 z):RowOk r n:=⟨h.1,fun x hx=>(h.2 x hx).mono (by decide)⟩
theorem TrOk.rows {n:Nat}:∀ {t:RT},TrOk n t->∀ r∈t.rows,r.length=n + 1/\∀ z∈r,Bd 300 z
 | .str ..,_=>fun r hr=>by cases hr
 | .stp ..,h=>fun r hr=>TrOk.rows h.1 r hr
 | .prt q x y,h=>fun r hr=>by
  rcases List.mem_append.mp hr with hr | hr
  ·rcases List.mem_append.mp hr with hr | hr
   ·rw [List.mem_singleton.mp hr]; exact h.1
   ·exact TrOk.rows h.2.1 r hr
  ·exact TrOk.rows h.2.2 r hr
noncomputable def NumsA (H:Hp) (a:Addr):Prop:=∃ ns:List Int,H a=some (.lst (ns.map V.int))/\1<=ns.length
inductive spNum21 (vs:List V) (H:Hp) (Q:VK) (E:XK):Prop
 | mk (x:Int) (_:vs=[.int x]) (_:Bd 200 x) (_:∀ y:Int,Bd 101 y->Q (.int y) H):spNum21 vs H Q E
end Sh
namespace Sh
open PySem L2
theorem cut_any (xs:List Int) (a b:Nat):∃ zs:List Int,cutV (xs.map V.int) (some (a:Int)) (some (b:Int))=zs.map V.int/\zs.length<=b - a:=by
 have e1:HT.sIx (xs.map V.int).length 0 (some (a:Int))=min a (xs.map V.int).length:=HT.sIx_nat _ 0 a
 have e2:HT.sIx (xs.map V.int).length (xs.map V.int).length (some (b:Int))=min b (xs.map V.int).length:=HT.sIx_nat _ _ b
 unfold cutV
 rw [e1,e2,<- List.map_drop,<- List.map_take]
 refine ⟨_,rfl,?_⟩
 rw [List.length_take,List.length_drop,List.length_map]
 omega
theorem bd45 {x:Int} (h:0<=x/\x < 10 ^ 45):Bd 150 x:=by
 have:(10:Int) ^ 45 < 2 ^ 150:=by decide
 show x.natAbs < 2 ^ 150
 omega
noncomputable def puT (b:Int × Int):PyData:=.tuple [.int b.1,.int b.2]
theorem dp_pt {K:PySem.W.Frag} {H:Hp}:∀ {pv:List V} {bs:List (Int × Int)},PtV H pv bs->DpAll K H pv (bs.map puT)
 | _,_,.nil=>.nil
 | _,_,.cons ⟨a,e,h⟩ t=>by
  subst e
  exact .cons (.tup (SqT.of h) (.cons (.int _) (.cons (.int _) .nil))) (dp_pt t)
theorem lay_pt:∀ bs:List (Int × Int),PyData.canLayAll0 (bs.map puT)=true
 | []=>rfl
 | p :: t=>by
  show (true && PyData.canLayAll0 (t.map puT))=true
  rw [lay_pt t]
  rfl
theorem dep_pt:∀ bs:List (Int × Int),PyData.depthAll (bs.map puT)<=1
 | []=>Nat.zero_le _
 | p :: t=>by
  show max (max 0 (max 0 0) + 1) (PyData.depthAll (t.map puT))<=1
  have:=dep_pt t
  omega
theorem dep_pts (bs:List (Int × Int)):PyData.depth (.list (bs.map puT))<=60:=by
 show PyData.depthAll (bs.map puT) + 1<=60
 have:=dep_pt bs
 omega
theorem NumsA.put {H:Hp} {b:Addr} {ns:List Int} (hn:1<=ns.length) {a:Addr} (h:NumsA H a):NumsA (upd H b (.lst (ns.map V.int))) a:=by
 by_cases e:a=b
 ·rw [e]; exact ⟨ns,upd_same,hn⟩
 ·obtain ⟨ms,h1,h2⟩:=h
  exact ⟨ms,(upd_ne e).trans h1,h2⟩
end Sh
namespace L2
open PySem PySem.Spec PyProof.Rows Sh
theorem hide_it {α:Sort _} {p:α->Prop} {a:α} (h:p a):∃ b,b=a/\p b:=⟨a,rfl,h⟩
section
variable {X:Cx}
end
end L2
namespace L2
open PySem PySem.Spec PyProof.Rows
section
variable {P:Program} {w:World} {H:Hp} {h:Heap} {a:Addr}
theorem ObjOk.there {o:HO} (x:ObjOk P w H h a o):∃ ob,h.get? a=some ob:=by
 cases o with
 | lst xs=>obtain ⟨_,_,_,_,e⟩:=x; exact ⟨_,e⟩
 | tup xs=>obtain ⟨_,_,_,p⟩:=x; obtain ⟨ob,e,_⟩:=p; exact ⟨ob,e⟩
 | dK kvs=>obtain ⟨_,_,_,_,ob,_,_,e,_⟩:=x; exact ⟨ob,e⟩
 | dT kvs=>obtain ⟨_,_,_,_,ob,_,_,e,_⟩:=x; exact ⟨ob,e⟩
 | set S n=>obtain ⟨ob,_,_,_,e,_⟩:=x; exact ⟨ob,e⟩
 | ins C dx fs=>obtain ⟨_,_,_,e,_⟩:=x; exact ⟨_,e⟩
 | own y=>exact x
 | xd fs=>obtain ⟨_,⟨ob,_,_,e,_⟩,_⟩:=x; exact ⟨ob,e⟩
 | rng lo hi=>obtain ⟨_,_,_,e⟩:=x; exact ⟨_,e⟩
 | frz ob u=>obtain ⟨e,_⟩:=x; exact ⟨_,e⟩
 | tbl ps=>exact ⟨_,show h.get? a=some _ from x⟩
 | met f y=>exact ⟨_,show h.get? a=some _ from x⟩
 | ext φ=>obtain ⟨_,e,_⟩:=x; exact e
theorem HOk.none_of (x:HOk P w H h) (e:h.get? a=none):H a=none:=by
 cases q:H a with
 | none=>rfl
 | some o=>
  obtain ⟨ob,z⟩:=(x a o q).there
  rw [e] at z
  cases z
theorem HOk.hide {as:List Addr} (x:HOk P w H h) (f:∀ b∈as,H b=none):HOk P w H (PySem.W.hideAll h as):=fun a o e=>
 (x a o e).stay (fun b u hb q=>PySem.W.hideAll_get _ q fun z=>by
  have n:=f b z
  rcases hb with rfl | hb
  ·rw [n] at e; cases e
  ·rw [n] at hb; cases hb) (fun _ q=>q) fun _ _ q=>q
end
structure XL (P:Program) (w:World) (outer:List Env) (H H':Hp) (s s':Shared) (B:Heap) (e:Addr) (cls a0:Value):Prop where
 os:s'.os=s.os
 bare:AllBare s'.gens
 keep:∀ b o,s.heap.get? b=some o->H b=none->b∉frs outer->B.get? b=some o
 slot:∀ b o,s.heap.get? b=some o->H b=none->b∈frs outer->∃ sl,s'.heap.get? b=some { o with slots:=sl }
 free:∀ b o,s.heap.get? b=some o->H b=none->H' b=none
 there:∀ b o,s.heap.get? b=some o->b∉frs outer->∃ o',B.get? b=some o'
 tups:∀ b xs,H b=some (.tup xs)->H' b=some (.tup xs)
 frzs:∀ b o u,H b=some (.frz o u)->H' b=some (.frz o u)
 tbls:∀ b ps,H b=some (.tbl ps)->∃ more,H' b=some (.tbl (ps++more))
 hok:HOk P w H' B
 fly:Heap.FlyingW B outer e cls a0 s'.heap
noncomputable def CX1 (P:Program) (w:World):CXT:=fun outer H s E ev s'=>∃ (e:Addr) (cls a0:Value) (B:Heap) (H':Hp),ev=.ref e/\XL P w outer H H' s s' B e cls a0/\E cls none H'
section
variable {P:Program} {w:World} {outer:List Env} {H H':Hp} {s s':Shared} {B:Heap} {e:Addr} {cls a0:Value}
theorem XL.un (x:XL P w outer H H' s s' B e cls a0):Un (frs outer) [] H H' s.heap s'.heap where
 keep:=fun b o q n hb _=>x.fly.1 b o (x.keep b o q n hb)
 slot:=fun b o q n hb _=>x.slot b o q n hb
 free:=fun b o q n _=>x.free b o q n
 there:=fun b o q _=>by
  by_cases hb:b∈frs outer
  ·obtain ⟨_,o',ho,_⟩:=x.fly.2.2.1.mem hb
   exact ⟨o',ho⟩
  ·obtain ⟨o',ho⟩:=x.there b o q hb
   exact ⟨o',x.fly.1 _ _ ho⟩
 tups:=x.tups
 frzs:=x.frzs
 tbls:=x.tbls
theorem XL.held (x:XL P w outer H H' s s' B e cls a0):HOk P w H' s'.heap:=x.hok.kept x.fly.1
theorem XL.move {h':Heap} {tk:Nat} (x:XL P w outer H H' s s' B e cls a0) (f:Heap.FlyingW B outer e cls a0 h') (u:s'.heap.UpToSlots h'):XL P w outer H H' s { s' with heap:=h',toks:=tk } B e cls a0 where
 os:=x.os
 bare:=x.bare
 keep:=x.keep
 slot:=fun b o q n hb=>by
  obtain ⟨sl,e1⟩:=x.slot b o q n hb
  obtain ⟨_,o',ho,nf⟩:=x.fly.2.2.1.mem hb
  rw [e1] at ho
  cases ho
  obtain ⟨sl',e2⟩:=u b _ e1 nf
  exact ⟨sl',e2⟩
 free:=x.free
 there:=x.there
 tups:=x.tups
 frzs:=x.frzs
 tbls:=x.tbls
 hok:=x.hok
 fly:=f
theorem XL.new (x:XL P w outer H H' s s' B e cls a0):s.heap.get? e=none/\H' e=none/\e∉frs outer:=by
 have nf:e∉frs outer:=fun z=>by
  obtain ⟨_,o,ho,nd⟩:=x.fly.2.2.1.mem z
  obtain ⟨oe,vs,he,_,hd,_⟩:=x.fly.first
  rw [he] at ho
  cases ho
  exact nd _ hd
 refine ⟨?_,x.hok.none_of x.fly.2.1,nf⟩
 cases q:s.heap.get? e with
 | none=>rfl
 | some o=>
  obtain ⟨o',z⟩:=x.there e o q nf
  rw [x.fly.2.1] at z
  cases z
end
section
variable {P:Program} {w:World} {K:PySem.W.Frag} {mg:Str->Option Value} {base:Heap} {N:List Str} {qual:Str} {scope:Scope} {f:Addr} {cd:Value} {A:Around} {outer:List Env} {s:Shared} {H:Hp} {E:XK}
theorem frame_out {X:Cx} {pins:List (Addr × Obj)} {σ:St} {H1:Hp} {s1:Shared} {b:Addr} {o:Obj} (I:Inv X pins σ H1 s1) (q:X.s₀.heap.get? b=some o) (hb:b∉X.fs):b∉frs X.stack:=fun z=>by
 rcases List.mem_cons.mp (I.stkSub b z) with e | z
 ·exact absurd (Nat.lt_of_lt_of_le (Heap.lt_size q) I.ok.above) (by rw [e]; exact Nat.lt_irrefl _)
 ·exact hb z
theorem raised_out {pins:List (Addr × Obj)} {σ:St} {H1:Hp} {s1:Shared} {h2:Heap} {e:Addr} {cls:Value} {args:List Value}
  (I:Inv (cxOf (CX1 P w) P w K mg base N qual scope f cd A outer s H E) pins σ H1 s1) (hx:Heap.MadeExcOf s1.heap h2 e cls args) (q:E cls none H1) :
  (cxOf (CX1 P w) P w K mg base N qual scope f cd A outer s H E).xe (.ref e) { s1 with heap:=h2 }:=by
 have fr:=I.stack
 have fh:=PySem.W.funFrames_hide (as:=frs (cxOf (CX1 P w) P w K mg base N qual scope f cd A outer s H E).stack) fr fun env he b hb=>List.mem_filterMap.mpr ⟨env,he,hb⟩
 refine wpAny_leaves_madeW (base:=PySem.W.hideAll s1.heap (frs (cxOf (CX1 P w) P w K mg base N qual scope f cd A outer s H E).stack)) I.ok.frames rfl (fun b o q=>PySem.W.of_hideAll _ q) fh hx fun h' t x1 x2 x3 x4=>?_
 refine ⟨e,cls,.ref t,_,H1,rfl,⟨I.os,I.bare,fun b o eb n hb=>?_,fun b o eb n hb=>?_,fun b o eb n=>I.base.free b o eb n (by simp [cxOf]),fun b o eb hb=>?_,I.base.tups,I.base.frzs,I.base.tbls,I.hok.hide fun b hb=>I.stkFree b hb,x1⟩,q⟩
 ·exact PySem.W.hideAll_get _ (I.base.keep b o eb n hb (by simp [cxOf])) (frame_out I eb hb)
 ·obtain ⟨sl,e1⟩:=I.base.slot b o eb n hb (by simp [cxOf])
  obtain ⟨_,o',ho,nf⟩:=I.funs.mem hb
  rw [e1] at ho
  cases ho
  obtain ⟨sl',e2⟩:=x4 b _ (hx.keeps _ _ e1) nf
  exact ⟨sl',e2⟩
 ·obtain ⟨o',e1⟩:=I.base.there b o eb (by simp [cxOf])
  exact ⟨o',PySem.W.hideAll_get _ e1 (frame_out I eb hb)⟩
end
theorem exc_obj {K:PySem.W.Frag} {h:Heap} {C:Addr} {bmB:List Value} {newId:String} (X:K.In h) (q:PySem.W.excIn K C bmB newId=true) :
  ∃ bm N nm qn bs hdct sn sub ab col dd k0 k1 k2 k3 k5 mN,h.get? C=some (excClassObj nm qn C N bs bm hdct sn sub ab col dd k0 k1 k2 k3 k5 newId)/\h.Ns N mN/\mN "__init__" = none/\OwnTail h bmB bm:=by
 unfold PySem.W.excIn at q
 split at q
 case h_1 dd cd sl look=>
  split at q
  case h_1 C1 tl k0 k1 k2 k3 made k5 eqm eqs=>
   simp only [Bool.and_eq_true,beq_iff_eq,Bool.not_eq_true'] at q
   obtain ⟨⟨⟨⟨⟨e1,e2⟩,e3⟩,e4⟩,e5⟩,e6⟩:=q
   subst e1 e2
   obtain ⟨nm,bs,mro,ns,qn,hd,sn,sub,ab,col,del⟩:=cd
   obtain ⟨sll⟩:=sl
   dsimp only at eqm e3 e5 e6 eqs
   subst eqm e3 eqs
   exact ⟨tl,ns,nm,qn,bs,hd,sn,sub,ab,col,dd,k0,k1,k2,k3,k5,h.nsMap ns,X _ _ look,.of_isNs (PySem.W.isNs_of_in X e5),PySem.W.nsMap_none_of_in X e5 e6,PySem.W.tail_of_in X e4⟩
  all_goals cases q
 all_goals cases q
noncomputable abbrev bmV:List Value:=[.type "ValueError",.type "Exception",.type "BaseException",.type "object"]
noncomputable def tRaise (C:Addr) (E:XK) (ta:TA):TS:=fun _ σ H=>ta σ H fun vs H1=>vs.length<=sizeLine/\E (.ref C) none H1
noncomputable def Raises (X:Cx) (E:XK):Prop:=∀ (pins:List (Addr × Obj)) (σ:St) (H:Hp) (s:Shared) (h':Heap) (e:Addr) (cls:Value) (args:List Value),Inv X pins σ H s->Heap.MadeExcOf s.heap h' e cls args->E cls none H->X.xe (.ref e) { s with heap:=h' }
theorem ps_raise {X:Cx} {C:Addr} {E:XK} {x:Str} {np cpos pos:Pos} {e0:Expr} {es:List Expr} {ta:TA} (R:Raises X E) (hC:PySem.W.excIn X.K C bmV "ValueError.__new__" = true) (hg:Gl X x) (hm:X.mg x=some (.ref C)) (hc:X.calm=true) (ha:PA X (e0 :: es) ta)
  (hdb:(x == ("__debug__" : Str))=false:=by decide) (he:starEach (e0 :: es) X.env=(false,eval e0 X.env) :: starEach es X.env:=by rfl) (hpl:(backTo cpos (starEach es X.env)).any (·.1)=false:=by rfl) :
  PS X (.Raise (some (.Call (.Name x np) (e0 :: es) [] cpos)) none pos) (tRaise C E ta):=by
 intro pins s σ H D I h
 obtain ⟨bm,N,nm,qn,bs,hdct,sn,sub,ab,col,dd,k0,k1,k2,k3,k5,mN,oC,oN,oi,oT⟩:=exc_obj I.ok.mod.kin hC
 have hp:(backTo cpos (starEach (e0 :: es) X.env)).any (·.1)=false:=by
  rw [he]
  show (false || (backTo cpos (starEach es X.env)).any (·.1))=false
  rw [hpl]
  rfl
 refine wpAny_Raise_call_subT (C:=C) (nm:=nm) (q:=qn) (N:=N) (bs:=bs) (bm:=bm) (hdct:=hdct) (sn:=sn) (sub:=sub) (ab:=ab) (col:=col) (dd:=dd) (k0:=k0) (k1:=k1) (k2:=k2) (k3:=k3) (k5:=k5) PySem.F.excBase_ValueError (mN:=mN)
  (oT.hasType PySem.F.excBase_ValueError.hasBase) (I.ok.hd hc) hp oi (ld_glob I hg hm ⟨rfl,?_⟩ hdb)
 have ha':=ha cpos pins s σ H _ I h
 rw [he] at ha' |-
 refine Calls.evalArgs_plain (thn ha' fun us s2 ⟨vs,H1,I2,r,hl,qE⟩=>?_)
 exact ⟨rfl,(by rw [<- r.length]; exact hl),I2.bk _ _ oC,oN.keeps I2.bk,oT.keeps I2.bk,fun h' e hm'=>R pins σ H1 s2 h' e _ _ I2 hm' qE⟩
section
variable {P:Program} {w:World} {K:PySem.W.Frag} {mg:Str->Option Value} {base:Heap}
theorem Fun.okX {x qual:Str} {st:Stmt} {f:Addr} {fd:FuncData} {N ps:List Str} {k:Nat} {sp:Sp} (F:Fun K x qual st f fd) (S:FnScope N ps (defScope st)) (len:∀ vs H Q E,sp vs H Q E->vs.length=ps.length)
  (hbody:∀ (cdv:Value) (A:Around) (outer:List Env) (s:Shared) (H:Hp) (vs:List V) (Q:VK) (E:XK),Room k (A.deeper (envOfC qual (defScope st) s.heap.objs.size f cdv))->sp vs H Q E->
   ∃ t,PSs (cxOf (CX1 P w) P w K mg base N qual (defScope st) f cdv A outer s H E) (defBody st) t/\t { nx:=fun _ H'=>Q .non H',rt:=Q } (start N vs) H):FnOk P w K mg base (CX1 P w) (k + 1) f fd ps sp:=by
 obtain ⟨oc,od,kV,doc,pm,an,cdv,ct,osl,rfl,lk,hcd⟩:=F.ex
 exact fn_of lk hcd S len fun A outer s H vs Q E hr hsp=>hbody cdv A outer s H vs Q E hr hsp
theorem FunD.okX {x qual:Str} {st:Stmt} {f:Addr} {fd:FuncData} {d:Value} {N ps:List Str} {k:Nat} {sp:Sp} (F:FunD K x qual st f fd d) (S:FnScope N ps (defScope st)) (len:∀ vs H Q E,sp vs H Q E->vs.length=ps.length)
  (hbody:∀ (cdv:Value) (A:Around) (outer:List Env) (s:Shared) (H:Hp) (vs:List V) (Q:VK) (E:XK),Room k (A.deeper (envOfC qual (defScope st) s.heap.objs.size f cdv))->sp vs H Q E->
   ∃ t,PSs (cxOf (CX1 P w) P w K mg base N qual (defScope st) f cdv A outer s H E) (defBody st) t/\t { nx:=fun _ H'=>Q .non H',rt:=Q } (start N vs) H):FnOk P w K mg base (CX1 P w) (k + 1) f fd ps sp:=by
 obtain ⟨oc,od,kV,doc,pm,an,cdv,ct,osl,T,oT,n,rfl,lk,hcd,_⟩:=F.ex
 exact fn_of lk hcd S len fun A outer s H vs Q E hr hsp=>hbody cdv A outer s H vs Q E hr hsp
structure FnX (P:Program) (w:World) (K:PySem.W.Frag) (mg:Str->Option Value) (base:Heap) (x:Str) (ps:List Str) (k:Nat) (sp:Sp):Prop where
 ex:∃ f fd,FnOk P w K mg base (CX1 P w) k f fd ps sp/\mg x=some (.ref f)/\PySem.W.keepIn K (.ref f)=true/\Binds K fd ps []
theorem FnX.mono {x:Str} {ps:List Str} {j k:Nat} {sp:Sp} (F:FnX P w K mg base x ps j sp) (h:j<=k):FnX P w K mg base x ps k sp:=by
 obtain ⟨f,fd,a,b,c,d⟩:=F.ex
 exact ⟨f,fd,a.mono h,b,c,d⟩
end
noncomputable def ExcO (e C:Addr):HO:=.ext fun h=>∃ oe vs,h.get? e=some oe/\oe.cls=.ref C/\oe.data=.fields vs
theorem isinst_exc {K:PySem.W.Frag} {prog:Program} {w:World} {A:Around} {E:Value->Shared->Prop} {s:Shared} {Q:Value->Shared->Prop} {e C:Addr} {c:Value} {oe:Obj} (X:K.In s.heap) (he:s.heap.get? e=some oe) (hc:oe.cls=.ref C)
  (kx:PySem.W.kitOne K (.ref C) c=some true) (h:∀ tk,Q (.bool true) { s with toks:=tk }):wpAny (model prog w) A (call (.builtin "isinstance") [.ref e,c]) Q E s:=by
 refine call_isinstance (S:=fun _ R s=>(K.In s.heap/\∃ oe,s.heap.get? e=some oe/\oe.cls=.ref C)/\∀ tk,R (.ok (.ret (.bool true))) { s with toks:=tk }) (fun prog w A R s hs=>isinstance_outer ?_ (fun z=>nomatch z)) ⟨⟨X,oe,he,hc⟩,h⟩
 obtain ⟨h0,g,d,tt,os⟩:=s
 obtain ⟨⟨X,oe,he,hc⟩,hq⟩:=hs
 have LT:PySem.W.Looks (model prog w) h0 (typeOf (.ref e)) (.ref C):=by
  intro A' Q' E' s' k q
  unfold typeOf
  dsimp only
  exact wpAny_bind (wpAny_loadPart (k _ _ he) (wpAny_pure (by rw [hc]; exact q)))
 unfold PySem.W.kitOne at kx
 unfold Builtin.«isinstance.nested»
 refine wpAny_bind (LT.at ?_)
 by_cases same:(Value.ref C == c)=true
 ·rw [if_pos same]
  first
   | ((repeat lk); exact hq tt)
   | exact wpAny_bind (wpAny_rule (hq tt))
   | exact wpAny_bind (wpAny_rule (wpAny_pure (hq tt)))
 ·rw [if_neg same] at kx
  rw [if_neg same]
  obtain ⟨l1,l2,l3⟩:=PySem.W.kit_cls (M:=model prog w) X kx
  have LI:PySem.W.Looks (model prog w) h0 (isInstance (.ref e) c) true:=LT.andThen l3
  refine wpAny_bind (l1.at ?_)
  rw [if_pos (by decide)]
  k_delta "plainIsInstance"
  refine wpAny_bind (wpAny_bind (l2.at ?_))
  simp only [Bool.not_true,Bool.false_eq_true,if_false]
  refine wpAny_bind (LI.at ?_)
  first
   | exact wpAny_pure (wpAny_pure (hq tt))
   | (simp only [if_true]; first | exact wpAny_pure (wpAny_pure (hq tt)) | exact wpAny_pure (hq tt) | exact wpAny_bind (wpAny_pure (wpAny_pure (hq tt))))
section
variable {X:Cx}
noncomputable def rInstX (K:PySem.W.Frag):List V->Hp->VK->Prop:=fun xs H Q=>∃ e C c,xs=[.ref e,.ty c]/\H e=some (ExcO e C)/\PySem.W.kitOne K (.ref C) (.type c)=some true/\Q (.bl true) H
theorem call_isinstX:CallR X (.builtin "isinstance") (rInstX X.K):=by
 intro pins s σ H xs us Q I r h
 obtain ⟨e,C,c,rfl,he,kx,q⟩:=h
 obtain ⟨u,v,rfl,ru,rv⟩:=vals2 r
 cases (show v=Value.type c from rv)
 cases (show u=Value.ref e from ru)
 obtain ⟨⟨oe,vs,h1,h2,_⟩,_⟩:=(show ObjOk X.prog X.w H s.heap e (ExcO e C) from I.hok e _ he)
 exact isinst_exc I.kIn h1 h2 kx fun tk=>⟨.bl true,H,I.tok tk,rfl,q⟩
end
noncomputable abbrev Cx.mark (X:Cx) (e:Addr):Cx:={ X with A:=X.A.mark (some (.ref e)),calm:=false,xe:=fun _ _=>False }
section
variable {X:Cx} {pins:List (Addr × Obj)} {σ:St} {H:Hp} {s:Shared} {e:Addr}
theorem Inv.mark (I:Inv X pins σ H s) (e:Addr):Inv (X.mark e) pins σ H s:=
 ⟨⟨I.ok.mod,I.ok.kind,I.ok.glob,I.ok.blt,I.ok.above,I.ok.inj,I.ok.has,I.ok.cab,fun z=>(nomatch z),I.ok.frames,I.ok.stk,I.ok.exf,I.ok.bs,I.ok.bsz,I.ok.noex,I.ok.exfs,I.ok.funs,I.ok.frf⟩,I.os,I.bare,I.base,I.loc,I.cell,I.free,I.freeC,I.pin,I.hok,I.len⟩
theorem Inv.unmark (hh:X.calm=true->X.A.handled=none) (I:Inv (X.mark e) pins σ H s):Inv X pins σ H s:=
 ⟨⟨I.ok.mod,I.ok.kind,I.ok.glob,I.ok.blt,I.ok.above,I.ok.inj,I.ok.has,I.ok.cab,hh,I.ok.frames,I.ok.stk,I.ok.exf,I.ok.bs,I.ok.bsz,I.ok.noex,I.ok.exfs,I.ok.funs,I.ok.frf⟩,I.os,I.bare,I.base,I.loc,I.cell,I.free,I.freeC,I.pin,I.hok,I.len⟩
theorem Inv.track {o:HO} (I:Inv X pins σ H s) (hn:H e=none) (h0:e∈X.ex\/X.s₀.heap.get? e=none) (hL:e≠X.env.locals) (hc:∀ x c,X.env.cells.lookup x=some c->c≠e) (hp:∀ p∈X.pn++pins,p.1≠e)
  (new:ObjOk X.prog X.w (upd H e o) s.heap e o):Inv X pins σ (upd H e o) s:=by
 have ne:∀ b u,H b=some u->b≠e:=fun b u q=>ne_of_none q hn
 refine ⟨I.ok,I.os,I.bare,⟨I.base.keep,I.base.slot,fun b ob q n hx=>?_,I.base.there,fun b xs q=>?_,fun b ob u q=>?_,fun b ps q=>?_⟩,I.loc,I.cell,?_,fun x c q=>?_,fun p hq=>?_,fun b u q=>?_,I.len⟩
 ·rw [upd_ne fun z=>?_]
  ·exact I.base.free b ob q n hx
  ·subst z
   rcases h0 with z | z
   ·exact hx z
   ·rw [q] at z; cases z
 ·have z:=I.base.tups b xs q
  rw [upd_ne (ne _ _ z)]
  exact z
 ·have z:=I.base.frzs b ob u q
  rw [upd_ne (ne _ _ z)]
  exact z
 ·obtain ⟨m,z⟩:=I.base.tbls b ps q
  exact ⟨m,by rw [upd_ne (ne _ _ z)]; exact z⟩
 ·rw [upd_ne (Ne.symm hL)]
  exact I.free
 ·rw [upd_ne (hc x c q)]
  exact I.freeC x c q
 ·obtain ⟨a1,a2,a3,a4,a5⟩:=I.pin p hq
  exact ⟨a1,by rw [upd_ne (hp p hq)]; exact a2,a3,a4,a5⟩
 ·by_cases z:b=e
  ·subst z
   rw [upd_same] at q
   cases q
   exact new
  ·rw [upd_ne z] at q
   exact (I.hok b u q).stay (fun _ _ _ r=>r) (fun c r=>by rw [upd_ne (ne _ _ r)]; exact r) fun c xs r=>by rw [upd_ne (ne _ _ r)]; exact r
end
noncomputable def PEX (X:Cx) (ex:Expr) (t:XK->TE):Prop:=
 ∀ (pins:List (Addr × Obj)) (s:Shared) (σ:St) (H:Hp) (Q:VK) (E:XK),Inv X pins σ H s->t E σ H Q->
  wpAny (model X.prog X.w) X.A (eval ex X.env) (EP X pins σ Q) (fun ev s'=>∃ (s1:Shared) (H1 H2:Hp) (e:Addr) (cls a0:Value) (B:Heap),Inv X pins σ H1 s1/\ev=.ref e/\XL X.prog X.w X.stack H1 H2 s1 s' B e cls a0/\E cls none H2) s
theorem pex_callF {X:Cx} {x:Str} {ps:List Str} {k:Nat} {sp:Sp} {e:Expr} {es:List Expr} {t:TA} {p pos:Pos} (F:FnX X.prog X.w X.K X.mg X.base x ps k sp) (hr:Room k X.A) (hg:Gl X x) (ha:PA X.nox (e :: es) t)
  (hdb:(x == ("__debug__" : Str))=false:=by decide) (he:starEach (e :: es) X.env=(false,eval e X.env) :: starEach es X.env:=by rfl) (hpl:(backTo pos (starEach es X.env)).any (·.1)=false:=by rfl) :
  PEX X (.Call (.Name x p) (e :: es) [] pos) (fun E=>tCall sp [] E t):=by
 intro pins s σ H Q E I h
 obtain ⟨f,fd,Fk,hm,hk,hb⟩:=F.ex
 refine wpAny_Call_Name_kw (ld_glob I hg hm ?_ hdb)
 refine PySem.W.callWith_K (h₀:=X.base) I.ok.mod.kin hk (wpAny_mono (ha pos pins s σ H _ (I.wish _) h) (fun us s1 ⟨vs,H1,I1,r,q⟩=>⟨I1.unwish.kIn,?_⟩) fun _ _ z=>False.elim z) he hpl
 have I1':=I1.unwish
 have r2:Vals (vs++[]) (us++[]):=r.append .nil
 have hl:(us++[]).length=ps.length:=by rw [<- r2.length]; exact Fk.len _ _ _ _ q
 refine wpAny_call (codeAny_mono (Fk.run X.A X.stack s1 H1 ⟨us,[]⟩ (us++[]) (vs++[]) Q E hr I1'.env0 (hb s1 us I1'.kIn hl) r2 q) fun r s' hq=>?_)
 cases r with
 | error ev=>
  obtain ⟨ee,cls,a0,B,H2,rfl,x,qE⟩:=hq
  exact ⟨s1,H1,H2,ee,cls,a0,B,I1',rfl,x,qE⟩
 | ok fl=>
  cases fl with
  | ret u=>exact I1'.after hq
  | next=>exact False.elim hq
  | brk=>exact False.elim hq
  | cont=>exact False.elim hq
end L2
namespace L2
open PySem PySem.Spec PyProof.Rows
noncomputable def XP (X:Cx) (pins:List (Addr × Obj)) (ES:St->XK) (ev:Value) (s':Shared):Prop:=
 ∃ (σ1:St) (s1:Shared) (H1 H2:Hp) (e:Addr) (cls a0:Value) (B:Heap),Inv X pins σ1 H1 s1/\ev=.ref e/\XL X.prog X.w X.stack H1 H2 s1 s' B e cls a0/\ES σ1 cls none H2
noncomputable abbrev TX:=(St->XK)->TS
noncomputable def PSX (X:Cx) (st:Stmt) (t:TX):Prop:=∀ (pins:List (Addr × Obj)) (s:Shared) (σ:St) (H:Hp) (D:Ends) (ES:St->XK),Inv X pins σ H s->t ES D σ H->wpAny (model X.prog X.w) X.A (exec st X.env) (SP X pins D) (XP X pins ES) s
noncomputable def PSXs (X:Cx) (ss:List Stmt) (t:TX):Prop:=∀ (pins:List (Addr × Obj)) (s:Shared) (σ:St) (H:Hp) (D:Ends) (ES:St->XK),Inv X pins σ H s->t ES D σ H->wpAny (model X.prog X.w) X.A (execs ss X.env) (SP X pins D) (XP X pins ES) s
section
variable {X:Cx} {call:Expr} {tb:XK->TE} {pos pos':Pos}
theorem psx_expr (hb:PEX X call tb) (hs:swapsWith call none pos.line X.env=pure false:=by rfl):PSX X (.Expr call pos) (fun ES D σ H=>tb (ES σ) σ H fun _ H1=>D.nx σ H1):=by
 intro pins s σ H D ES I h
 refine wpAny_Expr_any (wpAny_mono (hb pins s σ H _ _ I h) (fun v s1 ⟨y,H1,I1,r1,q1⟩=>⟨σ,H1,I1,q1⟩) fun ev s1 ⟨s0,H1,H2,e,cls,a0,B,I0,e1,xl,q⟩=>⟨σ,s0,H1,H2,e,cls,a0,B,I0,e1,xl,q⟩) I.quiet hs
theorem psxs_nil:PSXs X [] (fun _ D σ H=>D.nx σ H):=fun _ _ σ H _ _ I h=>wpAny_execs_nil ⟨σ,H,I,h⟩
theorem psxs_cons {st:Stmt} {ss:List Stmt} {t u:TX} (h1:PSX X st t) (h2:PSXs X ss u):PSXs X (st :: ss) (fun ES D σ H=>t ES { D with nx:=u ES D } σ H):=by
 intro pins s σ H D ES I h
 refine wpAny_execs_cons (wpAny_mono (h1 pins s σ H _ ES I h) (fun f s1 q=>?_) fun _ _ z=>z)
 cases f with
 | next=>obtain ⟨σ',H',I',q'⟩:=q; exact h2 pins s1 σ' H' D ES I' q'
 | brk=>exact q
 | cont=>exact q
 | ret u=>exact q
end
theorem Inv.gone {X:Cx} {pins:List (Addr × Obj)} {σ8:St} {H8:Hp} {s8:Shared} {h9:Heap} {i:Nat} {n:Str} {m8:Str->Option Value} {v9:Option Value} {tk:Nat} (I8':Inv X pins σ8 H8 s8) (hN:X.N.Nodup) (hi:X.N[i]? = some n)
  (hl8:∀ (i:Nat) (x:Str) (v:V),X.N[i]? = some x->σ8[i]? = some (some v)->Vis X.env.scope x->∃ u,RelV v u/\Look X.env s8.heap m8 x u)
  (hn9:h9.Ns X.env.locals (fun y=>if y=n then v9 else m8 y)) (keep9:∀ b o,b≠X.env.locals->s8.heap.get? b=some o->h9.get? b=some o):Inv X pins (σ8.set i none) H8 { s8 with heap:=h9,toks:=tk }:=by
 have iσ:i < σ8.length:=by rw [I8'.len]; exact (List.getElem?_eq_some_iff.mp hi).1
 refine ⟨I8'.ok,I8'.os,I8'.bare,⟨fun b o q n hb hx=>?_,fun b o q n hb hx=>?_,I8'.base.free,fun b o q hx=>?_,I8'.base.tups,I8'.base.frzs,I8'.base.tbls⟩,⟨_,hn9,fun j y v e1 e2 e3=>?_⟩,fun y c q=>?_,I8'.free,I8'.freeC,fun p hp=>?_,fun b u q=>?_,by rw [List.length_set]; exact I8'.len⟩
 ·exact keep9 b o (Nat.ne_of_lt (Nat.lt_of_lt_of_le (Heap.lt_size q) I8'.ok.above)) (I8'.base.keep b o q n hb hx)
 ·obtain ⟨sl,e1⟩:=I8'.base.slot b o q n hb hx
  exact ⟨sl,keep9 b _ (Nat.ne_of_lt (Nat.lt_of_lt_of_le (Heap.lt_size q) I8'.ok.above)) e1⟩
 ·obtain ⟨o',e1⟩:=I8'.base.there b o q hx
  exact ⟨o',keep9 b _ (Nat.ne_of_lt (Nat.lt_of_lt_of_le (Heap.lt_size q) I8'.ok.above)) e1⟩
 ·by_cases hj:j=i
  ·subst hj
   rw [List.getElem?_set_self iσ] at e2
   cases e2
  ·rw [List.getElem?_set_ne (Ne.symm hj)] at e2
   obtain ⟨u,r,l⟩:=hl8 j y v e1 e2 e3
   refine ⟨u,r,?_⟩
   have yn:y≠n:=fun z=>hj (nodup_ix hN e1 (z ▸ hi))
   rcases l with ⟨k,l⟩ | ⟨k,c,l1,o,l2,l3⟩
   ·exact .inl ⟨k,(if_neg yn).trans l⟩
   ·exact .inr ⟨k,c,l1,o,keep9 _ _ (I8'.cne y c l1) l2,l3⟩
 ·obtain ⟨v,o,l2,l3⟩:=I8'.cell y c q
  exact ⟨v,o,keep9 _ _ (I8'.cne y c q) l2,l3⟩
 ·obtain ⟨a1,a2,a3,a4,a5⟩:=I8'.pin p hp
  exact ⟨keep9 _ _ a3 a1,a2,a3,a4,a5⟩
 ·refine (I8'.hok b u q).stay (fun c v hc r=>keep9 c v (fun z=>?_) r) (fun _ r=>r) fun _ _ r=>r
  rcases hc with z1 | z1
  ·rw [<- z1,z,I8'.free] at q
   cases q
  ·rw [z,I8'.free] at z1
   cases z1
noncomputable def tTryG (K:PySem.W.Frag) (Cb:Addr) (i:Nat) (tb:TX) (th:TS):TS:=fun D σ H=>
 tb (fun σ1 cls _ H2=>∃ C,cls=.ref C/\PySem.W.exmOne K (.ref C) (.ref Cb)=some true/\∀ e,H2 e=none->
  th { nx:=fun σ' H'=>D.nx (σ'.set i none) H',rt:=D.rt,bk:=fun σ' H'=>D.bk (σ'.set i none) H',ct:=fun σ' H'=>D.ct (σ'.set i none) H' } (σ1.set i (some (.ref e))) (upd H2 e (ExcO e C))) D σ H
theorem ps_tryG {X:Cx} {Cb:Addr} {x n:Str} {i:Nat} {body:List Stmt} {tb:TX} {th:TS} {b₀:Stmt} {suite:List Stmt} {np hpos pos:Pos} (hg:Gl X x) (hm:X.mg x=some (.ref Cb)) (hc:X.calm=true)
  (hf:X.env.frame=some X.env.locals) (hst:X.stack=X.env :: X.outer) (hN:X.N.Nodup) (hi:X.N[i]? = some n) (hn:X.env.scope.names.lookup n=some .local) (hb:PSXs X body tb) (hh:∀ e,PSs (X.mark e) (b₀ :: suite) th)
  (hdb:(x == ("__debug__" : Str))=false:=by decide) :
  PS X (.Try body [.ExceptHandler (some (.Name x np)) (some n) (b₀ :: suite) hpos] [] [] pos) (tTryG X.K Cb i tb th):=by
 intro pins s σ H D I h
 refine wpAny_Try_except (wpAny_mono (hb pins s σ H D _ I h) (fun fl s1 q1=>?_) fun ev s1 hx=>?_)
 ·cases fl with
  | next=>exact wpAny_execs_nil q1
  | brk=>exact q1
  | cont=>exact q1
  | ret u=>exact q1
 obtain ⟨σ1,s0,H1,H2,e,cls,a0,B,I0,rfl,xl,C,rfl,hx,q⟩:=hx
 have hfr:X.A.frames=some (X.env :: X.outer):=by rw [<- hst]; exact I.ok.frames
 have xl':XL X.prog X.w (X.env :: X.outer) H1 H2 s0 s1 B e (.ref C) a0:=by rw [<- hst]; exact xl
 have behind:∀ {h':Heap} {tk:Nat},XL X.prog X.w (X.env :: X.outer) H1 H2 s0 { s1 with heap:=h',toks:=tk } B e (.ref C) a0->Inv X pins σ1 H2 { s1 with heap:=h',toks:=tk }:=fun {h' tk} z=>by
  have z':XL X.prog X.w X.stack H1 H2 s0 { s1 with heap:=h',toks:=tk } B e (.ref C) a0:=by rw [hst]; exact z
  exact I0.call' (ch:=[]) z'.os z'.un z'.held z'.bare fun b hb=>absurd hb (by simp)
 have hE:∀ (Y:Around) (v:Value) (sx:Shared),False->notedBy (model X.prog X.w) Y X.env (cameBackBy (model X.prog X.w) X.A X.env X.xe) v sx:=fun _ _ _ z=>z.elim
 refine wpAny_looks_onW hfr hf xl'.fly fun h4 held4 up4=>?_
 refine wpAny_landsW held4 fun h5 fly5 up5=>?_
 have x5:=xl'.move (tk:=s1.toks) fly5 (up4.trans up5)
 have I5:=behind x5
 refine wpAny_handleBy_cons (codeAny_handlers_test (ld_glob (I5.mark e) hg hm ?_ hdb)) (by intro q; cases q)
 obtain ⟨oe,ws,he,hcl,hd,_⟩:=fly5.first
 have LT:PySem.W.Looks (model X.prog X.w) h5 (typeOf (.ref e)) (.ref C):=hcl ▸ (PySem.W.Looks.ld he).andThen .now
 refine (PySem.W.exm_one (K:=X.K) I5.kIn LT hx).here (codeAny_handlers_suite_as ?_)
 refine lands_againW (s:={ s1 with heap:=h5 }) fly5 fun h6 fly6 up6=>?_
 have x6:=xl'.move (tk:=s1.toks) fly6 ((up4.trans up5).trans up6)
 have I6:=behind x6
 obtain ⟨oe6,ws6,he6,hcl6,hd6,_⟩:=fly6.first
 obtain ⟨new,hH,nfr⟩:=xl.new
 have eL:e≠X.env.locals:=fun z=>nfr (by
  rw [hst]
  unfold frs
  rw [List.filterMap_cons,hf,z]
  exact List.mem_cons_self)
 have J6:Inv X pins σ1 (upd H2 e (ExcO e C)) { s1 with heap:=h6,toks:=s1.toks }:=by
  refine I6.track hH ?_ eL (fun y c q z=>?_) (fun p hp z=>?_) ⟨⟨oe6,ws6,he6,hcl6,hd6⟩,⟨oe6,he6⟩,fun g1 g2 ⟨o,v,p1,p2,p3⟩ k=>⟨o,v,k _ p1,p2,p3⟩⟩
  ·by_cases hx:e∈X.ex
   ·exact .inl hx
   ·refine .inr ?_
    cases q:X.s₀.heap.get? e with
    | none=>rfl
    | some o=>
     obtain ⟨o',z⟩:=I0.base.there e o q hx
     rw [new] at z
     cases z
  ·obtain ⟨v,o,ho,_⟩:=I0.cell y c q
   rw [z,new] at ho
   cases ho
  ·have z1:=(I0.pin p hp).1
   rw [z,new] at z1
   cases z1
 refine store_ok (X:=X.mark e) (J6.mark e) hN hi (.inl hn) (v:=.ref e) rfl (fun s7 I7=>?_) (.inr hn)
 refine wpAny_mono (hh e pins s7 _ _ _ I7 (q e hH)) (fun fl s8 h8=>?_) fun _ _ z=>False.elim z
 have hcls:(X.env.scope.kind == .class || (X.env.scope.kind == .module && X.env.locals != X.env.globals))=false:=by rw [I.ok.kind]; rfl
 have goes:∀ {σ8:St} {H8:Hp} {R:Shared->Prop},Inv (X.mark e) pins σ8 H8 s8->(∀ s9,Inv X pins (σ8.set i none) H8 s9->R s9)->wpAny (model X.prog X.w) X.A (do bindName X.env n .none; unbindBehindTheSuite X.env n hpos) (fun _ s9=>R s9) X.xe s8:=fun {σ8 H8 R} I8 q=>by
  have I8':Inv X pins σ8 H8 s8:=I8.unmark fun z=>I.ok.hd z
  obtain ⟨m8,hn8,hl8⟩:=id I8'.loc
  refine wpAny_nameGoes_keeps hn hn8 hcls fun h9 v9 hn9 sb9=>?_
  exact q _ (I8'.gone hN hi hl8 hn9 fun b o nb q=>(sb9.2 b nb).trans q)
 cases fl with
 | ret u=>obtain ⟨v,σ8,H8,I8,r8,q8⟩:=h8; exact goes I8 fun s9 I9=>⟨v,_,H8,I9,r8,q8⟩
 | brk=>obtain ⟨σ8,H8,I8,q8⟩:=h8; exact goes I8 fun s9 I9=>⟨_,H8,I9,q8⟩
 | cont=>obtain ⟨σ8,H8,I8,q8⟩:=h8; exact goes I8 fun s9 I9=>⟨_,H8,I9,q8⟩
 | next=>obtain ⟨σ8,H8,I8,q8⟩:=h8; exact goes I8 fun s9 I9=>⟨_,H8,I9,q8⟩
end L2
namespace L2
open PySem PySem.Spec PyProof.Rows PySem.Builtin PySem.Builtin.ObjectAttr PySem.Builtin.Getset_descriptor
structure ExcC (K:PySem.W.Frag) (C:Addr):Prop where
 ga:PySem.W.findIn K (.ref C) "__getattribute__" = some (some (.builtin "BaseException.__getattribute__"))
 gt:PySem.W.findIn K (.ref C) "__getattr__" = some none
 ha:PySem.W.findIn K (.ref C) "__class__" = some (some (.builtin "object.__class__"))
 hn:PySem.W.specialIn K (.builtin "object.__class__") "__get__" = some (some (.builtin "getset_descriptor.__get__"))
 tk:PySem.W.takesIn K (.builtin "object.__class__")=some true
 mb:PySem.W.mroIn K C (.type "BaseException")=some true
 mo:PySem.W.mroIn K C (.type "object")=some true
section
variable {prog:Program} {w:World} {A:Around} {E:Value->Shared->Prop} {K:PySem.W.Frag} {s:Shared} {e C:Addr} {oe:Obj}
theorem exc_get {tp:Value} {R:Result->Shared->Prop} (X:K.In s.heap) (he:s.heap.get? e=some oe) (hc:oe.cls=.ref C) (Z:ExcC K C)
  (h:R (.ok (.ret (.ref C))) s):codeAny (model prog w) A (.call (.builtin "getset_descriptor.__get__") ⟨[.builtin "object.__class__",.ref e,tp],[]⟩) R s:=by
 obtain ⟨hh,g,dr,t,os⟩:=s
 have L0:PySem.W.Looks (model prog w) hh (typeOf (.ref e)) (.ref C):=hc ▸ (PySem.W.Looks.ld he).andThen .now
 have L1:=PySem.W.looks_mroIn (M:=model prog w) X Z.mo
 refine codeAny_call_builtin PySem.W.KF.slot_gs.plain PySem.W.KF.entry_gs (PySem.W.KF.slot_gs.check _ _ _ _ _ _ _ _ PySem.W.KF.type_class (PySem.W.KF.args_gs _ _ _) ?_)
 unfold Builtin.«getset_descriptor.__get__» descrGet
 rw [PySem.W.dga_obj]
 refine wpAny_bind (wpAny_pure ?_)
 unfold descrGetter descrCheckInstance descrNameAndClass isInstance
 simp only [PySem.W.KF.owner_class]
 repeat lk
 refine ⟨Code.quiet_builtin _ (by decide +kernel),codeAny_builtin PySem.W.KF.entry_class ?_⟩
 unfold Builtin.«object.__class__» shownTypeOf
 repeat lk
 exact h
theorem exc_find (X:K.In s.heap) (Z:ExcC K C):PySem.W.Looks (model prog w) s.heap (find (.ref e) (.ref C) "__class__") (.bind (.builtin "getset_descriptor.__get__") (.builtin "object.__class__")):=by
 have L1:=PySem.W.looks_findIn (M:=model prog w) X Z.ha
 have L2:PySem.W.Looks (model prog w) s.heap (getOf (some (.builtin "object.__class__"))) (some (.builtin "getset_descriptor.__get__")):=PySem.W.looks_specialIn X Z.hn
 have L3:=PySem.W.looks_takesIn (M:=model prog w) X Z.tk
 exact L1.andThen (L2.andThen ((show PySem.W.Looks (model prog w) s.heap (dataDescriptor? (some (.builtin "object.__class__")) (some (.builtin "getset_descriptor.__get__"))) (some (.builtin "getset_descriptor.__get__",.builtin "object.__class__")) from L3.andThen .now).andThen (PySem.W.Looks.tag .now)))
theorem exc_entry {tk:Tok} {Q:Fin->Shared->Prop} (X:K.In s.heap) (he:s.heap.get? e=some oe) (hc:oe.cls=.ref C) (Z:ExcC K C) (hq:Q (.done (.ret (.ref C))) s) :
  wpAny (model prog w) A (Builtin.«object.__getattribute__» ⟨[.ref e,.str "__class__" tk],[]⟩) Q E s:=by
 obtain ⟨hh,g,dr,t,os⟩:=s
 have L0:PySem.W.Looks (model prog w) hh (typeOf (.ref e)) (.ref C):=hc ▸ (PySem.W.Looks.ld he).andThen .now
 have L1:=exc_find (prog:=prog) (w:=w) (s:=⟨hh,g,dr,t,os⟩) (e:=e) X Z
 unfold Builtin.«object.__getattribute__»
 refine wpAny_bind (wpAny_pure ?_)
 refine wpAny_bind (wpAny_pure ?_)
 refine wpAny_bind (L0.at (wpAny_bind (L1.at ?_)))
 show wpAny _ _ (holding [Value.builtin "object.__class__"] (call (.builtin "getset_descriptor.__get__") [.builtin "object.__class__",.ref e,.ref C]) >>= ret) _ _ _
 exact wpAny_bind (wpAny_holding (wpAny_call (exc_get (s:=⟨hh,g,dr,t,os⟩) X he hc Z (wpAny_pure hq))))
theorem exc_check {M:Model} {nameV:Value} {Q:Unit->Shared->Prop} (X:K.In s.heap) (he:s.heap.get? e=some oe) (hc:oe.cls=.ref C) (Z:ExcC K C) (hq:Q () s):wpAny M A (checkBuiltinCall "BaseException.__getattribute__" ⟨[.ref e,nameV],[]⟩) Q E s:=by
 obtain ⟨hh,g,dr,t,os⟩:=s
 have L0:PySem.W.Looks M hh (typeOf (.ref e)) (.ref C):=hc ▸ (PySem.W.Looks.ld he).andThen .now
 have L1:=PySem.W.looks_mroIn (M:=M) X Z.mb
 have hk:builtinKind "BaseException.__getattribute__" = some .slot:=by decide +kernel
 have hsplit:splitId "BaseException.__getattribute__" = some ("BaseException","__getattribute__"):=by decide +kernel
 have ha:=F.args_bexc_ga (.ref e) nameV
 simp only [checkBuiltinCall,hk,hsplit]
 unfold isInstance
 repeat lk
 exact hq
theorem exc_call {tk:Tok} {R:Result->Shared->Prop} (X:K.In s.heap) (he:s.heap.get? e=some oe) (hc:oe.cls=.ref C) (Z:ExcC K C) (hq:R (.ok (.ret (.ref C))) s) :
  codeAny (model prog w) A (.call (.builtin "BaseException.__getattribute__") ⟨[.ref e,.str "__class__" tk],[]⟩) R s:=
 codeAny_call_builtin (by decide +kernel) F.entry_bexc_ga (exc_check X he hc Z (exc_entry X he hc Z hq))
theorem exc_class {Q:Option Value->Shared->Prop} (X:K.In s.heap) (he:s.heap.get? e=some oe) (hc:oe.cls=.ref C) (Z:ExcC K C) (hq:Q (some (.ref C)) { s with toks:=s.toks + 1 }) :
  wpAny (model prog w) A (getAttr? (.ref e) "__class__") Q E s:=by
 obtain ⟨hh,g,dr,t,os⟩:=s
 have L0:PySem.W.Looks (model prog w) hh (typeOf (.ref e)) (.ref C):=hc ▸ (PySem.W.Looks.ld he).andThen .now
 have L1:=PySem.W.looks_findIn (M:=model prog w) X Z.ga
 have L2:=PySem.W.looks_findIn (M:=model prog w) X Z.gt
 have hx2:(Value.builtin "BaseException.__getattribute__" == Value.builtin "object.__getattribute__")=false:=by decide +kernel
 have f3:bindSpecial (.builtin "BaseException.__getattribute__") (.ref e)=pure (.builtin "BaseException.__getattribute__",[.ref e]):=by
  have hop:withoutEnding? "BaseException.__getattribute__" "#opaque" = none:=by decide +kernel
  have hdat:withoutEnding? "BaseException.__getattribute__" "#data" = none:=by decide +kernel
  have hk:builtinKind "BaseException.__getattribute__" = some .slot:=by decide +kernel
  simp only [bindSpecial,typeOf,builtinType,hop,hdat,hk]
  rfl
 unfold getAttr? getAttrBy? getAttrBy
 refine wpAny_bind (wpAny_mkText (wpAny_bind (wpAny_attempt (wpAny_holding (wpAny_bind (L0.at (wpAny_bind (L1.at ?_))))))))
 dsimp only
 rw [hx2,Bool.and_false,if_neg Bool.false_ne_true]
 unfold getAttrByItsOwn hookBefore
 refine wpAny_bind ?_
 rw [if_pos (show onTheHeap (Value.ref C)=true from rfl)]
 refine L2.at ?_
 unfold callGetattribute
 rw [Bool.false_and,if_neg Bool.false_ne_true]
 unfold boundAndCalled
 rw [f3]
 refine wpAny_bind (wpAny_attempt (wpAny_holding (wpAny_bind (wpAny_pure ?_))))
 exact wpAny_call (exc_call (s:=⟨hh,g,dr,t + 1,os⟩) X he hc Z (wpAny_pure (wpAny_pure hq)))
theorem kitx_exc (Z:ExcC K C):PySem.W.KitX K (.ref e) (.ref C) (fun h=>∃ oe,h.get? e=some oe/\oe.cls=.ref C) where
 ty:=fun _ _ _ ⟨_,he,hc⟩=>hc ▸ (PySem.W.Looks.ld he).andThen .now
 it:=fun _ _ X _=>by
  obtain ⟨cd,hcD,_⟩:=Option.bind_eq_some_iff.mp Z.mo
  unfold PySem.W.clsIn at hcD
  split at hcD
  ·rename_i c' d' cd' sl' ho
   intro A' Q' E' s' k q
   unfold isType loadHead
   exact wpAny_bind (wpAny_loadPart (k _ _ (X _ _ ho)) (wpAny_pure q))
  ·cases hcD
 ne:=fun h tp dd its n sl X htp=>by
  obtain ⟨cd,hcD,_⟩:=Option.bind_eq_some_iff.mp Z.mo
  refine Bool.eq_false_iff.mpr fun q=>?_
  have e:C=tp:=Value.ref.inj (beq_iff_eq.mp q)
  subst e
  unfold PySem.W.clsIn at hcD
  split at hcD
  ·rename_i c' d' cd' sl' ho
   have z:=(X _ _ ho).symm.trans htp
   cases z
  ·cases hcD
 ca:=fun X ⟨_,he,hc⟩ k=>exc_class X he hc Z k
end
section
variable {X:Cx}
noncomputable def rInstXA (K:PySem.W.Frag):List V->Hp->VK->Prop:=fun xs H Q=>∃ e C c b,xs=[.ref e,.ref c]/\H e=some (ExcO e C)/\ExcC K C/\PySem.W.kitOne K (.ref C) (.ref c)=some b/\Q (.bl b) H
theorem call_isinstXA:CallR X (.builtin "isinstance") (rInstXA X.K):=by
 intro pins s σ H xs us Q I r h
 obtain ⟨e,C,c,b,rfl,he,Z,kx,q⟩:=h
 obtain ⟨u,v,rfl,ru,rv⟩:=vals2 r
 cases (show v=Value.ref c from rv)
 cases (show u=Value.ref e from ru)
 obtain ⟨⟨oe,vs,h1,h2,_⟩,_⟩:=(show ObjOk X.prog X.w H s.heap e (ExcO e C) from I.hok e _ he)
 exact PySem.W.kia_one (kitx_exc Z) I.kIn ⟨oe,h1,h2⟩ kx (fun z=>nomatch z) fun tk=>⟨.bl b,H,I.tok tk,rfl,q⟩
noncomputable def rNotInB (K:PySem.W.Frag):R2:=fun x y H Q=>∃ (b:Bool) (l:Addr) (bs:List Bool),x=.bl b/\y=.ref l/\SqL K H l (bs.map V.bl)/\Q (.bl (!(bs.any (· == b)))) H
theorem vals_bools:∀ {bs:List Bool} {its:List Value},Vals (bs.map V.bl) its->its=bs.map Value.bool
 | [],_,.nil=>rfl
 | _ :: _,_,.cons r t=>by rw [List.map_cons,vals_bools t,show _=Value.bool _ from r]
theorem op_notinB:OpR X (compareOp .NotIn) (rNotInB X.K):=by
 intro pins s σ H x y v u Q I rx ry h
 obtain ⟨b,l,bs,rfl,rfl,hq,q⟩:=h
 cases (show v=Value.bool b from rx)
 cases (show u=Value.ref l from ry)
 obtain ⟨its,rv,pl,hz⟩:=I.list hq
 obtain rfl:=vals_bools rv
 refine SeqAt.notIn_listAt (fun v=>match v with | .bool a=>a == b | _=>false) pl.isList (fun y hy=>?_) ?_
 ·obtain ⟨a,_,rfl⟩:=List.mem_map.mp (show y∈bs.map Value.bool by simpa using hy)
  exact SeqAt.EqAt.bool_bool a b
 ·refine ⟨.bl _,H,I,?_,q⟩
  show Value.bool _=Value.bool _
  rw [<- Array.any_toList,List.any_map]
  rfl
end
end L2
namespace Sh
open PySem L2
inductive DK where
 | int (i:Int)
 | bool (b:Bool)
 | non
 | str (x:Str)
 | dic
 | lst (ds:List DK)
 | tup (ds:List DK)
noncomputable def DK.kd:DK->Kd
 | .int _=>.int
 | .bool _=>.bool
 | .non=>.non
 | .str _=>.str
 | .dic=>.dic
 | .lst _=>.lst
 | .tup _=>.tup
inductive DV (H:Hp):V->DK->Prop where
 | int (i:Int):DV H (.int i) (.int i)
 | bool (b:Bool):DV H (.bl b) (.bool b)
 | non:DV H .non .non
 | str (x:Str):DV H (.str x) (.str x)
 | dic {a:Addr} {kvs:List (Key × V)} (e:H a=some (.dK kvs)):DV H (.ref a) .dic
 | lst {a:Addr} {xs:List V} {ds:List DK} (e:H a=some (.lst xs)) (h:Paired (DV H) xs ds):DV H (.ref a) (.lst ds)
 | tup {a:Addr} {xs:List V} {ds:List DK} (e:H a=some (.tup xs)) (h:Paired (DV H) xs ds):DV H (.ref a) (.tup ds)
theorem DV.kof {H:Hp} {v:V} {d:DK} (h:DV H v d):Kof H v d.kd:=by
 cases h with
 | int i=>exact .int i
 | bool b=>exact .bl b
 | non=>exact .non
 | str x=>exact .str x
 | dic e=>exact .dic e
 | lst e _=>exact .lst e
 | tup e _=>exact .tup e
noncomputable def wholeD:DK->Bool
 | .int _=>true
 | _=>false
noncomputable def numsD (n:Int):DK->Bool
 | .lst ds=>decide ((ds.length:Int)=n) && ds.all wholeD
 | _=>false
noncomputable def tabD (h w:Int):DK->Bool
 | .lst ds=>decide ((ds.length:Int)=h) && ds.all (numsD w)
 | _=>false
noncomputable def fewD:DK->Prop
 | .lst ds=>ds.length<=900
 | .tup ds=>ds.length<=900
 | _=>True
noncomputable def fewD2:DK->Prop
 | .lst ds=>ds.length<=900/\∀ d∈ds,fewD d
 | .tup ds=>ds.length<=900/\∀ d∈ds,fewD d
 | _=>True
noncomputable def spWholeD:Sp:=fun vs H Q _=>∃ (v:V) (d:DK),vs=[v]/\DV H v d/\Q (.bl (wholeD d)) H
noncomputable def spNumsD:Sp:=fun vs H Q _=>∃ (v:V) (d:DK) (n:Int),vs=[v,.int n]/\DV H v d/\fewD d/\∀ H',Same H H'->Q (.bl (numsD n d)) H'
noncomputable def spTabD:Sp:=fun vs H Q _=>∃ (v:V) (d:DK) (h w:Int),vs=[v,.int h,.int w]/\DV H v d/\fewD2 d/\∀ H',Same H H'->Q (.bl (tabD h w d)) H'
theorem DV.same {H H':Hp} (s:Same H H'):∀ {v:V} {d:DK},DV H v d->DV H' v d
 | _,_,.int i=>.int i
 | _,_,.bool b=>.bool b
 | _,_,.non=>.non
 | _,_,.str x=>.str x
 | _,_,.dic e=>.dic (s _ _ e)
 | _,_,.lst e h=>.lst (s _ _ e) (go s h)
 | _,_,.tup e h=>.tup (s _ _ e) (go s h)
where
 go {H H':Hp} (s:Same H H'):∀ {xs:List V} {ds:List DK},Paired (DV H) xs ds->Paired (DV H') xs ds
  | _,_,.nil=>.nil
  | _,_,.cons h t=>.cons (DV.same s h) (go s t)
theorem dv_ints {H:Hp}:∀ ns:List Int,Paired (DV H) (ns.map V.int) (ns.map DK.int)
 | []=>.nil
 | n :: t=>.cons (.int n) (dv_ints t)
theorem nums_ints (ns:List Int):numsD (ns.length:Int) (.lst (ns.map DK.int))=true:=by
 show (decide (((ns.map DK.int).length:Int)=(ns.length:Int)) && (ns.map DK.int).all wholeD)=true
 rw [List.length_map,decide_eq_true rfl,List.all_map,Bool.true_and,List.all_eq_true]
 exact fun _ _=>rfl
theorem dv_tab {H:Hp} {tv:List V} {tab:List (List Int)} (h:TabV H tv tab):Paired (DV H) tv (tab.map fun r=>.lst (r.map DK.int)):=by
 induction h with
 | nil=>exact .nil
 | cons h t ih=>
  obtain ⟨a,rfl,e⟩:=h
  exact .cons (.lst e (dv_ints _)) ih
theorem nums_true {ns:List Int} {n:Nat} (h:ns.length=n):numsD (n:Int) (.lst (ns.map DK.int))=true:=by
 rw [<- h]
 exact nums_ints ns
theorem tab_true {tab:List (List Int)} {h w:Nat} (e:tab.length=h) (r:∀ x∈tab,x.length=w):tabD (h:Int) (w:Int) (.lst (tab.map fun r=>.lst (r.map DK.int)))=true:=by
 show (decide (((tab.map fun r=>DK.lst (r.map DK.int)).length:Int)=(h:Int)) && (tab.map fun r=>DK.lst (r.map DK.int)).all (numsD (w:Int)))=true
 rw [List.length_map,e,decide_eq_true rfl,Bool.true_and,List.all_map,List.all_eq_true]
 exact fun x hx=>nums_true (r x hx)
theorem few_tab {tab:List (List Int)} {w:Nat} (h:tab.length<=900) (r:∀ x∈tab,x.length=w) (w9:w<=900):fewD2 (.lst (tab.map fun r=>.lst (r.map DK.int))):=by
 refine ⟨by rw [List.length_map]; exact h,fun d hd=>?_⟩
 obtain ⟨x,hx,rfl⟩:=List.mem_map.mp hd
 show (x.map DK.int).length<=900
 rw [List.length_map,r x hx]
 exact w9
end Sh
set_option linter.all false
namespace Sh
noncomputable def bt:List (Int × Int)->Int
 | []=>1
 | p :: ps=>p.2 * bt ps
noncomputable def tp:List Int->List (Int × Int)->Int
 | w :: ws,p :: ps=>w * p.1 * bt ps + p.2 * tp ws ps
 | _,_=>0
theorem fold_tp:∀ (ws:List Int) (ps:List (Int × Int)) (t b:Int),ws.length=ps.length->
  (ws.zip ps).foldl alStep (t,b)=(t * bt ps + b * tp ws ps,b * bt ps)
 | [],[],t,b,_=>by simp [bt,tp]
 | w :: ws,p :: ps,t,b,h=>by
  simp only [List.zip_cons_cons,List.foldl_cons,alStep]
  rw [fold_tp ws ps _ _ (by simpa using h)]
  simp only [bt,tp,Prod.mk.injEq]
  constructor <;> grind
theorem al_tp {ws:List Int} {ps:List (Int × Int)} (h:ws.length=ps.length):alFold ws ps=(tp ws ps,bt ps):=by
 unfold alFold
 rw [fold_tp ws ps 0 1 h]
 simp
theorem bt_pos:∀ {ps:List (Int × Int)},(∀ p∈ps,0 < p.2)->0 < bt ps
 | [],_=>by simp [bt]
 | p :: ps,h=>Int.mul_pos (h p (by simp)) (bt_pos fun q m=>h q (by simp [m]))
noncomputable def sumA:List Int->List (List Int)->List Int->List (Int × Int)->Int
 | r :: rs,c :: cs,a :: as,ps=>r * (tp c ps + a * bt ps) + sumA rs cs as ps
 | _,_,_,_=>0
noncomputable def sumP:List Int->List Int->Int
 | r :: rs,a :: as=>r * a + sumP rs as
 | _,_=>0
inductive Behind (d:Int) (ps:List (Int × Int)):List (List Int)->List Int->List (Int × Int)->Prop
 | nil:Behind d ps [] [] []
 | cons {c cs a as q qs}:0 < q.2->q.1 * (bt ps * d)=(tp c ps + a * bt ps) * q.2->Behind d ps cs as qs->Behind d ps (c :: cs) (a :: as) (q :: qs)
theorem Behind.pos {d:Int} {ps:List (Int × Int)} {cs as qs} (h:Behind d ps cs as qs):∀ p∈qs,0 < p.2:=by
 induction h with
 | nil=>simp
 | cons h1 _ _ ih=>
  intro p m
  rcases List.mem_cons.mp m with rfl | m
  ·exact h1
  ·exact ih p m
theorem Behind.tp {d:Int} {ps:List (Int × Int)} {cs as qs} (h:Behind d ps cs as qs):∀ {rs:List Int},rs.length=qs.length->tp rs qs * (bt ps * d)=sumA rs cs as ps * bt qs:=by
 induction h with
 | nil=>intro rs h; cases rs with
  | nil=>simp [Sh.tp,sumA]
  | cons=>simp at h
 | @cons c cs a as q qs h1 h2 h3 ih=>
  intro rs h
  cases rs with
  | nil=>simp at h
  | cons r rs=>
   have:=ih (rs:=rs) (by simpa using h)
   simp only [Sh.tp,sumA,bt]
   grind
noncomputable def plcL (nums:List Int) (ls:List (List Int)) (j:Nat):Int:=((nums.zip ls).map fun q=>q.1 * q.2.getD j 0).sum
theorem plcL_cons (r:Int) (rs:List Int) (c:List Int) (cs:List (List Int)) (j:Nat):plcL (r :: rs) (c :: cs) j=r * c.getD j 0 + plcL rs cs j:=by
 simp only [plcL,List.zip_cons_cons,List.map_cons,List.sum_cons]
end Sh
set_option linter.all false
namespace Sh
noncomputable def unitM (pl:Int) (n:Nat) (nu:Int):List Int:=(List.range n).map fun (i:Nat)=>if (i:Int)=pl then nu else 0
theorem unitM_len (pl:Int) (n:Nat) (nu:Int):(unitM pl n nu).length=n:=by
 unfold unitM
 rw [List.length_map,List.length_range]
theorem unitM_snoc (pl:Int) (n:Nat) (nu:Int):unitM pl (n + 1) nu=unitM pl n nu++[if (n:Int)=pl then nu else 0]:=by
 unfold unitM
 rw [List.range_succ,List.map_append]
 rfl
theorem unitM_set {j n:Nat} {x:Int}:(List.replicate n (0:Int)).set j x=unitM (j:Int) n x:=by
 refine List.ext_getElem (by simp [unitM]) fun i h1 h2=>?_
 simp only [unitM,List.getElem_set,List.getElem_replicate,List.getElem_map,List.getElem_range]
 by_cases e:j=i
 ·simp [e]
 ·rw [if_neg e,if_neg (by omega)]
theorem unitM_is {j n:Nat} {x:Int} (h:j < n):unitM (j:Int) n x=List.replicate j 0++x :: List.replicate (n - j - 1) 0:=by
 rw [<- unitM_set]
 refine List.ext_getElem (by simp; omega) fun i h1 h2=>?_
 simp only [List.getElem_set,List.getElem_replicate,List.getElem_append,List.length_replicate,List.getElem_cons]
 split
 ·rename_i e
  rw [dif_neg (by omega),dif_pos (by omega)]
 ·split
  ·rfl
  ·rw [dif_neg (by omega)]
noncomputable def hB (pts:List (Int × Int)) (ws:List Int) (b:Int):Bool:=decide (tp ws pts<=b * bt pts)
end Sh
set_option linter.all false
namespace Sh
noncomputable def prodM (T O:List (List Int)) (w:Nat):List (List Int):=T.map fun ns=>(List.range w).map (plcL ns O)
noncomputable def unitsM (n:Nat):List (List Int):=(List.range n).map fun (i:Nat)=>unitM (i:Int) n 1
theorem plcL_sumP:∀ (ns:List Int) (ls:List (List Int)) (j:Nat),plcL ns ls j=sumP ns (ls.map fun r=>r.getD j 0)
 | [],_,_=>by simp [plcL,sumP]
 | _ :: _,[],_=>by simp [plcL,sumP]
 | n :: ns,l :: ls,j=>by rw [plcL_cons,List.map_cons,plcL_sumP ns ls j]; rfl
theorem sumP_lin {α:Type} (x:Int) (f g:α->Int):∀ (l:List α) (v:List Int),sumP (l.map fun j=>x * f j + g j) v=x * sumP (l.map f) v + sumP (l.map g) v
 | [],_=>by simp [sumP]
 | _ :: _,[]=>by simp [sumP]
 | a :: l,y :: v=>by
  simp only [List.map_cons,sumP,sumP_lin x f g l v]
  grind
theorem sumP_zero {α:Type}:∀ (l:List α) (v:List Int),sumP (l.map fun _=>(0:Int)) v=0
 | [],_=>by simp [sumP]
 | _ :: _,[]=>by simp [sumP]
 | a :: l,y :: v=>by
  simp only [List.map_cons,sumP,sumP_zero l v]
  grind
theorem own_is {a:List Int} {k:Nat} (h:a.length=k):(List.range k).map (fun j=>a.getD j 0)=a:=by
 refine List.ext_getElem (by simp [h]) fun i h1 h2=>?_
 simp only [List.getElem_map,List.getElem_range,List.getD_eq_getElem?_getD,List.getElem?_eq_getElem h2]
 rfl
theorem sumP_rm {k:Nat} {v:List Int}:∀ (r:List Int) (A:List (List Int)),(∀ a∈A,a.length=k)->sumP ((List.range k).map (plcL r A)) v=sumP r (A.map fun a=>sumP a v)
 | [],A,_=>by
  rw [show (plcL ([]:List Int) A)=fun _=>(0:Int) from funext fun j=>by simp [plcL],sumP_zero]
  simp [sumP]
 | x :: r,[],_=>by
  rw [show (plcL (x :: r) [])=fun _=>(0:Int) from funext fun j=>by simp [plcL],sumP_zero]
  simp [sumP]
 | x :: r,a :: A,h=>by
  rw [show (plcL (x :: r) (a :: A))=fun j=>x * a.getD j 0 + plcL r A j from funext fun j=>plcL_cons x r a A j,sumP_lin,own_is (h a (by simp)),sumP_rm r A fun c m=>h c (by simp [m])]
  rfl
theorem map_range_congr {f g:Nat->Int} {n:Nat} (h:∀ j,j < n->f j=g j):(List.range n).map f=(List.range n).map g:=List.map_congr_left fun j m=>h j (List.mem_range.mp m)
theorem getD_range {f:Nat->Int} {n j:Nat} (h:j < n):((List.range n).map f).getD j 0=f j:=by
 rw [List.getD_eq_getElem?_getD,List.getElem?_map,List.getElem?_range h]
 rfl
theorem rm_rm {k w:Nat} {A B:List (List Int)} (hA:∀ a∈A,a.length=k) (x:List Int):(List.range w).map (plcL ((List.range k).map (plcL x A)) B)=(List.range w).map (plcL x (prodM A B w)):=by
 refine map_range_congr fun j hj=>?_
 rw [plcL_sumP,sumP_rm x A hA,plcL_sumP x]
 unfold prodM
 rw [List.map_map]
 congr 1
 refine List.map_congr_left fun a _=>?_
 show _=((List.range w).map (plcL a B)).getD j 0
 rw [getD_range hj,plcL_sumP]
theorem prod_assoc {k w:Nat} {X A B:List (List Int)} (hA:∀ a∈A,a.length=k):prodM (prodM X A k) B w=prodM X (prodM A B w) w:=by
 unfold prodM
 rw [List.map_map]
 exact List.map_congr_left fun x _=>rm_rm hA x
theorem sumP_rep0:∀ (k:Nat) (v:List Int),sumP (List.replicate k (0:Int)) v=0
 | 0,_=>by simp [sumP]
 | _ + 1,[]=>by simp [sumP,List.replicate_succ]
 | k + 1,y :: v=>by
  simp only [List.replicate_succ,sumP,sumP_rep0 k v]
  grind
theorem sumP_one (k:Nat):∀ (i:Nat) (v:List Int),i < v.length->sumP (List.replicate i 0++1 :: List.replicate k 0) v=v.getD i 0
 | 0,y :: v,_=>by
  simp only [List.replicate_zero,List.nil_append,sumP,sumP_rep0]
  show _=y
  omega
 | i + 1,y :: v,h=>by
  simp only [List.replicate_succ,List.cons_append,sumP,sumP_one k i v (by simpa using h)]
  show _=v.getD i 0
  omega
 | _,[],h=>by simp at h
theorem sumP_unit {n i:Nat} {v:List Int} (h:v.length=n) (hi:i < n):sumP (unitM (i:Int) n 1) v=v.getD i 0:=by
 rw [unitM_is hi]
 exact sumP_one _ i v (by omega)
theorem sumP_comm:∀ (a b:List Int),sumP a b=sumP b a
 | [],b=>by cases b <;> simp [sumP]
 | _ :: _,[]=>by simp [sumP]
 | x :: a,y :: b=>by
  simp only [sumP,sumP_comm a b]
  grind
theorem units_col {n j:Nat} (h:j < n):(unitsM n).map (fun r=>r.getD j 0)=unitM (j:Int) n 1:=by
 unfold unitsM
 rw [List.map_map]
 unfold unitM
 refine List.map_congr_left fun i _=>?_
 show ((List.range n).map fun (k:Nat)=>if (k:Int)=(i:Int) then (1:Int) else 0).getD j 0=_
 rw [getD_range h]
 by_cases e:(j:Int)=(i:Int)
 ·rw [if_pos e,if_pos e.symm]
 ·rw [if_neg e,if_neg (fun z=>e z.symm)]
theorem rm_units {n:Nat} {x:List Int} (h:x.length=n):(List.range n).map (plcL x (unitsM n))=x:=by
 refine Eq.trans (map_range_congr fun j hj=>?_) (own_is h)
 rw [plcL_sumP,units_col hj,sumP_comm,sumP_unit h hj]
theorem prod_units {n:Nat} {X:List (List Int)} (h:∀ x∈X,x.length=n):prodM X (unitsM n) n=X:=by
 unfold prodM
 refine Eq.trans (List.map_congr_left fun x hx=>rm_units (h x hx)) (List.map_id'' (fun _=>rfl) X)
theorem units_mul {n:Nat} {f:List Int->List Int} {X:List (List Int)} (hX:X.length=n) (hf:∀ i,i < n->f (unitM (i:Int) n 1)=X.getD i []):(unitsM n).map f=X:=by
 unfold unitsM
 rw [List.map_map]
 refine List.ext_getElem (by simp [hX]) fun i h1 h2=>?_
 simp only [List.getElem_map,List.getElem_range,Function.comp]
 rw [hf i (by omega),List.getD_eq_getElem?_getD,List.getElem?_eq_getElem h2]
 rfl
theorem units_prod {n w:Nat} {X:List (List Int)} (hX:X.length=n) (h:∀ x∈X,x.length=w):prodM (unitsM n) X w=X:=by
 refine units_mul hX fun i hi=>?_
 have lt:i < X.length:=by omega
 have e:X.getD i []=X[i]:=by rw [List.getD_eq_getElem?_getD,List.getElem?_eq_getElem lt]; rfl
 rw [e]
 refine Eq.trans (map_range_congr fun j hj=>?_) (own_is (h X[i] (List.getElem_mem _)))
 rw [plcL_sumP,sumP_unit (by rw [List.length_map,hX]) hi,List.getD_eq_getElem?_getD,List.getElem?_map,List.getElem?_eq_getElem lt]
 rfl
theorem units_dot {n:Nat} {v:List Int} (h:v.length=n):(unitsM n).map (fun r=>sumP r v)=v:=by
 unfold unitsM
 rw [List.map_map]
 refine Eq.trans (List.map_congr_left fun i hi=>?_) (own_is h)
 exact sumP_unit h (List.mem_range.mp hi)
theorem dot_back {n:Nat} {T B:List (List Int)} {v:List Int} (hT:∀ r∈T,r.length=n) (e:prodM B T n=unitsM n) (h:v.length=n):B.map (fun ns=>sumP ns (T.map fun q=>sumP q v))=v:=by
 have:B.map (fun ns=>sumP ns (T.map fun q=>sumP q v))=(prodM B T n).map (fun r=>sumP r v):=by
  unfold prodM
  rw [List.map_map]
  exact List.map_congr_left fun r _=>(sumP_rm r T hT).symm
 rw [this,e,units_dot h]
noncomputable def Sg (n:Nat) (f:Nat->Int):Int:=((List.range n).map f).sum
theorem Sg_succ (n:Nat) (f:Nat->Int):Sg (n + 1) f=Sg n f + f n:=by
 unfold Sg
 rw [List.range_succ,List.map_append,List.sum_append]
 simp
theorem Sg_zero (f:Nat->Int):Sg 0 f=0:=rfl
theorem Sg_congr {n:Nat} {f g:Nat->Int} (h:∀ k,k < n->f k=g k):Sg n f=Sg n g:=by
 unfold Sg
 rw [map_range_congr h]
theorem Sg_lin (x:Int) (f g:Nat->Int):∀ n,Sg n (fun k=>f k + x * g k)=Sg n f + x * Sg n g
 | 0=>by simp [Sg_zero]
 | n + 1=>by
  rw [Sg_succ,Sg_succ,Sg_succ,Sg_lin x f g n]
  grind
theorem Sg_one (x:Int) {i:Nat}:∀ n,Sg n (fun k=>if k=i then x else 0)=if i < n then x else 0
 | 0=>by simp [Sg_zero]
 | n + 1=>by
  rw [Sg_succ,Sg_one x n]
  by_cases e:n=i
  ·subst e
   simp
  ·rw [if_neg e]
   by_cases c:i < n
   ·rw [if_pos c,if_pos (by omega)]; omega
   ·rw [if_neg c,if_neg (by omega)]; omega
noncomputable def IsInv (n:Nat) (t b:Nat->Nat->Int):Prop:=∀ r c,r < n->c < n->Sg n (fun k=>t r k * b k c)=if r=c then 1 else 0
noncomputable def addT (i j:Nat) (y:Int) (t:Nat->Nat->Int) (r k:Nat):Int:=if r=i then t i k + y * t j k else t r k
noncomputable def addB (i j:Nat) (y:Int) (b:Nat->Nat->Int) (k c:Nat):Int:=if c=j then b k j - y * b k i else b k c
noncomputable def negT (i:Nat) (t:Nat->Nat->Int) (r k:Nat):Int:=if r=i then 0 - t i k else t r k
noncomputable def negB (i:Nat) (b:Nat->Nat->Int) (k c:Nat):Int:=if c=i then 0 - b k i else b k c
theorem inv_add {n i j:Nat} {y:Int} {t b:Nat->Nat->Int} (h:IsInv n t b) (hi:i < n) (hj:j < n) (ne:i≠j):IsInv n (addT i j y t) (addB i j y b):=fun r c hr hc=>by
 have col:∀ r,r < n->∀ x:Nat->Int,(∀ k,x k=t r k)->Sg n (fun k=>x k * addB i j y b k c)=(if r=c then 1 else 0) + (if c=j then -y else 0) * (if r=i then 1 else 0):=fun r hr x hx=>by
  by_cases cj:c=j
  ·have e1:=h r j hr hj
   have e2:=h r i hr hi
   rw [Sg_congr (g:=fun k=>t r k * b k j + (-y) * (t r k * b k i)) (fun k _=>by rw [hx]; unfold addB; rw [if_pos cj]; grind),Sg_lin,e1,e2,cj,if_pos rfl]
  ·rw [Sg_congr (g:=fun k=>t r k * b k c) (fun k _=>by rw [hx]; unfold addB; rw [if_neg cj]),h r c hr hc,if_neg cj]
   omega
 by_cases ri:r=i
 ·have e1:=col i hi (t i) (fun _=>rfl)
  have e2:=col j hj (t j) (fun _=>rfl)
  rw [Sg_congr (g:=fun k=>t i k * addB i j y b k c + y * (t j k * addB i j y b k c)) (fun k _=>by unfold addT; rw [if_pos ri]; grind),Sg_lin,e1,e2,ri]
  clear e1 e2 col
  have h0:(if i=i then (1:Int) else 0)=1:=if_pos rfl
  have h1:(if j=i then (1:Int) else 0)=0:=if_neg (fun z=>ne z.symm)
  rw [h0,h1]
  by_cases cj:c=j
  ·rw [if_pos cj,if_pos cj.symm]; grind
  ·rw [if_neg cj,if_neg (fun z:j=c=>cj z.symm)]; grind
 ·rw [Sg_congr (g:=fun k=>t r k * addB i j y b k c) (fun k _=>by unfold addT; rw [if_neg ri]),col r hr (t r) (fun _=>rfl),if_neg ri]
  omega
theorem inv_add' {n i j:Nat} {y:Int} {t b:Nat->Nat->Int} (h:IsInv n b t) (hi:i < n) (hj:j < n) (ne:i≠j):IsInv n (addB i j y b) (addT i j y t):=fun r c hr hc=>by
 have e:∀ k,addB i j y b r k * addT i j y t k c=(b r k * t k c + 1 * (if k=i then y * (b r i * t j c) else 0)) + (-1) * (if k=j then y * (b r i * t j c) else 0):=fun k=>by
  unfold addB addT
  by_cases ki:k=i
  ·rw [if_neg (fun z=>ne (ki.symm.trans z)),if_pos ki,if_pos ki,if_neg (fun z=>ne (ki.symm.trans z)),ki]; grind
  ·by_cases kj:k=j
   ·rw [if_pos kj,if_neg ki,if_neg ki,if_pos kj,kj]; grind
   ·rw [if_neg kj,if_neg ki,if_neg ki,if_neg kj]; grind
 rw [Sg_congr (fun k _=>e k),Sg_lin,Sg_lin,Sg_one,Sg_one,if_pos hi,if_pos hj,h r c hr hc]
 omega
theorem inv_neg {n i:Nat} {t b:Nat->Nat->Int} (h:IsInv n t b) (hi:i < n):IsInv n (negT i t) (negB i b):=fun r c hr hc=>by
 by_cases ri:r=i
 ·by_cases ci:c=i
  ·rw [Sg_congr (g:=fun k=>t r k * b k c) (fun k _=>by unfold negT negB; rw [if_pos ri,if_pos ci,ri,ci]; grind)]
   exact h r c hr hc
  ·rw [Sg_congr (g:=fun k=>(0 - t r k * b k c) + 0 * 0) (fun k _=>by unfold negT negB; rw [if_pos ri,if_neg ci,ri]; grind)]
   have:=h r c hr hc
   rw [if_neg (by omega)] at this |-
   rw [Sg_congr (g:=fun k=>0 * 0 + (-1) * (t r k * b k c)) (fun k _=>by grind),Sg_lin,this]
   have z:=Sg_lin 0 (fun _=>(0:Int)) (fun _=>0) n
   simp only [Int.mul_zero] at z |-
   have z2:∀ n,Sg n (fun _=>(0:Int))=0:=fun n=>by
    induction n with
    | zero=>rfl
    | succ n ih=>rw [Sg_succ,ih]; rfl
   rw [z2]
   rfl
 ·by_cases ci:c=i
  ·have:=h r c hr hc
   rw [if_neg (by omega)] at this |-
   have z2:∀ n,Sg n (fun _=>(0:Int))=0:=fun n=>by
    induction n with
    | zero=>rfl
    | succ n ih=>rw [Sg_succ,ih]; rfl
   rw [Sg_congr (g:=fun k=>0 + (-1) * (t r k * b k c)) (fun k _=>by unfold negT negB; rw [if_neg ri,if_pos ci,ci]; grind),Sg_lin,this,z2]
   rfl
  ·rw [Sg_congr (g:=fun k=>t r k * b k c) (fun k _=>by unfold negT negB; rw [if_neg ri,if_neg ci])]
   exact h r c hr hc
theorem inv_neg' {n i:Nat} {t b:Nat->Nat->Int} (h:IsInv n b t):IsInv n (negB i b) (negT i t):=fun r c hr hc=>by
 rw [Sg_congr (g:=fun k=>b r k * t k c) (fun k _=>by
  unfold negT negB
  by_cases ki:k=i
  ·rw [if_pos ki,if_pos ki,ki]; grind
  ·rw [if_neg ki,if_neg ki])]
 exact h r c hr hc
noncomputable def tabF (n:Nat) (t:Nat->Nat->Int):List (List Int):=(List.range n).map fun r=>(List.range n).map (t r)
theorem tabF_len (n:Nat) (t:Nat->Nat->Int):(tabF n t).length=n:=by
 unfold tabF
 rw [List.length_map,List.length_range]
theorem tabF_row {n:Nat} {t:Nat->Nat->Int} {r:List Int} (h:r∈tabF n t):r.length=n:=by
 obtain ⟨i,_,rfl⟩:=List.mem_map.mp h
 rw [List.length_map,List.length_range]
theorem sumP_range (f g:Nat->Int):∀ l:List Nat,sumP (l.map f) (l.map g)=(l.map fun k=>f k * g k).sum
 | []=>rfl
 | a :: l=>by
  simp only [List.map_cons,sumP,List.sum_cons,sumP_range f g l]
theorem inv_prod {n:Nat} {t b:Nat->Nat->Int} (h:IsInv n t b):prodM (tabF n t) (tabF n b) n=unitsM n:=by
 unfold prodM unitsM
 rw [show tabF n t=(List.range n).map fun r=>(List.range n).map (t r) from rfl,List.map_map]
 refine List.map_congr_left fun r hr=>?_
 have hr:=List.mem_range.mp hr
 unfold unitM
 refine map_range_congr fun c hc=>?_
 rw [plcL_sumP]
 unfold tabF
 rw [List.map_map,show ((fun r:List Int=>r.getD c 0) ∘ fun r=>(List.range n).map (b r))=fun k=>b k c from funext fun k=>getD_range hc,sumP_range]
 have:=h r c hr hc
 unfold Sg at this
 rw [this]
 by_cases e:r=c
 ·rw [if_pos e,if_pos (by omega)]
 ·rw [if_neg e,if_neg (by omega)]
theorem inv_unit (n:Nat):IsInv n (fun r k=>if r=k then 1 else 0) (fun r k=>if r=k then 1 else 0):=fun r c hr hc=>by
 rw [Sg_congr (g:=fun k=>if k=r then (if r=c then 1 else 0) else 0) (fun k _=>by
  show (if r=k then (1:Int) else 0) * (if k=c then 1 else 0)=_
  by_cases e:k=r
  ·rw [if_pos e.symm,if_pos e,e,Int.one_mul]
  ·rw [if_neg (fun z:r=k=>e z.symm),if_neg e,Int.zero_mul]),Sg_one,if_pos hr]
noncomputable def Half:List (Int × Int)->List Int->Prop
 | [],[]=>True
 | p :: ps,x :: xs=>p.1 * 2=x * p.2/\0 < p.2/\Half ps xs
 | _,_=>False
theorem Half.len:∀ {ps:List (Int × Int)} {xs:List Int},Half ps xs->ps.length=xs.length
 | [],[],_=>rfl
 | _ :: _,_ :: _,h=>by rw [List.length_cons,List.length_cons,h.2.2.len]
 | [],_ :: _,h=>h.elim
 | _ :: _,[],h=>h.elim
theorem Half.pos:∀ {ps:List (Int × Int)} {xs:List Int},Half ps xs->∀ p∈ps,0 < p.2
 | [],[],_=>fun _ h=>nomatch h
 | _ :: _,_ :: _,h=>fun q m=>by
  rcases List.mem_cons.mp m with rfl | m
  ·exact h.2.1
  ·exact h.2.2.pos q m
 | [],_ :: _,h=>h.elim
 | _ :: _,[],h=>h.elim
theorem half_tp:∀ {ps:List (Int × Int)} {xs:List Int} (ws:List Int),Half ps xs->ws.length=ps.length->tp ws ps * 2=sumP ws xs * bt ps
 | [],[],[],_,_=>by simp [tp,sumP]
 | p :: ps,x :: xs,w :: ws,h,l=>by
  have ih:=half_tp ws h.2.2 (by simpa using l)
  have h1:=h.1
  simp only [tp,sumP,bt]
  grind
 | [],[],_ :: _,_,l=>by simp at l
 | _ :: _,_ :: _,[],_,l=>by simp at l
 | [],_ :: _,_,h,_=>h.elim
 | _ :: _,[],_,h,_=>h.elim
theorem half_al {ps:List (Int × Int)} {xs:List Int} {ws:List Int} (h:Half ps xs) (l:ws.length=ps.length):(alFold ws ps).1 * 2=sumP ws xs * (alFold ws ps).2/\0 < (alFold ws ps).2:=by
 rw [al_tp l]
 exact ⟨half_tp ws h l,bt_pos h.pos⟩
theorem low_half {t b x:Int} (hb:0 < b) (h:t * 2=x * b):lowT t b * 2=x * lowB t b:=by
 have c:=low_cross (t:=t) (b:=b) (by omega)
 refine Int.eq_of_mul_eq_mul_right (show b≠0 by omega) ?_
 calc lowT t b * 2 * b=2 * (lowT t b * b):=by grind
  _=(t * 2) * lowB t b:=by rw [c]; grind
  _=x * lowB t b * b:=by rw [h]; grind
theorem low_two {t b t' b' x:Int} (hb:0 < b) (hb':0 < b') (h:t * 2=x * b) (h':t' * 2=x * b'):lowT t b=lowT t' b'/\lowB t b=lowB t' b':=by
 refine low_uniq hb hb' ?_
 refine Int.eq_of_mul_eq_mul_right (show (2:Int)≠0 by decide) ?_
 calc t * b' * 2=(t * 2) * b':=by grind
  _=(t' * 2) * b:=by rw [h,h']; grind
  _=t' * b * 2:=by grind
noncomputable def turnP (T:List (List Int)) (pts:List (Int × Int)):List (Int × Int):=T.map fun ws=>(lowT ((alFold ws pts).1 + 0 * (alFold ws pts).2) ((alFold ws pts).2 * 1),lowB ((alFold ws pts).1 + 0 * (alFold ws pts).2) ((alFold ws pts).2 * 1))
theorem half_turn {ps:List (Int × Int)} {xs:List Int} (h:Half ps xs):∀ {T:List (List Int)},(∀ r∈T,r.length=ps.length)->Half (turnP T ps) (T.map fun q=>sumP q xs)
 | [],_=>trivial
 | ws :: T,hT=>by
  obtain ⟨e,p⟩:=half_al h (hT ws (by simp))
  refine ⟨?_,?_,half_turn h fun r m=>hT r (by simp [m])⟩
  ·show lowT ((alFold ws ps).1 + 0 * (alFold ws ps).2) ((alFold ws ps).2 * 1) * 2=_ * lowB ((alFold ws ps).1 + 0 * (alFold ws ps).2) ((alFold ws ps).2 * 1)
   rw [Int.zero_mul,Int.add_zero,Int.mul_one]
   exact low_half p e
  ·show 0 < lowB ((alFold ws ps).1 + 0 * (alFold ws ps).2) ((alFold ws ps).2 * 1)
   rw [Int.mul_one]
   exact lowB_pos (by omega)
theorem half_uniq:∀ {ps qs:List (Int × Int)} {xs:List Int},Half ps xs->Half qs xs->(∀ p∈ps,lowT p.1 p.2=p.1/\lowB p.1 p.2=p.2)->(∀ p∈qs,lowT p.1 p.2=p.1/\lowB p.1 p.2=p.2)->ps=qs
 | [],[],[],_,_,_,_=>rfl
 | p :: ps,q :: qs,x :: xs,h,k,hl,kl=>by
  have:=low_two h.2.1 k.2.1 h.1 k.1
  obtain ⟨a1,a2⟩:=hl p (by simp)
  obtain ⟨b1,b2⟩:=kl q (by simp)
  rw [half_uniq h.2.2 k.2.2 (fun r m=>hl r (by simp [m])) (fun r m=>kl r (by simp [m]))]
  have e1:p.1=q.1:=by rw [<- a1,<- b1]; exact this.1
  have e2:p.2=q.2:=by rw [<- a2,<- b2]; exact this.2
  rw [show p=q from Prod.ext e1 e2]
 | [],_ :: _,[],_,k,_,_=>k.elim
 | _ :: _,[],_ :: _,_,k,_,_=>k.elim
 | [],_,_ :: _,h,_,_,_=>h.elim
 | _ :: _,_,[],h,_,_,_=>h.elim
theorem turnP_low {T:List (List Int)} {ps:List (Int × Int)} (h:∀ p∈ps,0 < p.2) (hT:∀ r∈T,r.length=ps.length):∀ p∈turnP T ps,lowT p.1 p.2=p.1/\lowB p.1 p.2=p.2:=fun p m=>by
 obtain ⟨ws,hw,rfl⟩:=List.mem_map.mp m
 have b:0 < (alFold ws ps).2:=by rw [al_tp (hT ws hw)]; exact bt_pos h
 have z:(alFold ws ps).2 * 1≠0:=by omega
 have c:=low_cross (t:=(alFold ws ps).1 + 0 * (alFold ws ps).2) z
 have lp:=lowB_pos (t:=(alFold ws ps).1 + 0 * (alFold ws ps).2) z
 have:=low_uniq (t:=lowT ((alFold ws ps).1 + 0 * (alFold ws ps).2) ((alFold ws ps).2 * 1)) (b:=lowB ((alFold ws ps).1 + 0 * (alFold ws ps).2) ((alFold ws ps).2 * 1)) (t':=(alFold ws ps).1 + 0 * (alFold ws ps).2) (b':=(alFold ws ps).2 * 1) lp (by omega) c
 exact this
theorem turnP_back {n:Nat} {T B:List (List Int)} {ps:List (Int × Int)} {xs:List Int} (h:Half ps xs) (hl:∀ p∈ps,lowT p.1 p.2=p.1/\lowB p.1 p.2=p.2) (n1:ps.length=n) (hT:T.length=n/\∀ r∈T,r.length=n) (hB:∀ r∈B,r.length=n) (e:prodM B T n=unitsM n):turnP B (turnP T ps)=ps:=by
 have h1:=half_turn h (T:=T) (fun r m=>(hT.2 r m).trans n1.symm)
 have lt:(turnP T ps).length=n:=(List.length_map _).trans hT.1
 have h2:=half_turn h1 (T:=B) (fun r m=>(hB r m).trans lt.symm)
 rw [dot_back hT.2 e (by rw [<- h.len,n1])] at h2
 exact half_uniq h2 h (turnP_low h1.pos (fun r m=>(hB r m).trans lt.symm)) hl
theorem along_turn {n:Nat} {T B:List (List Int)} {ps:List (Int × Int)} {xs r:List Int} (h:Half ps xs) (n1:ps.length=n) (hT:T.length=n/\∀ r∈T,r.length=n) (hB:∀ r∈B,r.length=n) (e:prodM B T n=unitsM n) (hr:r.length=n) :
  lowT (alFold ((List.range n).map (plcL r B)) (turnP T ps)).1 (alFold ((List.range n).map (plcL r B)) (turnP T ps)).2=lowT (alFold r ps).1 (alFold r ps).2/\lowB (alFold ((List.range n).map (plcL r B)) (turnP T ps)).1 (alFold ((List.range n).map (plcL r B)) (turnP T ps)).2=lowB (alFold r ps).1 (alFold r ps).2:=by
 have h1:=half_turn h (T:=T) (fun r m=>(hT.2 r m).trans n1.symm)
 have lt:(turnP T ps).length=n:=(List.length_map _).trans hT.1
 obtain ⟨e1,p1⟩:=half_al h1 (ws:=(List.range n).map (plcL r B)) (by rw [List.length_map,List.length_range,lt])
 obtain ⟨e2,p2⟩:=half_al h (ws:=r) (by omega)
 rw [sumP_rm r B hB,dot_back hT.2 e (by rw [<- h.len,n1])] at e1
 exact low_two p1 p2 e1 e2
theorem low_odd (a:Int):lowT (2 * a + 1) 2=2 * a + 1/\lowB (2 * a + 1) 2=2:=by
 have g:cm (2 * a + 1) 2=1:=by
  rw [cm_pos_eq (by decide)]
  have d1:=Int.gcd_dvd_left (2 * a + 1) 2
  have d2:=Int.gcd_dvd_right (2 * a + 1) 2
  have d3:(Int.gcd (2 * a + 1) 2:Int) ∣ 1:=by
   have:=Int.dvd_sub d1 (Int.dvd_trans d2 ⟨a,rfl⟩:(Int.gcd (2 * a + 1) 2:Int) ∣ 2 * a)
   rwa [show (2 * a + 1) - 2 * a=(1:Int) by omega] at this
  have:=Int.le_of_dvd (by decide) d3
  have p:0 < Int.gcd (2 * a + 1) 2:=Int.gcd_pos_of_ne_zero_right _ (by decide)
  omega
 unfold lowT lowB
 rw [g]
 exact ⟨Int.fdiv_one _,Int.fdiv_one _⟩
end Sh
namespace K85
open PySem L2 Sh
noncomputable def top (i:Nat):Stmt:=PySem.Challenge.pw_steadyhand_k85_things_turned.main.body.getD i (.Pass ⟨0,0,0,0⟩)
structure Bl (mg:Str->Option Value):Prop where
 isinstance_:mg "isinstance" = none
 int_:mg "int" = none
 bool_:mg "bool" = none
 tuple_:mg "tuple" = none
 len_:mg "len" = none
 all_:mg "all" = none
 list_:mg "list" = none
 range_:mg "range" = none
 zip_:mg "zip" = none
 sum_:mg "sum" = none
 abs_:mg "abs" = none
 ValueError_:mg "ValueError" = none
 MOST_NUMBERS_:∃ t,mg "MOST_NUMBERS" = some (.int 3 t)
 MOST_PUSHES_:∃ t,mg "MOST_PUSHES" = some (.int 6 t)
 MOST_MODES_:∃ t,mg "MOST_MODES" = some (.int 40 t)
structure AtMode (K:PySem.W.Frag) (C:Addr):Prop where
 n_rows:NoAttr K C "rows"
 n_nexts:NoAttr K C "nexts"
 n_steer:NoAttr K C "steer"
 n_push:NoAttr K C "push"
 n_add:NoAttr K C "add"
 n_divisor:NoAttr K C "divisor"
structure AtThing (K:PySem.W.Frag) (C:Addr):Prop where
 n_many:NoAttr K C "many"
 n_kept_pushes:NoAttr K C "kept_pushes"
 n_kept_modes:NoAttr K C "kept_modes"
section
variable {P:Program} {w:World} {K:PySem.W.Frag} {mg:Str->Option Value} {base:Heap}
noncomputable abbrev s_is_whole:Stmt:=top 9
theorem sc_is_whole:FnScope ["thing"] ["thing"] (defScope s_is_whole):=⟨rfl,rfl,rfl,by decide +kernel,rfl,by decide +kernel,by decide +kernel⟩
noncomputable abbrev s_common_divisor:Stmt:=top 10
theorem sc_common_divisor:FnScope ["numbers","common","number","rest","left"] ["numbers"] (defScope s_common_divisor):=⟨rfl,rfl,rfl,by decide +kernel,rfl,by decide +kernel,by decide +kernel⟩
noncomputable abbrev s_fraction:Stmt:=top 11
theorem sc_fraction:FnScope ["top","bottom","common"] ["top","bottom"] (defScope s_fraction):=⟨rfl,rfl,rfl,by decide +kernel,rfl,by decide +kernel,by decide +kernel⟩
noncomputable abbrev s_copied:Stmt:=top 15
theorem sc_copied:FnScope ["value","depth"] ["value","depth"] (defScope s_copied):=⟨rfl,rfl,rfl,by decide +kernel,rfl,by decide +kernel,by decide +kernel⟩
noncomputable abbrev s_is_numbers:Stmt:=top 13
theorem sc_is_numbers:FnScope ["value","count"] ["value","count"] (defScope s_is_numbers):=⟨rfl,rfl,rfl,by decide +kernel,rfl,by decide +kernel,by decide +kernel⟩
noncomputable abbrev s_is_table:Stmt:=top 14
theorem sc_is_table:FnScope ["value","tall","wide"] ["value","tall","wide"] (defScope s_is_table):=⟨rfl,rfl,rfl,by decide +kernel,rfl,by decide +kernel,by decide +kernel⟩
noncomputable abbrev s_is_row:Stmt:=top 20
theorem sc_is_row:FnScope ["value","many"] ["value","many"] (defScope s_is_row):=⟨rfl,rfl,rfl,by decide +kernel,rfl,by decide +kernel,by decide +kernel⟩
noncomputable abbrev s_is_room:Stmt:=top 21
theorem sc_is_room:FnScope ["value","many"] ["value","many"] (defScope s_is_room):=⟨rfl,rfl,rfl,by decide +kernel,rfl,by decide +kernel,by decide +kernel⟩
noncomputable abbrev s_is_push:Stmt:=top 32
theorem sc_is_push:FnScope ["value"] ["value"] (defScope s_is_push):=⟨rfl,rfl,rfl,by decide +kernel,rfl,by decide +kernel,by decide +kernel⟩
noncomputable abbrev s_Mode___init__:Stmt:=inClass (top 29) 0
theorem sc_Mode___init__:FnScope ["self","rows","nexts","steer","push","add","divisor"] ["self","rows","nexts","steer","push","add","divisor"] (defScope s_Mode___init__):=⟨rfl,rfl,rfl,by decide +kernel,rfl,by decide +kernel,by decide +kernel⟩
noncomputable abbrev s_is_mode:Stmt:=top 33
theorem sc_is_mode:FnScope ["value","many","wide"] ["value","many","wide"] (defScope s_is_mode):=⟨rfl,rfl,rfl,by decide +kernel,rfl,by decide +kernel,by decide +kernel⟩
noncomputable abbrev s_is_sound:Stmt:=top 31
theorem sc_is_sound:FnScope ["many","pushes","modes"] ["many","pushes","modes"] (defScope s_is_sound):=⟨rfl,rfl,rfl,by decide +kernel,rfl,by decide +kernel,by decide +kernel⟩
noncomputable abbrev s_Thing___init__:Stmt:=inClass (top 30) 0
theorem sc_Thing___init__:FnScope ["self","many","pushes","modes"] ["self","many","pushes","modes"] (defScope s_Thing___init__):=⟨rfl,rfl,rfl,by decide +kernel,rfl,by decide +kernel,by decide +kernel⟩
noncomputable abbrev s_Thing_pushes:Stmt:=inClass (top 30) 1
theorem sc_Thing_pushes:FnScope ["self"] ["self"] (defScope s_Thing_pushes):=⟨rfl,rfl,rfl,by decide +kernel,rfl,by decide +kernel,by decide +kernel⟩
noncomputable abbrev s_Thing_modes:Stmt:=inClass (top 30) 2
theorem sc_Thing_modes:FnScope ["self"] ["self"] (defScope s_Thing_modes):=⟨rfl,rfl,rfl,by decide +kernel,rfl,by decide +kernel,by decide +kernel⟩
noncomputable abbrev s_raw_sum:Stmt:=top 22
theorem sc_raw_sum:FnScope ["numbers","point","top","bottom","number","part"] ["numbers","point"] (defScope s_raw_sum):=⟨rfl,rfl,rfl,by decide +kernel,rfl,by decide +kernel,by decide +kernel⟩
noncomputable abbrev s_divided_sum:Stmt:=top 24
theorem sc_divided_sum:FnScope ["numbers","point","add","divisor","total"] ["numbers","point","add","divisor"] (defScope s_divided_sum):=⟨rfl,rfl,rfl,by decide +kernel,rfl,by decide +kernel,by decide +kernel⟩
variable {aMode aThing:Addr} (TMode:ClsF K mg "Mode" aMode) (AMode:AtMode K aMode) (TThing:ClsF K mg "Thing" aThing) (AThing:AtThing K aThing)
include TMode AMode TThing AThing
theorem ok_is_whole {k:Nat} {f:Addr} {fd:FuncData} (F:Fun K "is_whole" "is_whole" s_is_whole f fd) (B:Bl mg):FnOk P w K mg base CX0 (k + 1) f fd ["thing"] spWholeD:=by
 refine F.ok sc_is_whole (fun vs H Q E h=>?_) (fun cdv A outer s H vs Q E hr h=>?_)
 ·obtain ⟨v,d,rfl,_⟩:=h
  rfl
 obtain ⟨v,d,rfl,hd,q⟩:=h
 refine ⟨_,(pss_one (ps_ret (pe_and (pe_callB jinst rfl B.isinstance_ boot_isinstance_ (pa_cons (L2.pvj 0) (pa_cons (pe_bltn (v:=.ty "int") (u:=.type "int") rfl B.int_ boot_int_ rfl) pa_nil))) (pe_one (pe_not (pe_callB jinst rfl B.isinstance_ boot_isinstance_ (pa_cons (L2.pvj 0) (pa_cons (pe_bltn (v:=.ty "bool") (u:=.type "bool") rfl B.bool_ boot_bool_ rfl) pa_nil)))))))),?_⟩
 try dsimp only [cxOf,Cx.nox,Cx.wish]
 refine ⟨_,rfl,_,_,_,_,rfl,hd.kof.ty,kd_int K d.kd,_,rfl,?_⟩
 cases hd with
 | int i=>exact iteB1 rfl ⟨_,rfl,_,_,_,_,rfl,Kof.ty (.int i),kd_bool K .int,_,rfl,q⟩
 | bool b=>exact iteB1 rfl ⟨_,rfl,_,_,_,_,rfl,Kof.ty (.bl b),kd_bool K .bool,_,rfl,q⟩
 | non=>exact iteB0 rfl q
 | str x=>exact iteB0 rfl q
 | dic e=>exact iteB0 rfl q
 | lst e h=>exact iteB0 rfl q
 | tup e h=>exact iteB0 rfl q
theorem ok_common_divisor {k:Nat} {f:Addr} {fd:FuncData} (F:Fun K "common_divisor" "common_divisor" s_common_divisor f fd) (B:Bl mg):FnOk P w K mg base CX0 (k + 1) f fd ["numbers"] (spCommon K):=by
 refine F.ok sc_common_divisor (fun vs H Q E h=>?_) (fun cdv A outer s H vs Q E hr h=>?_)
 ·obtain ⟨a,ns,rfl,_⟩:=h
  rfl
 obtain ⟨a,ns,rfl,hS,q⟩:=h
 refine ⟨_,(pss_cons (ps_set (i:=1) sc_common_divisor.nd rfl (Or.inl rfl) pe_int)
  (pss_cons (ps_for PassesOwn.never rfl (pi_tup (L2.pvj 0)) (pg_name (i:=2) sc_common_divisor.nd rfl (Or.inl rfl)) (pss_cons (ps_set (i:=3) sc_common_divisor.nd rfl (Or.inl rfl) (pe_callB call_abs rfl B.abs_ boot_abs_ (pa_cons (L2.pvj 2) pa_nil)))
   (pss_one (ps_while PassesOwn.never (pt_cmpR op_ne (L2.pvj 3) pe_int (nomark _)) (pss_cons (ps_set (i:=4) sc_common_divisor.nd rfl (Or.inl rfl) (pe_op (ji op_modN) (L2.pvj 1) (L2.pvj 3)))
    (pss_cons (ps_set (i:=1) sc_common_divisor.nd rfl (Or.inl rfl) (L2.pvj 3))
    (pss_one (ps_set (i:=3) sc_common_divisor.nd rfl (Or.inl rfl) (L2.pvj 4)))))))))
  (pss_one (ps_ret (L2.pvj 1))))),?_⟩
 try dsimp only [cxOf,Cx.nox,Cx.wish]
 refine ⟨_,rfl,a,rfl,⟨_,hS⟩,for_tup (K:=K) (a:=a) (xs:=ns.map V.int) (fun i σ H2=>∃ n r l,σ=[some (.ref a),some (.int (gcdAll (ns.take i))),n,r,l]/\H2=H)
  ⟨none,none,none,rfl,rfl⟩ (fun i σ H2 _ ⟨_,_,_,_,e⟩=>e ▸ hS) ?_ ?_⟩
 ·rintro i x σ H2 hi ⟨n,r,l,rfl,rfl⟩
  obtain ⟨z,hz,rfl⟩:∃ z,ns[i]? = some z/\x=V.int z:=by
   rw [List.getElem?_map] at hi
   cases e:ns[i]? with
   | none=>rw [e] at hi; cases hi
   | some z=>rw [e] at hi; exact ⟨z,rfl,(Option.some.inj hi).symm⟩
  have hlt:i < ns.length:=(List.getElem?_eq_some_iff.mp hz).1
  have ez:ns[i]=z:=(List.getElem?_eq_some_iff.mp hz).2
  have tk:gcdAll (ns.take (i + 1))=(Int.gcd (gcdAll (ns.take i)) z:Int):=by rw [List.take_succ_eq_append_getElem hlt,gcdAll_snoc,ez]
  refine ⟨_,rfl,z,rfl,?_⟩
  refine while_by (fun σ H'=>∃ (c r:Int) (l:Option V),σ=[some (.ref a),some (.int c),some (.int z),some (.int r),l]/\H'=H2/\0<=c/\0<=r/\Int.gcd c r=Int.gcd (gcdAll (ns.take i)) z)
   (fun σ _=>match σ with | [_,_,_,some (.int r),_]=>r.toNat | _=>0) ⟨_,_,l,rfl,rfl,gcdAll_nonneg _,(by split <;> omega),gcd_abs _ _⟩ ?_ ?_
  ·rintro σ H' ⟨c,r,l,rfl,rfl,hc,hr0,hg⟩
   refine ⟨_,rfl,rfl,_,rfl,?_⟩
   by_cases z0:r=0
   ·subst z0
    refine iteNS rfl ?_
    rw [Int.gcd_zero_right] at hg
    have ec:c=gcdAll (ns.take (i + 1)):=by rw [tk]; omega
    exact ⟨_,_,_,by rw [ec],rfl⟩
   ·have ne:¬ (V.int r=V.int 0):=fun e=>z0 (by injection e)
    refine iteB1 (ndec_no z0) ?_
    refine ⟨_,rfl,_,rfl,_,_,rfl,rfl,z0,_,rfl,_,rfl,?_⟩
    have h1:=Int.fmod_nonneg_of_pos c (show 0 < r by omega)
    have h2:=Int.fmod_lt_of_pos c (show 0 < r by omega)
    refine ⟨⟨r,c.fmod r,_,rfl,rfl,hr0,h1,by rw [gcd_turn]; exact hg⟩,?_⟩
    show (c.fmod r).toNat < r.toNat
    omega
  ·rintro σ H' Q1 Q2 h ⟨v,e,sc,k,ek,q1⟩
   exact ⟨v,e,sc,k,ek,h _ _ q1⟩
 ·rintro σ H2 ⟨n,r,l,rfl,rfl⟩
  refine ⟨_,rfl,?_⟩
  rw [List.length_map,List.take_length]
  exact q
theorem ok_fraction {k:Nat} {f:Addr} {fd:FuncData} {dv:Value} (F:FunD K "fraction" "fraction" s_fraction f fd dv) (B:Bl mg) (c_is_whole:Fn P w K mg base "is_whole" ["thing"] k spWholeD) (c_common_divisor:Fn P w K mg base "common_divisor" ["numbers"] k (spCommon K)):FnOk P w K mg base CX0 (k + 1) f fd ["top","bottom"] spFraction:=by
 refine F.ok sc_fraction (fun vs H Q E h=>?_) (fun cdv A outer s H vs Q E hr h=>?_)
 ·obtain ⟨t,b,rfl,_⟩:=h
  rfl
 obtain ⟨t,b,rfl,b0,bb,q⟩:=h
 refine ⟨_,(pss_cons (ps_if (PW.pt (pw_or (pt_not (pt_val (pe_callF c_is_whole hr rfl (pa_cons (L2.pvj 0) pa_nil)))) (pw_or1 (pt_not (pt_val (pe_callF c_is_whole hr rfl (pa_cons (L2.pvj 1) pa_nil))))))) (pss_one ps_never) pss_nil)
  (pss_cons (ps_if (pt_cmpR op_eq (L2.pvj 1) pe_int (nomark _)) (pss_one ps_never) pss_nil)
  (pss_cons (ps_set (i:=2) sc_fraction.nd rfl (Or.inl rfl) (pe_callF c_common_divisor hr rfl (pa_cons (pe_tup (pa_cons (L2.pvj 0) (pa_cons (L2.pvj 1) pa_nil))) pa_nil)))
  (pss_cons (ps_if (pt_cmpR (ji0 op_lt) (L2.pvj 1) pe_int (nomark _)) (pss_one (ps_set (i:=2) sc_fraction.nd rfl (Or.inl rfl) (pe_un un_neg (L2.pvj 2)))) pss_nil)
  (pss_one (ps_ret (pe_tup (pa_cons (pe_op (ji op_fdivW) (L2.pvj 0) (L2.pvj 2)) (pa_cons (pe_op (ji op_fdivW) (L2.pvj 1) (L2.pvj 2)) pa_nil))))))))),?_⟩
 try dsimp only [cxOf,Cx.nox,Cx.wish]
 refine ⟨_,rfl,.int t,.int t,rfl,.int t,_,rfl,iteF ?_⟩
 refine ⟨_,rfl,.int b,.int b,rfl,.int b,_,rfl,iteF ?_⟩
 refine ⟨_,rfl,rfl,_,rfl,?_⟩
 refine iteB0 (dec_no b0) ?_
 refine ⟨_,rfl,_,rfl,(by show 2<=sizeLine; decide),fun p hp=>?_⟩
 refine ⟨p,[t,b],rfl,SqT.of upd_same,?_⟩
 rw [gcdAll_two]
 have sm:=same_new hp (HO.tup [.int t,.int b])
 have fin:∀ c:Int,c=cm t b->∀ D':Hp,D'=upd H p (.tup [.int t,.int b])->(t.fdiv c)=lowT t b/\b.fdiv c=lowB t b/\c≠0/\Bd 8000 c:=fun c e _ _=>by
  subst e
  exact ⟨rfl,rfl,cm_ne b0,bd_cm bb b0⟩
 refine ⟨_,rfl,_,_,rfl,rfl,_,rfl,?_⟩
 refine ite2 (fun hb=>?_) (fun hb=>?_)
 ·have hb':b < 0:=of_decide_eq_true hb
  refine ⟨_,rfl,_,rfl,?_⟩
  have ec : -(Int.gcd t b:Int)=cm t b:=by unfold cm; rw [if_pos hb']
  obtain ⟨e1,e2,e3,e4⟩:=fin _ ec _ rfl
  refine ⟨_,rfl,_,rfl,_,_,rfl,rfl,⟨e3,e4⟩,_,rfl,_,rfl,_,_,rfl,rfl,⟨e3,e4⟩,(by show 2<=sizeLine; decide),fun r hr'=>?_⟩
  exact q r _ (sm.trans (same_new hr' _)) (upd_same.trans (by show some (HO.tup [V.int (t.fdiv _),V.int (b.fdiv _)])=_; rw [e1,e2]))
 ·have hb':¬ b < 0:=fun z=>hb (decide_eq_true z)
  have ec:(Int.gcd t b:Int)=cm t b:=by unfold cm; rw [if_neg hb']
  obtain ⟨e1,e2,e3,e4⟩:=fin _ ec _ rfl
  refine ⟨_,rfl,_,rfl,_,_,rfl,rfl,⟨e3,e4⟩,_,rfl,_,rfl,_,_,rfl,rfl,⟨e3,e4⟩,(by show 2<=sizeLine; decide),fun r hr'=>?_⟩
  exact q r _ (sm.trans (same_new hr' _)) (upd_same.trans (by show some (HO.tup [V.int (t.fdiv _),V.int (b.fdiv _)])=_; rw [e1,e2]))
theorem ok_copied_0 {k:Nat} {f:Addr} {fd:FuncData} {dv:Value} (F:FunD K "copied" "copied" s_copied f fd dv) (B:Bl mg) (c_copied:FnD P w K mg base "copied" ["value","depth"] k spNone (.int 5)):FnOk P w K mg base CX0 (k + 1) f fd ["value","depth"] spC0:=by
 refine F.ok sc_copied (fun vs H Q E h=>?_) (fun cdv A outer s H vs Q E hr h=>?_)
 ·obtain ⟨i,d,rfl,_⟩:=h
  rfl
 refine ⟨_,(pss_cons (ps_if (pt_cmpR op_eq (L2.pvj 1) pe_int (nomark _)) (pss_one (ps_ret (L2.pvj 0))) pss_nil)
  (pss_cons (ps_if (pt_val (pe_callB jinst rfl B.isinstance_ boot_isinstance_ (pa_cons (L2.pvj 0) (pa_cons (pe_bltn (v:=.ty "list") (u:=.type "list") rfl B.list_ boot_list_ rfl) pa_nil)))) (pss_one (ps_ret (pe_comp (own:=["part"]) (caps:=[(1,"depth")]) (blk_cap (S:=defScope s_copied) (N:=["value","depth"]) rfl (by decide +kernel) rfl ⟨_,rfl⟩ rfl (by decide +kernel) (by decide +kernel)) rfl (pi_list (L2.pvj 0)) (fun _ _ _ _=>pg_name (i:=0) (show (["part","depth"]:List Str).Nodup by decide +kernel) rfl (Or.inl rfl)) (fun _ _ _ _=>(pe_callF c_copied.fn hr rfl (pa_cons (L2.pvj 0) (pa_cons (pe_op (ji0 op_sub) (L2.pvj 1) pe_int) pa_nil))))))) pss_nil)
  (pss_cons (ps_if (pt_val (pe_callB jinst rfl B.isinstance_ boot_isinstance_ (pa_cons (L2.pvj 0) (pa_cons (pe_bltn (v:=.ty "tuple") (u:=.type "tuple") rfl B.tuple_ boot_tuple_ rfl) pa_nil)))) (pss_one (ps_ret (pe_callTy jtup rfl B.tuple_ boot_tuple_ (pa_cons (pe_comp (own:=["part"]) (caps:=[(1,"depth")]) (blk_cap (S:=defScope s_copied) (N:=["value","depth"]) rfl (by decide +kernel) rfl ⟨_,rfl⟩ rfl (by decide +kernel) (by decide +kernel)) rfl (pi_tup (L2.pvj 0)) (fun _ _ _ _=>pg_name (i:=0) (show (["part","depth"]:List Str).Nodup by decide +kernel) rfl (Or.inl rfl)) (fun _ _ _ _=>(pe_callF c_copied.fn hr rfl (pa_cons (L2.pvj 0) (pa_cons (pe_op (ji0 op_sub) (L2.pvj 1) pe_int) pa_nil))))) pa_nil)))) pss_nil)
  (pss_one (ps_ret (L2.pvj 0)))))),?_⟩
 try dsimp only [cxOf,Cx.nox,Cx.wish]
 obtain ⟨i,d,rfl,q⟩:=h
 refine ⟨_,rfl,rfl,_,rfl,?_⟩
 by_cases d0:d=0
 ·exact iteB1 (dec_yes d0) ⟨_,rfl,q⟩
 refine iteB0 (dec_no d0) ?_
 refine ⟨_,rfl,_,_,_,_,rfl,.int i,kd_lst K .int,_,rfl,iteF ?_⟩
 refine ⟨_,rfl,_,_,_,_,rfl,.int i,kd_tup K .int,_,rfl,iteF ?_⟩
 exact ⟨_,rfl,q⟩
theorem ok_copied_1 {k:Nat} {f:Addr} {fd:FuncData} {dv:Value} (F:FunD K "copied" "copied" s_copied f fd dv) (B:Bl mg) (c_copied:FnD P w K mg base "copied" ["value","depth"] k spC0 (.int 5)):FnOk P w K mg base CX0 (k + 1) f fd ["value","depth"] spC1:=by
 refine F.ok sc_copied (fun vs H Q E h=>?_) (fun cdv A outer s H vs Q E hr h=>?_)
 ·obtain ⟨i,d,rfl,_⟩ | ⟨a,ns,d,rfl,_⟩ | ⟨a,ns,d,rfl,_⟩:=h
  all_goals rfl
 refine ⟨_,(pss_cons (ps_if (pt_cmpR op_eq (L2.pvj 1) pe_int (nomark _)) (pss_one (ps_ret (L2.pvj 0))) pss_nil)
  (pss_cons (ps_if (pt_val (pe_callB jinst rfl B.isinstance_ boot_isinstance_ (pa_cons (L2.pvj 0) (pa_cons (pe_bltn (v:=.ty "list") (u:=.type "list") rfl B.list_ boot_list_ rfl) pa_nil)))) (pss_one (ps_ret (pe_comp (own:=["part"]) (caps:=[(1,"depth")]) (blk_cap (S:=defScope s_copied) (N:=["value","depth"]) rfl (by decide +kernel) rfl ⟨_,rfl⟩ rfl (by decide +kernel) (by decide +kernel)) rfl (pi_list (L2.pvj 0)) (fun _ _ _ _=>pg_name (i:=0) (show (["part","depth"]:List Str).Nodup by decide +kernel) rfl (Or.inl rfl)) (fun _ _ _ _=>(pe_callF c_copied.fn hr rfl (pa_cons (L2.pvj 0) (pa_cons (pe_op (ji0 op_sub) (L2.pvj 1) pe_int) pa_nil))))))) pss_nil)
  (pss_cons (ps_if (pt_val (pe_callB jinst rfl B.isinstance_ boot_isinstance_ (pa_cons (L2.pvj 0) (pa_cons (pe_bltn (v:=.ty "tuple") (u:=.type "tuple") rfl B.tuple_ boot_tuple_ rfl) pa_nil)))) (pss_one (ps_ret (pe_callTy jtup rfl B.tuple_ boot_tuple_ (pa_cons (pe_comp (own:=["part"]) (caps:=[(1,"depth")]) (blk_cap (S:=defScope s_copied) (N:=["value","depth"]) rfl (by decide +kernel) rfl ⟨_,rfl⟩ rfl (by decide +kernel) (by decide +kernel)) rfl (pi_tup (L2.pvj 0)) (fun _ _ _ _=>pg_name (i:=0) (show (["part","depth"]:List Str).Nodup by decide +kernel) rfl (Or.inl rfl)) (fun _ _ _ _=>(pe_callF c_copied.fn hr rfl (pa_cons (L2.pvj 0) (pa_cons (pe_op (ji0 op_sub) (L2.pvj 1) pe_int) pa_nil))))) pa_nil)))) pss_nil)
  (pss_one (ps_ret (L2.pvj 0)))))),?_⟩
 try dsimp only [cxOf,Cx.nox,Cx.wish]
 rcases h with h | h | h
 ·obtain ⟨i,d,rfl,q⟩:=h
  refine ⟨_,rfl,rfl,_,rfl,?_⟩
  by_cases d0:d=0
  ·exact iteB1 (dec_yes d0) ⟨_,rfl,q⟩
  refine iteB0 (dec_no d0) ?_
  refine ⟨_,rfl,_,_,_,_,rfl,.int i,kd_lst K .int,_,rfl,iteF ?_⟩
  refine ⟨_,rfl,_,_,_,_,rfl,.int i,kd_tup K .int,_,rfl,iteF ?_⟩
  exact ⟨_,rfl,q⟩
 ·obtain ⟨a,ns,d,rfl,d1,ha,few,q⟩:=h
  refine ⟨_,rfl,rfl,_,rfl,iteB0 (dec_no (by omega)) ?_⟩
  refine ⟨_,rfl,_,_,_,_,rfl,.lst ha,kit_list_list K,_,rfl,iteT ?_⟩
  refine ⟨_,rfl,a,rfl,⟨_,SqL.of ha⟩,comp_list (K:=K) (a:=a) (xs:=ns.map V.int) (fun i ys σ H'=>ys=(ns.take i).map V.int/\(∃ o,σ=[o,some (.int d)])/\H'=H)
   ⟨rfl,⟨none,rfl⟩,rfl⟩ (fun i ys σ H' hi ⟨e1,_,e3⟩=>⟨by rw [e3]; exact SqL.of ha,by rw [e1,List.length_map,List.length_take]; exact Nat.min_le_left _ _⟩) (by rw [List.length_map]; exact Nat.le_of_lt (small1000 (by omega))) ?_ ?_⟩
  ·rintro i x ys σ H' hi ⟨rfl,⟨o,rfl⟩,rfl⟩
   obtain ⟨z,hz,rfl⟩:=ints_get hi
   refine ⟨_,rfl,_,rfl,_,_,rfl,rfl,⟨z,d - 1,rfl,?_,⟨_,rfl⟩,rfl⟩⟩
   rw [take_snoc hz,List.map_append]
   rfl
  rintro ys σ H' ⟨rfl,⟨o,rfl⟩,rfl⟩ l hl
  refine q l _ (same_new hl _) hl (upd_same.trans ?_)
  rw [List.length_map,List.take_length]
 ·obtain ⟨a,ns,d,rfl,d1,ha,few,q⟩:=h
  refine ⟨_,rfl,rfl,_,rfl,iteB0 (dec_no (by omega)) ?_⟩
  refine ⟨_,rfl,_,_,_,_,rfl,.tup ha,kd_lst K .tup,_,rfl,iteF ?_⟩
  refine ⟨_,rfl,_,_,_,_,rfl,.tup ha,kit_tuple_tuple K,_,rfl,iteT ?_⟩
  refine ⟨_,rfl,a,rfl,⟨_,SqT.of ha⟩,comp_tup (K:=K) (a:=a) (xs:=ns.map V.int) (fun i ys σ H'=>ys=(ns.take i).map V.int/\(∃ o,σ=[o,some (.int d)])/\H'=H)
   ⟨rfl,⟨none,rfl⟩,rfl⟩ (fun i ys σ H' hi ⟨e1,_,e3⟩=>⟨by rw [e3]; exact SqT.of ha,by rw [e1,List.length_map,List.length_take]; exact Nat.min_le_left _ _⟩) (by rw [List.length_map]; exact Nat.le_of_lt (small1000 (by omega))) ?_ ?_⟩
  ·rintro i x ys σ H' hi ⟨rfl,⟨o,rfl⟩,rfl⟩
   obtain ⟨z,hz,rfl⟩:=ints_get hi
   refine ⟨_,rfl,_,rfl,_,_,rfl,rfl,⟨z,d - 1,rfl,?_,⟨_,rfl⟩,rfl⟩⟩
   rw [take_snoc hz,List.map_append]
   rfl
  rintro ys σ H' ⟨rfl,⟨o,rfl⟩,rfl⟩ l hl
  refine ⟨l,_,rfl,.inl ⟨SqL.of upd_same,fun t ht=>?_⟩⟩
  refine q t _ ((same_new hl _).trans (same_new ht _)) ((same_new hl _).free ht) (upd_same.trans ?_)
  rw [List.length_map,List.take_length]
theorem ok_copied_2 {k:Nat} {f:Addr} {fd:FuncData} {dv:Value} (F:FunD K "copied" "copied" s_copied f fd dv) (B:Bl mg) (c_copied:FnD P w K mg base "copied" ["value","depth"] k spC1 (.int 5)):FnOk P w K mg base CX0 (k + 1) f fd ["value","depth"] spC2:=by
 refine F.ok sc_copied (fun vs H Q E h=>?_) (fun cdv A outer s H vs Q E hr h=>?_)
 ·obtain (⟨i,d,rfl,_⟩ | ⟨a,ns,d,rfl,_⟩ | ⟨a,ns,d,rfl,_⟩) | ⟨a,rv,rows,d,rfl,_⟩ | ⟨a,tv,tab,d,rfl,_⟩:=h
  all_goals rfl
 refine ⟨_,(pss_cons (ps_if (pt_cmpR op_eq (L2.pvj 1) pe_int (nomark _)) (pss_one (ps_ret (L2.pvj 0))) pss_nil)
  (pss_cons (ps_if (pt_val (pe_callB jinst rfl B.isinstance_ boot_isinstance_ (pa_cons (L2.pvj 0) (pa_cons (pe_bltn (v:=.ty "list") (u:=.type "list") rfl B.list_ boot_list_ rfl) pa_nil)))) (pss_one (ps_ret (pe_comp (own:=["part"]) (caps:=[(1,"depth")]) (blk_cap (S:=defScope s_copied) (N:=["value","depth"]) rfl (by decide +kernel) rfl ⟨_,rfl⟩ rfl (by decide +kernel) (by decide +kernel)) rfl (pi_list (L2.pvj 0)) (fun _ _ _ _=>pg_name (i:=0) (show (["part","depth"]:List Str).Nodup by decide +kernel) rfl (Or.inl rfl)) (fun _ _ _ _=>(pe_callF c_copied.fn hr rfl (pa_cons (L2.pvj 0) (pa_cons (pe_op (ji0 op_sub) (L2.pvj 1) pe_int) pa_nil))))))) pss_nil)
  (pss_cons (ps_if (pt_val (pe_callB jinst rfl B.isinstance_ boot_isinstance_ (pa_cons (L2.pvj 0) (pa_cons (pe_bltn (v:=.ty "tuple") (u:=.type "tuple") rfl B.tuple_ boot_tuple_ rfl) pa_nil)))) (pss_one (ps_ret (pe_callTy jtup rfl B.tuple_ boot_tuple_ (pa_cons (pe_comp (own:=["part"]) (caps:=[(1,"depth")]) (blk_cap (S:=defScope s_copied) (N:=["value","depth"]) rfl (by decide +kernel) rfl ⟨_,rfl⟩ rfl (by decide +kernel) (by decide +kernel)) rfl (pi_tup (L2.pvj 0)) (fun _ _ _ _=>pg_name (i:=0) (show (["part","depth"]:List Str).Nodup by decide +kernel) rfl (Or.inl rfl)) (fun _ _ _ _=>(pe_callF c_copied.fn hr rfl (pa_cons (L2.pvj 0) (pa_cons (pe_op (ji0 op_sub) (L2.pvj 1) pe_int) pa_nil))))) pa_nil)))) pss_nil)
  (pss_one (ps_ret (L2.pvj 0)))))),?_⟩
 try dsimp only [cxOf,Cx.nox,Cx.wish]
 rcases h with (h | h | h) | h | h
 ·obtain ⟨i,d,rfl,q⟩:=h
  refine ⟨_,rfl,rfl,_,rfl,?_⟩
  by_cases d0:d=0
  ·exact iteB1 (dec_yes d0) ⟨_,rfl,q⟩
  refine iteB0 (dec_no d0) ?_
  refine ⟨_,rfl,_,_,_,_,rfl,.int i,kd_lst K .int,_,rfl,iteF ?_⟩
  refine ⟨_,rfl,_,_,_,_,rfl,.int i,kd_tup K .int,_,rfl,iteF ?_⟩
  exact ⟨_,rfl,q⟩
 ·obtain ⟨a,ns,d,rfl,d1,ha,few,q⟩:=h
  refine ⟨_,rfl,rfl,_,rfl,iteB0 (dec_no (by omega)) ?_⟩
  refine ⟨_,rfl,_,_,_,_,rfl,.lst ha,kit_list_list K,_,rfl,iteT ?_⟩
  refine ⟨_,rfl,a,rfl,⟨_,SqL.of ha⟩,comp_list (K:=K) (a:=a) (xs:=ns.map V.int) (fun i ys σ H'=>ys=(ns.take i).map V.int/\(∃ o,σ=[o,some (.int d)])/\H'=H)
   ⟨rfl,⟨none,rfl⟩,rfl⟩ (fun i ys σ H' hi ⟨e1,_,e3⟩=>⟨by rw [e3]; exact SqL.of ha,by rw [e1,List.length_map,List.length_take]; exact Nat.min_le_left _ _⟩) (by rw [List.length_map]; exact Nat.le_of_lt (small1000 (by omega))) ?_ ?_⟩
  ·rintro i x ys σ H' hi ⟨rfl,⟨o,rfl⟩,rfl⟩
   obtain ⟨z,hz,rfl⟩:=ints_get hi
   refine ⟨_,rfl,_,rfl,_,_,rfl,rfl,.inl ⟨z,d - 1,rfl,?_,⟨_,rfl⟩,rfl⟩⟩
   rw [take_snoc hz,List.map_append]
   rfl
  rintro ys σ H' ⟨rfl,⟨o,rfl⟩,rfl⟩ l hl
  refine q l _ (same_new hl _) hl (upd_same.trans ?_)
  rw [List.length_map,List.take_length]
 ·obtain ⟨a,ns,d,rfl,d1,ha,few,q⟩:=h
  refine ⟨_,rfl,rfl,_,rfl,iteB0 (dec_no (by omega)) ?_⟩
  refine ⟨_,rfl,_,_,_,_,rfl,.tup ha,kd_lst K .tup,_,rfl,iteF ?_⟩
  refine ⟨_,rfl,_,_,_,_,rfl,.tup ha,kit_tuple_tuple K,_,rfl,iteT ?_⟩
  refine ⟨_,rfl,a,rfl,⟨_,SqT.of ha⟩,comp_tup (K:=K) (a:=a) (xs:=ns.map V.int) (fun i ys σ H'=>ys=(ns.take i).map V.int/\(∃ o,σ=[o,some (.int d)])/\H'=H)
   ⟨rfl,⟨none,rfl⟩,rfl⟩ (fun i ys σ H' hi ⟨e1,_,e3⟩=>⟨by rw [e3]; exact SqT.of ha,by rw [e1,List.length_map,List.length_take]; exact Nat.min_le_left _ _⟩) (by rw [List.length_map]; exact Nat.le_of_lt (small1000 (by omega))) ?_ ?_⟩
  ·rintro i x ys σ H' hi ⟨rfl,⟨o,rfl⟩,rfl⟩
   obtain ⟨z,hz,rfl⟩:=ints_get hi
   refine ⟨_,rfl,_,rfl,_,_,rfl,rfl,.inl ⟨z,d - 1,rfl,?_,⟨_,rfl⟩,rfl⟩⟩
   rw [take_snoc hz,List.map_append]
   rfl
  rintro ys σ H' ⟨rfl,⟨o,rfl⟩,rfl⟩ l hl
  refine ⟨l,_,rfl,.inl ⟨SqL.of upd_same,fun t ht=>?_⟩⟩
  refine q t _ ((same_new hl _).trans (same_new ht _)) ((same_new hl _).free ht) (upd_same.trans ?_)
  rw [List.length_map,List.take_length]
 ·obtain ⟨a,rv,rows,d,rfl,d1,ha,hrv,few,rl,q⟩:=h
  have lr:rv.length=rows.length:=Paired.length hrv
  refine ⟨_,rfl,rfl,_,rfl,iteB0 (dec_no (by omega)) ?_⟩
  refine ⟨_,rfl,_,_,_,_,rfl,.lst ha,kit_list_list K,_,rfl,iteT ?_⟩
  refine ⟨_,rfl,a,rfl,⟨_,SqL.of ha⟩,comp_list (K:=K) (a:=a) (xs:=rv) (fun i ys σ H'=>WaysV H' ys (rows.take i)/\(∃ o,σ=[o,some (.int d)])/\Same H H')
   ⟨.nil,⟨none,rfl⟩,Same.refl _⟩ (fun i ys σ H' hi ⟨e1,_,sm⟩=>⟨SqL.of (sm _ _ ha),by have:=Paired.length e1; rw [List.length_take] at this; omega⟩) (Nat.le_of_lt (small1000 (by omega))) ?_ ?_⟩
  ·rintro i x ys σ H' hi ⟨hys,⟨o,rfl⟩,sm⟩
   obtain ⟨r,hr',b,rfl,eb⟩:=paired_get hrv hi
   refine ⟨_,rfl,_,rfl,_,_,rfl,rfl,.inr (.inr ⟨b,r,d - 1,rfl,(by omega),sm _ _ eb,rl r (List.mem_of_getElem? hr'),fun t H2 s2 _ et=>?_⟩)⟩
   refine ⟨?_,⟨_,rfl⟩,sm.trans s2⟩
   rw [take_snoc hr']
   exact paired_snoc (R:=fun v (k:List Int)=>Tp H2 v (k.map V.int)) ⟨t,rfl,et⟩ (WaysV.same s2 hys)
  rintro ys σ H' ⟨hys,⟨o,rfl⟩,sm⟩ l hl
  rw [lr,List.take_length] at hys
  exact q l ys _ (sm.trans (same_new hl _)) (sm.free hl) upd_same (WaysV.same (same_new hl _) hys)
 ·obtain ⟨a,tv,tab,d,rfl,d1,ha,htv,few,rl,q⟩:=h
  have lr:tv.length=tab.length:=Paired.length htv
  refine ⟨_,rfl,rfl,_,rfl,iteB0 (dec_no (by omega)) ?_⟩
  refine ⟨_,rfl,_,_,_,_,rfl,.lst ha,kit_list_list K,_,rfl,iteT ?_⟩
  refine ⟨_,rfl,a,rfl,⟨_,SqL.of ha⟩,comp_list (K:=K) (a:=a) (xs:=tv) (fun i ys σ H'=>Paired (NewL H H') ys (tab.take i)/\(∃ o,σ=[o,some (.int d)])/\Same H H')
   ⟨.nil,⟨none,rfl⟩,Same.refl _⟩ (fun i ys σ H' hi ⟨e1,_,sm⟩=>⟨SqL.of (sm _ _ ha),by have:=Paired.length e1; rw [List.length_take] at this; omega⟩) (Nat.le_of_lt (small1000 (by omega))) ?_ ?_⟩
  ·rintro i x ys σ H' hi ⟨hys,⟨o,rfl⟩,sm⟩
   obtain ⟨r,hr',b,rfl,eb⟩:=paired_get htv hi
   refine ⟨_,rfl,_,rfl,_,_,rfl,rfl,.inr (.inl ⟨b,r,d - 1,rfl,(by omega),sm _ _ eb,rl r (List.mem_of_getElem? hr'),fun t H2 s2 tn et=>?_⟩)⟩
   refine ⟨?_,⟨_,rfl⟩,sm.trans s2⟩
   rw [take_snoc hr']
   exact paired_snoc (R:=NewL H H2) ⟨t,rfl,sm.free tn,et⟩ (Paired.mapP hys fun _ _ ⟨c,e,n,k⟩=>⟨c,e,n,s2 _ _ k⟩)
  rintro ys σ H' ⟨hys,⟨o,rfl⟩,sm⟩ l hl
  rw [lr,List.take_length] at hys
  have z:=same_new hl (HO.lst ys)
  exact q l ys _ (sm.trans z) (sm.free hl) upd_same (Paired.mapP hys fun _ _ ⟨c,e,n,k⟩=>⟨c,e,n,z _ _ k⟩)
theorem ok_is_numbers {k:Nat} {f:Addr} {fd:FuncData} (F:Fun K "is_numbers" "is_numbers" s_is_numbers f fd) (B:Bl mg) (c_is_whole:Fn P w K mg base "is_whole" ["thing"] k spWholeD):FnOk P w K mg base CX0 (k + 1) f fd ["value","count"] spNumsD:=by
 refine F.ok sc_is_numbers (fun vs H Q E h=>?_) (fun cdv A outer s H vs Q E hr h=>?_)
 ·obtain ⟨v,d,n,rfl,_⟩:=h
  rfl
 obtain ⟨v,d,n,rfl,hd,few,q⟩:=h
 refine ⟨_,(pss_one (ps_ret (pe_and (pe_callB jinst rfl B.isinstance_ boot_isinstance_ (pa_cons (L2.pvj 0) (pa_cons (pe_bltn (v:=.ty "list") (u:=.type "list") rfl B.list_ boot_list_ rfl) pa_nil))) (pe_and (pe_cmpR op_eq (pe_callB jlen rfl B.len_ boot_len_ (pa_cons (L2.pvj 0) pa_nil)) (L2.pvj 1) (nomark _)) (pe_one (pe_callB (call_all rfl) rfl B.all_ boot_all_ (pa_cons (pe_comp (own:=["number"]) (caps:=[]) (blk_mk rfl) rfl (pi_list (L2.pvj 0)) (fun _ _ _ _=>pg_name (i:=0) (show (["number"]:List Str).Nodup by decide +kernel) rfl (Or.inl rfl)) (fun _ _ _ _=>(pe_callF c_is_whole hr rfl (pa_cons (L2.pvj 0) pa_nil)))) pa_nil))))))),?_⟩
 try dsimp only [cxOf,Cx.nox,Cx.wish]
 refine ⟨_,rfl,_,_,_,_,rfl,hd.kof.ty,kd_lst K d.kd,_,rfl,?_⟩
 cases hd with
 | int i=>exact iteB0 rfl (q _ (Same.refl _))
 | bool b=>exact iteB0 rfl (q _ (Same.refl _))
 | non=>exact iteB0 rfl (q _ (Same.refl _))
 | str x=>exact iteB0 rfl (q _ (Same.refl _))
 | dic e=>exact iteB0 rfl (q _ (Same.refl _))
 | tup e h=>exact iteB0 rfl (q _ (Same.refl _))
 | @lst a xs ds e h=>
  have fw:ds.length<=900:=few
  have lx:xs.length=ds.length:=Paired.length h
  refine iteB1 rfl ?_
  refine ⟨_,rfl,a,_,rfl,.inl (SqL.of e),_,rfl,rfl,_,rfl,?_⟩
  by_cases c:((xs.length:Nat):Int)=n
  case neg=>
   refine iteB0 (dec_no c) ?_
   have z:=q _ (Same.refl _)
   rw [show numsD n (.lst ds)=false from by show (decide ((ds.length:Int)=n) && _)=false; rw [decide_eq_false (by rw [<- lx]; exact c)]; rfl] at z
   exact z
  refine iteB1 (dec_yes c) ?_
  refine ⟨_,rfl,a,rfl,⟨_,SqL.of e⟩,comp_list (K:=K) (a:=a) (xs:=xs) (fun i ys σ H'=>ys=((ds.take i).map wholeD).map V.bl/\(∃ o,σ=[o])/\Same H H')
   ⟨rfl,⟨none,rfl⟩,Same.refl _⟩ (fun i ys σ H' hi ⟨e1,_,sm⟩=>⟨SqL.of (sm _ _ e),by rw [e1,List.length_map,List.length_map,List.length_take]; exact Nat.min_le_left _ _⟩) (Nat.le_of_lt (small1000 (by omega))) ?_ ?_⟩
  ·rintro i x ys σ H' hi ⟨rfl,⟨o,rfl⟩,sm⟩
   obtain ⟨d1,hd1,hx⟩:=paired_get h hi
   refine ⟨_,rfl,x,d1,rfl,hx.same sm,?_,⟨_,rfl⟩,sm⟩
   rw [take_snoc hd1,List.map_append,List.map_append]
   rfl
  rintro ys σ H' ⟨rfl,⟨o,rfl⟩,sm⟩ l hl
  refine ⟨l,_,rfl,SqL.of upd_same,?_⟩
  rw [List.take_of_length_le (by omega),show ((ds.map wholeD).all id)=ds.all wholeD by rw [List.all_map]; rfl]
  have z:=q _ (sm.trans (same_new hl (HO.lst (((ds.take xs.length).map wholeD).map V.bl))))
  rw [List.take_of_length_le (by omega)] at z
  rw [show numsD n (.lst ds)=ds.all wholeD from by show (decide ((ds.length:Int)=n) && _)=_; rw [decide_eq_true (by rw [<- lx]; exact c)]; rfl] at z
  exact z
theorem ok_is_table {k:Nat} {f:Addr} {fd:FuncData} (F:Fun K "is_table" "is_table" s_is_table f fd) (B:Bl mg) (c_is_numbers:Fn P w K mg base "is_numbers" ["value","count"] k spNumsD):FnOk P w K mg base CX0 (k + 1) f fd ["value","tall","wide"] spTabD:=by
 refine F.ok sc_is_table (fun vs H Q E h=>?_) (fun cdv A outer s H vs Q E hr h=>?_)
 ·obtain ⟨v,d,n,w0,rfl,_⟩:=h
  rfl
 obtain ⟨v,d,n,w0,rfl,hd,few,q⟩:=h
 refine ⟨_,(pss_one (ps_ret (pe_and (pe_callB jinst rfl B.isinstance_ boot_isinstance_ (pa_cons (L2.pvj 0) (pa_cons (pe_bltn (v:=.ty "list") (u:=.type "list") rfl B.list_ boot_list_ rfl) pa_nil))) (pe_and (pe_cmpR op_eq (pe_callB jlen rfl B.len_ boot_len_ (pa_cons (L2.pvj 0) pa_nil)) (L2.pvj 1) (nomark _)) (pe_one (pe_callB (call_all rfl) rfl B.all_ boot_all_ (pa_cons (pe_comp (own:=["part"]) (caps:=[(2,"wide")]) (blk_cap (S:=defScope s_is_table) (N:=["value","tall","wide"]) rfl (by decide +kernel) rfl ⟨_,rfl⟩ rfl (by decide +kernel) (by decide +kernel)) rfl (pi_list (L2.pvj 0)) (fun _ _ _ _=>pg_name (i:=0) (show (["part","wide"]:List Str).Nodup by decide +kernel) rfl (Or.inl rfl)) (fun _ _ _ _=>(pe_callF c_is_numbers hr rfl (pa_cons (L2.pvj 0) (pa_cons (L2.pvj 1) pa_nil))))) pa_nil))))))),?_⟩
 try dsimp only [cxOf,Cx.nox,Cx.wish]
 refine ⟨_,rfl,_,_,_,_,rfl,hd.kof.ty,kd_lst K d.kd,_,rfl,?_⟩
 cases hd with
 | int i=>exact iteB0 rfl (q _ (Same.refl _))
 | bool b=>exact iteB0 rfl (q _ (Same.refl _))
 | non=>exact iteB0 rfl (q _ (Same.refl _))
 | str x=>exact iteB0 rfl (q _ (Same.refl _))
 | dic e=>exact iteB0 rfl (q _ (Same.refl _))
 | tup e h=>exact iteB0 rfl (q _ (Same.refl _))
 | @lst a xs ds e h=>
  obtain ⟨fw,fw2⟩:=few
  have lx:xs.length=ds.length:=Paired.length h
  refine iteB1 rfl ?_
  refine ⟨_,rfl,a,_,rfl,.inl (SqL.of e),_,rfl,rfl,_,rfl,?_⟩
  by_cases c:((xs.length:Nat):Int)=n
  case neg=>
   refine iteB0 (dec_no c) ?_
   have z:=q _ (Same.refl _)
   rw [show tabD n w0 (.lst ds)=false from by show (decide ((ds.length:Int)=n) && _)=false; rw [decide_eq_false (by rw [<- lx]; exact c)]; rfl] at z
   exact z
  refine iteB1 (dec_yes c) ?_
  refine ⟨_,rfl,a,rfl,⟨_,SqL.of e⟩,comp_list (K:=K) (a:=a) (xs:=xs) (fun i ys σ H'=>ys=((ds.take i).map (numsD w0)).map V.bl/\(∃ o,σ=[o,some (.int w0)])/\Same H H')
   ⟨rfl,⟨none,rfl⟩,Same.refl _⟩ (fun i ys σ H' hi ⟨e1,_,sm⟩=>⟨SqL.of (sm _ _ e),by rw [e1,List.length_map,List.length_map,List.length_take]; exact Nat.min_le_left _ _⟩) (Nat.le_of_lt (small1000 (by omega))) ?_ ?_⟩
  ·rintro i x ys σ H' hi ⟨rfl,⟨o,rfl⟩,sm⟩
   obtain ⟨d1,hd1,hx⟩:=paired_get h hi
   refine ⟨_,rfl,_,rfl,x,d1,w0,rfl,hx.same sm,fw2 d1 (List.mem_of_getElem? hd1),fun H2 s2=>⟨?_,⟨_,rfl⟩,sm.trans s2⟩⟩
   rw [take_snoc hd1,List.map_append,List.map_append]
   rfl
  rintro ys σ H' ⟨rfl,⟨o,rfl⟩,sm⟩ l hl
  refine ⟨l,_,rfl,SqL.of upd_same,?_⟩
  rw [List.take_of_length_le (by omega),show ((ds.map (numsD w0)).all id)=ds.all (numsD w0) by rw [List.all_map]; rfl]
  have z:=q _ (sm.trans (same_new hl (HO.lst (((ds.take xs.length).map (numsD w0)).map V.bl))))
  rw [List.take_of_length_le (by omega)] at z
  rw [show tabD n w0 (.lst ds)=ds.all (numsD w0) from by show (decide ((ds.length:Int)=n) && _)=_; rw [decide_eq_true (by rw [<- lx]; exact c)]; rfl] at z
  exact z
theorem ok_is_row {k:Nat} {f:Addr} {fd:FuncData} (F:Fun K "is_row" "is_row" s_is_row f fd) (B:Bl mg) (c_is_whole:Fn P w K mg base "is_whole" ["thing"] k spWholeD):FnOk P w K mg base CX0 (k + 1) f fd ["value","many"] spIsRow:=by
 refine F.ok sc_is_row (fun vs H Q E h=>?_) (fun cdv A outer s H vs Q E hr h=>?_)
 ·obtain ⟨a,ns,n,rfl,_⟩:=h
  rfl
 obtain ⟨a,ns,n,rfl,ha,ln,few,q⟩:=h
 refine ⟨_,(pss_one (ps_ret (pe_and (pe_callB jinst rfl B.isinstance_ boot_isinstance_ (pa_cons (L2.pvj 0) (pa_cons (pe_bltn (v:=.ty "tuple") (u:=.type "tuple") rfl B.tuple_ boot_tuple_ rfl) pa_nil))) (pe_and (pe_cmpR op_eq (pe_callB jlen rfl B.len_ boot_len_ (pa_cons (L2.pvj 0) pa_nil)) (pe_op (ji0 op_add) (L2.pvj 1) pe_int) (nomark _)) (pe_one (pe_callB (call_all rfl) rfl B.all_ boot_all_ (pa_cons (pe_comp (own:=["number"]) (caps:=[]) (blk_mk rfl) rfl (pi_tup (L2.pvj 0)) (fun _ _ _ _=>pg_name (i:=0) (show (["number"]:List Str).Nodup by decide +kernel) rfl (Or.inl rfl)) (fun _ _ _ _=>(pe_callF c_is_whole hr rfl (pa_cons (L2.pvj 0) pa_nil)))) pa_nil))))))),?_⟩
 try dsimp only [cxOf,Cx.nox,Cx.wish]
 refine ⟨_,rfl,_,_,_,_,rfl,.tup ha,kit_tuple_tuple K,_,rfl,iteT ?_⟩
 refine ⟨_,rfl,a,_,rfl,.inr (SqT.of ha),_,rfl,_,_,rfl,rfl,rfl,_,rfl,iteB1 (dec_yes (by rw [List.length_map,ln]; omega)) ?_⟩
 refine ⟨_,rfl,a,rfl,⟨_,SqT.of ha⟩,comp_tup (K:=K) (a:=a) (xs:=ns.map V.int) (fun i ys σ H'=>ys=(List.replicate i true).map V.bl/\(∃ o,σ=[o])/\H'=H)
  ⟨rfl,⟨none,rfl⟩,rfl⟩ (fun i ys σ H' hi ⟨e1,_,e3⟩=>⟨by rw [e3]; exact SqT.of ha,by rw [e1,List.length_map,List.length_replicate]; exact Nat.le_refl _⟩) (by rw [List.length_map]; exact Nat.le_of_lt (small1000 (by omega))) ?_ ?_⟩
 ·rintro i x ys σ H' hi ⟨rfl,⟨o,rfl⟩,rfl⟩
  obtain ⟨z,hz,rfl⟩:=ints_get hi
  refine ⟨_,rfl,.int z,.int z,rfl,.int z,?_,⟨_,rfl⟩,rfl⟩
  rw [List.replicate_succ',List.map_append]
  rfl
 rintro ys σ H' ⟨rfl,⟨o,rfl⟩,rfl⟩ l hl
 refine ⟨l,List.replicate _ true,rfl,SqL.of upd_same,?_⟩
 rw [all_true]
 exact q _ (same_new hl _)
theorem ok_is_room {k:Nat} {f:Addr} {fd:FuncData} (F:Fun K "is_room" "is_room" s_is_room f fd) (B:Bl mg) (c_is_row:Fn P w K mg base "is_row" ["value","many"] k spIsRow):FnOk P w K mg base CX0 (k + 1) f fd ["value","many"] spIsRoom:=by
 refine F.ok sc_is_room (fun vs H Q E h=>?_) (fun cdv A outer s H vs Q E hr h=>?_)
 ·obtain ⟨a,rv,rows,n,rfl,_⟩:=h
  rfl
 obtain ⟨a,rv,rows,n,rfl,ha,hrv,few,rl,n8,q⟩:=h
 refine ⟨_,(pss_one (ps_ret (pe_and (pe_callB jinst rfl B.isinstance_ boot_isinstance_ (pa_cons (L2.pvj 0) (pa_cons (pe_bltn (v:=.ty "list") (u:=.type "list") rfl B.list_ boot_list_ rfl) pa_nil))) (pe_one (pe_callB (call_all rfl) rfl B.all_ boot_all_ (pa_cons (pe_comp (own:=["row"]) (caps:=[(1,"many")]) (blk_cap (S:=defScope s_is_room) (N:=["value","many"]) rfl (by decide +kernel) rfl ⟨_,rfl⟩ rfl (by decide +kernel) (by decide +kernel)) rfl (pi_list (L2.pvj 0)) (fun _ _ _ _=>pg_name (i:=0) (show (["row","many"]:List Str).Nodup by decide +kernel) rfl (Or.inl rfl)) (fun _ _ _ _=>(pe_callF c_is_row hr rfl (pa_cons (L2.pvj 0) (pa_cons (L2.pvj 1) pa_nil))))) pa_nil)))))),?_⟩
 try dsimp only [cxOf,Cx.nox,Cx.wish]
 have lr:rv.length=rows.length:=Paired.length hrv
 refine ⟨_,rfl,_,_,_,_,rfl,.lst ha,kit_list_list K,_,rfl,iteT ?_⟩
 refine ⟨_,rfl,a,rfl,⟨_,SqL.of ha⟩,comp_list (K:=K) (a:=a) (xs:=rv) (fun i ys σ H'=>ys=(List.replicate i true).map V.bl/\(∃ o,σ=[o,some (.int (n:Int))])/\Same H H')
  ⟨rfl,⟨none,rfl⟩,Same.refl _⟩ (fun i ys σ H' hi ⟨e1,_,sm⟩=>⟨SqL.of (sm _ _ ha),by rw [e1,List.length_map,List.length_replicate]; exact Nat.le_refl _⟩) (Nat.le_of_lt (small1000 (by omega))) ?_ ?_⟩
 ·rintro i x ys σ H' hi ⟨rfl,⟨o,rfl⟩,sm⟩
  obtain ⟨r,hr',b,rfl,eb⟩:=paired_get hrv hi
  refine ⟨_,rfl,_,rfl,b,r,n,rfl,sm _ _ eb,rl r (List.mem_of_getElem? hr'),(by omega),fun H2 s2=>⟨?_,⟨_,rfl⟩,sm.trans s2⟩⟩
  rw [List.replicate_succ',List.map_append]
  rfl
 rintro ys σ H' ⟨rfl,⟨o,rfl⟩,sm⟩ l hl
 refine ⟨l,List.replicate _ true,rfl,SqL.of upd_same,?_⟩
 rw [all_true]
 exact q _ (sm.trans (same_new hl _))
theorem ok_is_push {k:Nat} {f:Addr} {fd:FuncData} (F:Fun K "is_push" "is_push" s_is_push f fd) (B:Bl mg) (c_is_whole:Fn P w K mg base "is_whole" ["thing"] k spWholeD):FnOk P w K mg base CX0 (k + 1) f fd ["value"] spIsPush:=by
 refine F.ok sc_is_push (fun vs H Q E h=>?_) (fun cdv A outer s H vs Q E hr h=>?_)
 ·obtain ⟨a,lo,hi,rfl,_⟩:=h
  rfl
 obtain ⟨a,lo,hi,rfl,ha,lh,q⟩:=h
 refine ⟨_,(pss_cons (ps_if (PW.pt (pw_or (pt_not (pt_val (pe_callB jinst rfl B.isinstance_ boot_isinstance_ (pa_cons (L2.pvj 0) (pa_cons (pe_bltn (v:=.ty "tuple") (u:=.type "tuple") rfl B.tuple_ boot_tuple_ rfl) pa_nil))))) (pw_or1 (pt_cmpR op_ne (pe_callB jlen rfl B.len_ boot_len_ (pa_cons (L2.pvj 0) pa_nil)) pe_int (nomark _))))) (pss_one (ps_ret pe_bl)) pss_nil)
  (pss_one (ps_ret (pe_and (pe_callF c_is_whole hr rfl (pa_cons (pe_ix jix_tup (L2.pvj 0) pe_int (fun _ _=>rfl)) pa_nil)) (pe_and (pe_callF c_is_whole hr rfl (pa_cons (pe_ix jix_tup (L2.pvj 0) pe_int (fun _ _=>rfl)) pa_nil)) (pe_one (pe_cmpR (ji0 op_le) (pe_ix jix_tup (L2.pvj 0) pe_int (fun _ _=>rfl)) (pe_ix jix_tup (L2.pvj 0) pe_int (fun _ _=>rfl)) (nomark _)))))))),?_⟩
 try dsimp only [cxOf,Cx.nox,Cx.wish]
 refine ⟨_,rfl,_,_,_,_,rfl,.tup ha,kit_tuple_tuple K,_,rfl,iteF ?_⟩
 refine ⟨_,rfl,a,_,rfl,.inr (SqT.of ha),rfl,_,rfl,iteNS rfl ?_⟩
 refine ⟨_,rfl,a,_,0,_,rfl,rfl,SqT.of ha,at0,.int lo,.int lo,rfl,.int lo,_,rfl,iteT ?_⟩
 refine ⟨_,rfl,a,_,1,_,rfl,rfl,SqT.of ha,at1,.int hi,.int hi,rfl,.int hi,_,rfl,iteT ?_⟩
 refine ⟨_,rfl,a,_,0,_,rfl,rfl,SqT.of ha,at0,_,rfl,a,_,1,_,rfl,rfl,SqT.of ha,at1,_,_,rfl,rfl,?_⟩
 have z:decide (lo<=hi)=true:=decide_eq_true lh
 show Q (.bl (decide (lo<=hi))) H
 rw [z]
 exact q
theorem ok_Mode___init__ {k:Nat} {f:Addr} {fd:FuncData} (F:Fun K "__init__" "Mode.__init__" s_Mode___init__ f fd) (B:Bl mg) (c_copied:FnD P w K mg base "copied" ["value","depth"] k spC2 (.int 5)):FnOk P w K mg base CX0 (k + 1) f fd ["self","rows","nexts","steer","push","add","divisor"] (spModeInit aMode):=by
 refine F.ok sc_Mode___init__ (fun vs H Q E h=>?_) (fun cdv A outer s H vs Q E hr h=>?_)
 ·obtain ⟨o,dx,ra,na,sa,pa,aa,rv,nv,pv,m,n0,p0,rfl,_⟩:=h
  rfl
 obtain ⟨o,dx,ra,na,sa,pa,aa,rv,nv,pv,m,n0,p0,rfl,ho,MO,hra,hrv,hna,hnv,hsa,hpa,hpv,haa,q⟩:=h
 refine ⟨_,(pss_cons (ps_fld (L2.pvj 0) (pe_callF1 c_copied hr rfl (pa_cons (L2.pvj 1) pa_nil)) rfl)
  (pss_cons (ps_fld (L2.pvj 0) (pe_callF1 c_copied hr rfl (pa_cons (L2.pvj 2) pa_nil)) rfl)
  (pss_cons (ps_fld (L2.pvj 0) (pe_callF1 c_copied hr rfl (pa_cons (L2.pvj 3) pa_nil)) rfl)
  (pss_cons (ps_fld (L2.pvj 0) (pe_callF1 c_copied hr rfl (pa_cons (L2.pvj 4) pa_nil)) rfl)
  (pss_cons (ps_fld (L2.pvj 0) (pe_callF1 c_copied hr rfl (pa_cons (L2.pvj 5) pa_nil)) rfl)
  (pss_one (ps_fld (L2.pvj 0) (L2.pvj 6) rfl))))))),?_⟩
 try dsimp only [cxOf,Cx.nox,Cx.wish]
 have n3:=MO.n3
 have p6:=MO.p6
 have G0:SameB o H H:=fun _ _ e _=>e
 refine ⟨_,rfl,.inr (.inl ⟨ra,rv,m.rows,5,rfl,(by decide),hra,hrv,MO.few,(fun x hx=>by have:=MO.rows x hx; omega),fun r lr H1 s1 fr er hr=>?_⟩)⟩
 refine ⟨_,rfl,o,aMode,dx,_,rfl,(s1 _ _ ho),TMode.cl,AMode.n_rows,(by show 0 < 1000; decide),?_⟩
 have o1:=upd_same (H:=H1) (a:=o) (o:=HO.ins aMode dx (putF "rows" (.ref r) []))
 have G1:SameB o H (upd H1 o (HO.ins aMode dx (putF "rows" (.ref r) []))):=G0.trans ((Same.but s1).trans (sameB_upd o H1 _))
 have T1:SameB o H1 (upd H1 o (HO.ins aMode dx (putF "rows" (.ref r) []))):=sameB_upd o H1 _
 have b1:=s1 _ _ ho
 obtain ⟨J1,hJ1⟩:∃ J,J=upd H1 o (HO.ins aMode dx (putF "rows" (.ref r) [])):=⟨_,rfl⟩
 rw [<- hJ1] at o1 G1 T1 |-
 refine ⟨_,rfl,.inr (.inr ⟨na,nv,m.nexts,5,rfl,(by decide),(keepB ho G1 hna (fun z=>by cases z)),(TabV.keepB ho G1 hnv),(by have:=MO.nexts.1; omega),(fun x hx=>by have:=MO.nexts.2 x hx; omega),fun n ln H2 s2 fn en hn=>?_⟩)⟩
 refine ⟨_,rfl,o,aMode,dx,_,rfl,(s2 _ _ o1),TMode.cl,AMode.n_nexts,(by show 1 < 1000; decide),?_⟩
 have o2:=upd_same (H:=H2) (a:=o) (o:=HO.ins aMode dx (putF "nexts" (.ref n) (putF "rows" (.ref r) [])))
 have G2:SameB o H (upd H2 o (HO.ins aMode dx (putF "nexts" (.ref n) (putF "rows" (.ref r) [])))):=G1.trans ((Same.but s2).trans (sameB_upd o H2 _))
 have T2:SameB o H2 (upd H2 o (HO.ins aMode dx (putF "nexts" (.ref n) (putF "rows" (.ref r) [])))):=sameB_upd o H2 _
 have b2:=s2 _ _ o1
 obtain ⟨J2,hJ2⟩:∃ J,J=upd H2 o (HO.ins aMode dx (putF "nexts" (.ref n) (putF "rows" (.ref r) []))):=⟨_,rfl⟩
 rw [<- hJ2] at o2 G2 T2 |-
 refine ⟨_,rfl,.inl (.inr (.inl ⟨sa,m.steer,5,rfl,(by decide),(keepB ho G2 hsa (fun z=>by cases z)),(by have:=MO.steer; omega),fun s H3 s3 fs es=>?_⟩))⟩
 refine ⟨_,rfl,o,aMode,dx,_,rfl,(s3 _ _ o2),TMode.cl,AMode.n_steer,(by show 2 < 1000; decide),?_⟩
 have o3:=upd_same (H:=H3) (a:=o) (o:=HO.ins aMode dx (putF "steer" (.ref s) (putF "nexts" (.ref n) (putF "rows" (.ref r) []))))
 have G3:SameB o H (upd H3 o (HO.ins aMode dx (putF "steer" (.ref s) (putF "nexts" (.ref n) (putF "rows" (.ref r) []))))):=G2.trans ((Same.but s3).trans (sameB_upd o H3 _))
 have T3:SameB o H3 (upd H3 o (HO.ins aMode dx (putF "steer" (.ref s) (putF "nexts" (.ref n) (putF "rows" (.ref r) []))))):=sameB_upd o H3 _
 have b3:=s3 _ _ o2
 obtain ⟨J3,hJ3⟩:∃ J,J=upd H3 o (HO.ins aMode dx (putF "steer" (.ref s) (putF "nexts" (.ref n) (putF "rows" (.ref r) [])))):=⟨_,rfl⟩
 rw [<- hJ3] at o3 G3 T3 |-
 refine ⟨_,rfl,.inr (.inr ⟨pa,pv,m.push,5,rfl,(by decide),(keepB ho G3 hpa (fun z=>by cases z)),(TabV.keepB ho G3 hpv),(by have:=MO.push.1; omega),(fun x hx=>by have:=MO.push.2 x hx; omega),fun p lp H4 s4 fp ep hp=>?_⟩)⟩
 refine ⟨_,rfl,o,aMode,dx,_,rfl,(s4 _ _ o3),TMode.cl,AMode.n_push,(by show 3 < 1000; decide),?_⟩
 have o4:=upd_same (H:=H4) (a:=o) (o:=HO.ins aMode dx (putF "push" (.ref p) (putF "steer" (.ref s) (putF "nexts" (.ref n) (putF "rows" (.ref r) [])))))
 have G4:SameB o H (upd H4 o (HO.ins aMode dx (putF "push" (.ref p) (putF "steer" (.ref s) (putF "nexts" (.ref n) (putF "rows" (.ref r) [])))))):=G3.trans ((Same.but s4).trans (sameB_upd o H4 _))
 have T4:SameB o H4 (upd H4 o (HO.ins aMode dx (putF "push" (.ref p) (putF "steer" (.ref s) (putF "nexts" (.ref n) (putF "rows" (.ref r) [])))))):=sameB_upd o H4 _
 have b4:=s4 _ _ o3
 obtain ⟨J4,hJ4⟩:∃ J,J=upd H4 o (HO.ins aMode dx (putF "push" (.ref p) (putF "steer" (.ref s) (putF "nexts" (.ref n) (putF "rows" (.ref r) []))))):=⟨_,rfl⟩
 rw [<- hJ4] at o4 G4 T4 |-
 refine ⟨_,rfl,.inl (.inr (.inl ⟨aa,m.add,5,rfl,(by decide),(keepB ho G4 haa (fun z=>by cases z)),(by have:=MO.add; omega),fun a H5 s5 fa ea=>?_⟩))⟩
 refine ⟨_,rfl,o,aMode,dx,_,rfl,(s5 _ _ o4),TMode.cl,AMode.n_add,(by show 4 < 1000; decide),?_⟩
 have o5:=upd_same (H:=H5) (a:=o) (o:=HO.ins aMode dx (putF "add" (.ref a) (putF "push" (.ref p) (putF "steer" (.ref s) (putF "nexts" (.ref n) (putF "rows" (.ref r) []))))))
 have G5:SameB o H (upd H5 o (HO.ins aMode dx (putF "add" (.ref a) (putF "push" (.ref p) (putF "steer" (.ref s) (putF "nexts" (.ref n) (putF "rows" (.ref r) []))))))):=G4.trans ((Same.but s5).trans (sameB_upd o H5 _))
 have T5:SameB o H5 (upd H5 o (HO.ins aMode dx (putF "add" (.ref a) (putF "push" (.ref p) (putF "steer" (.ref s) (putF "nexts" (.ref n) (putF "rows" (.ref r) []))))))):=sameB_upd o H5 _
 have b5:=s5 _ _ o4
 obtain ⟨J5,hJ5⟩:∃ J,J=upd H5 o (HO.ins aMode dx (putF "add" (.ref a) (putF "push" (.ref p) (putF "steer" (.ref s) (putF "nexts" (.ref n) (putF "rows" (.ref r) [])))))):=⟨_,rfl⟩
 rw [<- hJ5] at o5 G5 T5 |-
 refine ⟨_,rfl,_,rfl,o,aMode,dx,_,rfl,o5,TMode.cl,AMode.n_divisor,(by show 5 < 1000; decide),?_⟩
 have e6:upd J5 o (HO.ins aMode dx (putF "divisor" (.int m.div) (putF "add" (.ref a) (putF "push" (.ref p) (putF "steer" (.ref s) (putF "nexts" (.ref n) (putF "rows" (.ref r) []))))))) o=some (.ins aMode dx (modeF (.ref r) (.ref n) (.ref s) (.ref p) (.ref a) m.div)):=upd_same.trans (by rw [mode_put])
 have T6:SameB o J5 (upd J5 o (HO.ins aMode dx (putF "divisor" (.int m.div) (putF "add" (.ref a) (putF "push" (.ref p) (putF "steer" (.ref s) (putF "nexts" (.ref n) (putF "rows" (.ref r) [])))))))):=sameB_upd o J5 _
 obtain ⟨J6,hJ6⟩:∃ J,J=upd J5 o (HO.ins aMode dx (putF "divisor" (.int m.div) (putF "add" (.ref a) (putF "push" (.ref p) (putF "steer" (.ref s) (putF "nexts" (.ref n) (putF "rows" (.ref r) []))))))):=⟨_,rfl⟩
 rw [<- hJ6] at e6 T6 |-
 have U5:SameB o H5 J6:=T5.trans T6
 have U4:SameB o H4 J6:=T4.trans ((Same.but s5).trans U5)
 have U3:SameB o H3 J6:=T3.trans ((Same.but s4).trans U4)
 have U2:SameB o H2 J6:=T2.trans ((Same.but s3).trans U3)
 have U1:SameB o H1 J6:=T1.trans ((Same.but s2).trans U2)
 have G6:SameB o H J6:=G5.trans T6
 have nH:∀ {k:Nat} {Hk:Hp} {x:HO},SameB o H Hk->Hk o=some x->∀ {vs:List V} {tab:List (List Int)} {Hj:Hp},Paired (NewL Hk Hj) vs tab->SameB o Hj J6->(∃ y,Hj o=some y/\∀ l,HO.lst l≠y)->Paired (NewL H J6) vs tab:=fun G e _ _ _ z U ⟨y,ey,ny⟩=>
  Paired.mapP z fun _ _ ⟨c,e1,e2,e3⟩=>⟨c,e1,freeB G e e2,U _ _ e3 fun w=>by rw [w,ey] at e3; exact ny _ (Option.some.inj e3).symm⟩
 have NI:∀ (fs:List (Str × V)) (l:List V),HO.lst l≠.ins aMode dx fs:=fun _ _ z=>by cases z
 refine q ⟨dx,r,lr,n,ln,s,p,lp,a⟩ J6 G6 ⟨e6,keepB b1 U1 er (NI _ _),WaysV.keepB b1 U1 hr,keepB b2 U2 en (NI _ _),TabV.keepB b2 U2 (NewL.tab hn),keepB b3 U3 es (NI _ _),keepB b4 U4 ep (NI _ _),TabV.keepB b4 U4 (NewL.tab hp),keepB b5 U5 ea (NI _ _)⟩ fr (freeB G1 o1 fn) (freeB G2 o2 fs) (freeB G3 o3 fp) (freeB G4 o4 fa) (nH (k:=0) G1 o1 hn U2 ⟨_,b2,NI _⟩) (nH (k:=0) G3 o3 hp U4 ⟨_,b4,NI _⟩)
theorem ok_is_mode {k:Nat} {f:Addr} {fd:FuncData} (F:Fun K "is_mode" "is_mode" s_is_mode f fd) (B:Bl mg) (c_is_room:Fn P w K mg base "is_room" ["value","many"] k spIsRoom) (c_is_table:Fn P w K mg base "is_table" ["value","tall","wide"] k spTabD) (c_is_numbers:Fn P w K mg base "is_numbers" ["value","count"] k spNumsD) (c_is_whole:Fn P w K mg base "is_whole" ["thing"] k spWholeD):FnOk P w K mg base CX0 (k + 1) f fd ["value","many","wide"] (spIsMode aMode):=by
 refine F.ok sc_is_mode (fun vs H Q E h=>?_) (fun cdv A outer s H vs Q E hr h=>?_)
 ·obtain ⟨v,m,n,p,rfl,_⟩:=h
  rfl
 obtain ⟨v,m,n,p,rfl,⟨o,M,rfl,k0⟩,MO,q⟩:=h
 refine ⟨_,(pss_cons (ps_if (PW.pt (pw_or (pt_not (pt_val (pe_callB (show CallR _ _ (rInstO K) from call_isinstO) rfl B.isinstance_ boot_isinstance_ (pa_cons (L2.pvj 0) (pa_cons (pe_cls TMode rfl) pa_nil))))) (pw_or1 (pt_not (pt_val (pe_callF c_is_room hr rfl (pa_cons (pe_fld (L2.pvj 0) rfl) (pa_cons (L2.pvj 1) pa_nil)))))))) (pss_one (ps_ret pe_bl)) pss_nil)
  (pss_cons (ps_if (PW.pt (pw_or (pt_not (pt_val (pe_callF c_is_table hr rfl (pa_cons (pe_fld (L2.pvj 0) rfl) (pa_cons (L2.pvj 1) (pa_cons (L2.pvj 1) pa_nil)))))) (pw_or1 (pt_not (pt_val (pe_callF c_is_table hr rfl (pa_cons (pe_fld (L2.pvj 0) rfl) (pa_cons (L2.pvj 1) (pa_cons (L2.pvj 2) pa_nil))))))))) (pss_one (ps_ret pe_bl)) pss_nil)
  (pss_cons (ps_if (PW.pt (pw_or (pt_not (pt_val (pe_callF c_is_numbers hr rfl (pa_cons (pe_fld (L2.pvj 0) rfl) (pa_cons (L2.pvj 1) pa_nil))))) (pw_or1 (pt_not (pt_val (pe_callF c_is_numbers hr rfl (pa_cons (pe_fld (L2.pvj 0) rfl) (pa_cons (L2.pvj 1) pa_nil)))))))) (pss_one (ps_ret pe_bl)) pss_nil)
  (pss_one (ps_ret (pe_and (pe_callF c_is_whole hr rfl (pa_cons (pe_fld (L2.pvj 0) rfl) pa_nil)) (pe_one (pe_cmpR (ji0 op_ge) (pe_fld (L2.pvj 0) rfl) pe_int (nomark _))))))))),?_⟩
 try dsimp only [cxOf,Cx.nox,Cx.wish]
 have n3:=MO.n3
 have p6:=MO.p6
 refine ⟨_,rfl,_,_,_,_,rfl,(TMode.ty k0.ins),kit_self,_,rfl,iteF ?_⟩
 refine ⟨_,rfl,o,aMode,M.dx,_,_,rfl,k0.ins,TMode.cl,AMode.n_rows,rfl,_,rfl,M.r,M.rv,m.rows,n,rfl,k0.hr,k0.hrv,MO.few,MO.rows,(by omega),fun H1 s1=>?_⟩
 refine ⟨_,rfl,iteF ?_⟩
 refine ⟨_,rfl,o,aMode,M.dx,_,_,rfl,(s1 _ _ k0.ins),TMode.cl,AMode.n_nexts,rfl,_,rfl,_,rfl,.ref M.n,_,_,_,rfl,.lst (s1 _ _ k0.hn) (dv_tab (k0.hnv.same s1)),few_tab (by have:=MO.nexts.1; omega) MO.nexts.2 (by omega),fun H2 s2=>?_⟩
 rw [tab_true MO.nexts.1 MO.nexts.2]
 have s12:=s1.trans s2
 refine ⟨_,rfl,iteF ?_⟩
 refine ⟨_,rfl,o,aMode,M.dx,_,_,rfl,(s12 _ _ k0.ins),TMode.cl,AMode.n_push,rfl,_,rfl,_,rfl,.ref M.p,_,_,_,rfl,.lst (s12 _ _ k0.hp) (dv_tab (k0.hpv.same s12)),few_tab (by have:=MO.push.1; omega) MO.push.2 (by omega),fun H3 s3=>?_⟩
 rw [tab_true MO.push.1 MO.push.2]
 have s13:=s12.trans s3
 refine ⟨_,rfl,iteF ?_⟩
 refine ⟨_,rfl,o,aMode,M.dx,_,_,rfl,(s13 _ _ k0.ins),TMode.cl,AMode.n_steer,rfl,_,rfl,.ref M.s,.lst (m.steer.map DK.int),_,rfl,.lst (s13 _ _ k0.hs) (dv_ints _),(by show (m.steer.map DK.int).length<=900; rw [List.length_map]; have:=MO.steer; omega),fun H4 s4=>?_⟩
 rw [nums_true MO.steer]
 have s14:=s13.trans s4
 refine ⟨_,rfl,iteF ?_⟩
 refine ⟨_,rfl,o,aMode,M.dx,_,_,rfl,(s14 _ _ k0.ins),TMode.cl,AMode.n_add,rfl,_,rfl,.ref M.a,.lst (m.add.map DK.int),_,rfl,.lst (s14 _ _ k0.ha) (dv_ints _),(by show (m.add.map DK.int).length<=900; rw [List.length_map]; have:=MO.add; omega),fun H5 s5=>?_⟩
 rw [nums_true MO.add]
 have s15:=s14.trans s5
 refine ⟨_,rfl,iteF ?_⟩
 refine ⟨_,rfl,o,aMode,M.dx,_,_,rfl,(s15 _ _ k0.ins),TMode.cl,AMode.n_divisor,rfl,.int m.div,.int m.div,rfl,.int m.div,_,rfl,iteT ?_⟩
 refine ⟨_,rfl,o,aMode,M.dx,_,_,rfl,(s15 _ _ k0.ins),TMode.cl,AMode.n_divisor,rfl,_,_,rfl,rfl,?_⟩
 have z:decide (m.div ≥ 1)=true:=decide_eq_true MO.div
 show Q (.bl (decide (m.div ≥ 1))) H5
 rw [z]
 exact q _ s15
theorem ok_is_sound {k:Nat} {f:Addr} {fd:FuncData} (F:Fun K "is_sound" "is_sound" s_is_sound f fd) (B:Bl mg) (c_is_whole:Fn P w K mg base "is_whole" ["thing"] k spWholeD) (c_is_push:Fn P w K mg base "is_push" ["value"] k spIsPush) (c_is_mode:Fn P w K mg base "is_mode" ["value","many","wide"] k (spIsMode aMode)):FnOk P w K mg base CX0 (k + 1) f fd ["many","pushes","modes"] (spIsSound aMode):=by
 refine F.ok sc_is_sound (fun vs H Q E h=>?_) (fun cdv A outer s H vs Q E hr h=>?_)
 ·obtain ⟨pa,ma,pv,mv,n,bs,ms,rfl,_⟩:=h
  rfl
 obtain ⟨pa,ma,pv,mv,n,bs,ms,rfl,hpa,hpv,hma,hmv,TO,q⟩:=h
 refine ⟨_,(pss_cons (ps_if (PW.pt (pw_or (pt_not (pt_val (pe_callF c_is_whole hr rfl (pa_cons (L2.pvj 0) pa_nil)))) (pw_or (pt_cmpR (ji0 op_lt) (L2.pvj 0) pe_int (nomark _)) (pw_or1 (pt_cmpR (ji0 op_gt) (L2.pvj 0) (pe_const rfl B.MOST_NUMBERS_) (nomark _)))))) (pss_one (ps_ret pe_bl)) pss_nil)
  (pss_cons (ps_if (PW.pt (pw_or (pt_not (pt_val (pe_callB jinst rfl B.isinstance_ boot_isinstance_ (pa_cons (L2.pvj 1) (pa_cons (pe_bltn (v:=.ty "list") (u:=.type "list") rfl B.list_ boot_list_ rfl) pa_nil))))) (pw_or1 (pt_not (pt_val (pe_callB (call_all rfl) rfl B.all_ boot_all_ (pa_cons (pe_comp (own:=["push"]) (caps:=[]) (blk_mk rfl) rfl (pi_list (L2.pvj 1)) (fun _ _ _ _=>pg_name (i:=0) (show (["push"]:List Str).Nodup by decide +kernel) rfl (Or.inl rfl)) (fun _ _ _ _=>(pe_callF c_is_push hr rfl (pa_cons (L2.pvj 0) pa_nil)))) pa_nil))))))) (pss_one (ps_ret pe_bl)) pss_nil)
  (pss_cons (ps_if (PW.pt (pw_or (pt_not (pt_val (pe_callB jinst rfl B.isinstance_ boot_isinstance_ (pa_cons (L2.pvj 2) (pa_cons (pe_bltn (v:=.ty "list") (u:=.type "list") rfl B.list_ boot_list_ rfl) pa_nil))))) (pw_or1 (pt_cmpR op_eq (pe_callB jlen rfl B.len_ boot_len_ (pa_cons (L2.pvj 2) pa_nil)) pe_int (nomark _))))) (pss_one (ps_ret pe_bl)) pss_nil)
  (pss_one (ps_ret (pe_callB (call_all rfl) rfl B.all_ boot_all_ (pa_cons (pe_comp (own:=["mode"]) (caps:=[(0,"many"),(1,"pushes")]) (blk_cap (S:=defScope s_is_sound) (N:=["many","pushes","modes"]) rfl (by decide +kernel) rfl ⟨_,rfl⟩ rfl (by decide +kernel) (by decide +kernel)) rfl (pi_list (L2.pvj 2)) (fun _ _ _ _=>pg_name (i:=0) (show (["mode","many","pushes"]:List Str).Nodup by decide +kernel) rfl (Or.inl rfl)) (fun _ _ _ _=>(pe_callF c_is_mode hr rfl (pa_cons (L2.pvj 0) (pa_cons (L2.pvj 1) (pa_cons (pe_callB (show CallR _ _ (JLen K) from jlen) rfl B.len_ boot_len_ (pa_cons (L2.pvj 2) pa_nil)) pa_nil)))))) pa_nil))))))),?_⟩
 try dsimp only [cxOf,Cx.nox,Cx.wish]
 have n1:=TO.n1
 have n3:=TO.n3
 have b6:=TO.b6
 have m1:=TO.m1
 have m40:=TO.m40
 have lp:pv.length=bs.length:=Paired.length hpv
 have lm:mv.length=ms.length:=Paired.length hmv
 refine ⟨_,rfl,.int (n:Int),.int (n:Int),rfl,.int (n:Int),_,rfl,iteF ?_⟩
 refine ⟨_,rfl,_,_,rfl,rfl,_,rfl,iteB0 (decide_eq_false (show ¬ ((n:Int) < 1) by omega)) ?_⟩
 refine ⟨_,rfl,_,_,rfl,rfl,_,rfl,iteB0 (decide_eq_false (show ¬ ((n:Int) > 3) by omega)) ?_⟩
 refine ⟨_,rfl,_,_,_,_,rfl,.lst hpa,kit_list_list K,_,rfl,iteF ?_⟩
 refine ⟨_,rfl,pa,rfl,⟨_,SqL.of hpa⟩,comp_list (K:=K) (a:=pa) (xs:=pv) (fun i ys σ H'=>ys=(List.replicate i true).map V.bl/\(∃ o,σ=[o])/\H'=H)
  ⟨rfl,⟨none,rfl⟩,rfl⟩ (fun i ys σ H' hi ⟨e1,_,e3⟩=>⟨by rw [e3]; exact SqL.of hpa,by rw [e1,List.length_map,List.length_replicate]; exact Nat.le_refl _⟩) (Nat.le_of_lt (small1000 (by omega))) ?_ ?_⟩
 ·rintro i x ys σ H' hi ⟨rfl,⟨o,rfl⟩,rfl⟩
  obtain ⟨b,hb,c,rfl,ec⟩:=paired_get hpv hi
  refine ⟨_,rfl,c,b.1,b.2,rfl,ec,TO.bok b (List.mem_of_getElem? hb),?_,⟨_,rfl⟩,rfl⟩
  rw [List.replicate_succ',List.map_append]
  rfl
 rintro ys σ H1 ⟨rfl,⟨o,rfl⟩,rfl⟩ l1 hl1
 refine ⟨l1,List.replicate _ true,rfl,SqL.of upd_same,?_⟩
 rw [all_true]
 refine ⟨_,rfl,iteF ?_⟩
 have s1:=same_new hl1 (HO.lst ((List.replicate pv.length true).map V.bl))
 obtain ⟨H2,hH2⟩:∃ H2,H2=upd H1 l1 (HO.lst ((List.replicate pv.length true).map V.bl)):=⟨_,rfl⟩
 rw [<- hH2] at s1 |-
 have hma2:=s1 _ _ hma
 refine ⟨_,rfl,_,_,_,_,rfl,.lst hma2,kit_list_list K,_,rfl,iteF ?_⟩
 refine ⟨_,rfl,ma,_,rfl,.inl (SqL.of hma2),rfl,_,rfl,iteB0 (dec_no (by omega)) ?_⟩
 refine ⟨_,rfl,ma,rfl,⟨_,SqL.of hma2⟩,comp_list (K:=K) (a:=ma) (xs:=mv) (fun i ys σ H'=>ys=(List.replicate i true).map V.bl/\(∃ o,σ=[o,some (.int (n:Int)),some (.ref pa)])/\Same H2 H')
  ⟨rfl,⟨none,rfl⟩,Same.refl _⟩ (fun i ys σ H' hi ⟨e1,_,sm⟩=>⟨SqL.of (sm _ _ hma2),by rw [e1,List.length_map,List.length_replicate]; exact Nat.le_refl _⟩) (Nat.le_of_lt (small1000 (by omega))) ?_ ?_⟩
 ·rintro i x ys σ H' hi ⟨rfl,⟨o,rfl⟩,sm⟩
  obtain ⟨md,hmd,hx⟩:=paired_get hmv hi
  have s2:=s1.trans sm
  refine ⟨_,rfl,_,rfl,_,rfl,pa,_,rfl,.inl (SqL.of (s2 _ _ hpa)),x,md,n,bs.length,(by rw [lp]; rfl),hx.same s2,TO.mok md (List.mem_of_getElem? hmd),fun H3 s3=>⟨?_,⟨_,rfl⟩,sm.trans s3⟩⟩
  rw [List.replicate_succ',List.map_append]
  rfl
 rintro ys σ H3 ⟨rfl,⟨o,rfl⟩,sm⟩ l hl
 refine ⟨l,List.replicate _ true,rfl,SqL.of upd_same,?_⟩
 rw [all_true]
 exact q _ (s1.trans (sm.trans (same_new hl _)))
theorem ok_Thing___init__ {k:Nat} {f:Addr} {fd:FuncData} (F:Fun K "__init__" "Thing.__init__" s_Thing___init__ f fd) (B:Bl mg) (c_is_sound:Fn P w K mg base "is_sound" ["many","pushes","modes"] k (spIsSound aMode)):FnOk P w K mg base CX0 (k + 1) f fd ["self","many","pushes","modes"] (spThingInit aThing aMode):=by
 refine F.ok sc_Thing___init__ (fun vs H Q E h=>?_) (fun cdv A outer s H vs Q E hr h=>?_)
 ·obtain ⟨o,dx,pa,ma,pv,mv,n,bs,ms,rfl,_⟩:=h
  rfl
 obtain ⟨o,dx,pa,ma,pv,mv,n,bs,ms,rfl,ho,hpa,hpv,hma,hmv,TO,q⟩:=h
 refine ⟨_,(pss_cons (ps_if (pt_not (pt_val (pe_callF c_is_sound hr rfl (pa_cons (L2.pvj 1) (pa_cons (L2.pvj 2) (pa_cons (L2.pvj 3) pa_nil)))))) (pss_one ps_never) pss_nil)
  (pss_cons (ps_if (PW.pt (pw_or (pt_cmpR (ji0 op_gt) (pe_callB jlen rfl B.len_ boot_len_ (pa_cons (L2.pvj 2) pa_nil)) (pe_const rfl B.MOST_PUSHES_) (nomark _)) (pw_or1 (pt_cmpR (ji0 op_gt) (pe_callB jlen rfl B.len_ boot_len_ (pa_cons (L2.pvj 3) pa_nil)) (pe_const rfl B.MOST_MODES_) (nomark _))))) (pss_one ps_never) pss_nil)
  (pss_cons (ps_fld (L2.pvj 0) (L2.pvj 1) rfl)
  (pss_cons (ps_fld (L2.pvj 0) (pe_callTy call_list_of rfl B.list_ boot_list_ (pa_cons (L2.pvj 2) pa_nil)) rfl)
  (pss_one (ps_fld (L2.pvj 0) (pe_callTy call_list_of rfl B.list_ boot_list_ (pa_cons (L2.pvj 3) pa_nil)) rfl)))))),?_⟩
 try dsimp only [cxOf,Cx.nox,Cx.wish]
 have b6:=TO.b6
 have m40:=TO.m40
 have lp:pv.length=bs.length:=Paired.length hpv
 have lm:mv.length=ms.length:=Paired.length hmv
 refine ⟨_,rfl,_,rfl,_,rfl,pa,ma,pv,mv,n,bs,ms,rfl,hpa,hpv,hma,hmv,TO,fun H1 s1=>?_⟩
 refine ⟨_,rfl,iteF ?_⟩
 refine ⟨_,rfl,pa,_,rfl,.inl (SqL.of (s1 _ _ hpa)),_,_,rfl,rfl,_,rfl,iteB0 (decide_eq_false (show ¬ ((pv.length:Int) > 6) by omega)) ?_⟩
 refine ⟨_,rfl,ma,_,rfl,.inl (SqL.of (s1 _ _ hma)),_,_,rfl,rfl,_,rfl,iteB0 (decide_eq_false (show ¬ ((mv.length:Int) > 40) by omega)) ?_⟩
 have ho1:=s1 _ _ ho
 refine ⟨_,rfl,_,rfl,o,aThing,dx,_,rfl,ho1,TThing.cl,AThing.n_many,(by show 0 < 1000; decide),?_⟩
 have NI:∀ (fs:List (Str × V)) (l:List V),HO.lst l≠.ins aThing dx fs:=fun _ _ z=>by cases z
 have e2:=upd_same (H:=H1) (a:=o) (o:=HO.ins aThing dx (putF "many" (.int (n:Int)) []))
 have T2:SameB o H1 (upd H1 o (HO.ins aThing dx (putF "many" (.int (n:Int)) []))):=sameB_upd o H1 _
 obtain ⟨H2,hH2⟩:∃ H2,H2=upd H1 o (HO.ins aThing dx (putF "many" (.int (n:Int)) [])):=⟨_,rfl⟩
 rw [<- hH2] at e2 T2 |-
 have hpa2:=keepB ho1 T2 (s1 _ _ hpa) (NI _ _)
 have hma2:=keepB ho1 T2 (s1 _ _ hma) (NI _ _)
 refine ⟨_,rfl,pa,pv,rfl,.inl (SqL.of hpa2),fun kp hkp=>?_⟩
 have z3:=same_new hkp (HO.lst pv)
 have ekp:=upd_same (H:=H2) (a:=kp) (o:=HO.lst pv)
 have G2:SameB o H H2:=(Same.but s1).trans T2
 have nkp:=freeB G2 e2 hkp
 obtain ⟨H3,hH3⟩:∃ H3,H3=upd H2 kp (HO.lst pv):=⟨_,rfl⟩
 rw [<- hH3] at z3 ekp |-
 refine ⟨_,rfl,o,aThing,dx,_,rfl,(z3 _ _ e2),TThing.cl,AThing.n_kept_pushes,(by show 1 < 1000; decide),?_⟩
 have e4:=upd_same (H:=H3) (a:=o) (o:=HO.ins aThing dx (putF "kept_pushes" (.ref kp) (putF "many" (.int (n:Int)) [])))
 have T4:SameB o H3 (upd H3 o (HO.ins aThing dx (putF "kept_pushes" (.ref kp) (putF "many" (.int (n:Int)) [])))):=sameB_upd o H3 _
 obtain ⟨H4,hH4⟩:∃ H4,H4=upd H3 o (HO.ins aThing dx (putF "kept_pushes" (.ref kp) (putF "many" (.int (n:Int)) []))):=⟨_,rfl⟩
 rw [<- hH4] at e4 T4 |-
 have e23:=z3 _ _ e2
 have hma4:=keepB e23 T4 (z3 _ _ hma2) (NI _ _)
 have hkp4:=keepB e23 T4 ekp (NI _ _)
 refine ⟨_,rfl,ma,mv,rfl,.inl (SqL.of hma4),fun km hkm=>?_⟩
 have z5:=same_new hkm (HO.lst mv)
 have ekm:=upd_same (H:=H4) (a:=km) (o:=HO.lst mv)
 have G4:SameB o H H4:=G2.trans ((Same.but z3).trans T4)
 have nkm:=freeB G4 e4 hkm
 have nkk:kp≠km:=ne_of_none hkp4 hkm
 obtain ⟨H5,hH5⟩:∃ H5,H5=upd H4 km (HO.lst mv):=⟨_,rfl⟩
 rw [<- hH5] at z5 ekm |-
 have e45:=z5 _ _ e4
 refine ⟨_,rfl,o,aThing,dx,_,rfl,(z5 _ _ e4),TThing.cl,AThing.n_kept_modes,(by show 2 < 1000; decide),?_⟩
 have T6:SameB o H5 (upd H5 o (HO.ins aThing dx (putF "kept_modes" (.ref km) (putF "kept_pushes" (.ref kp) (putF "many" (.int (n:Int)) []))))):=sameB_upd o H5 _
 exact q kp km _ (G4.trans ((Same.but z5).trans T6)) nkp nkm nkk upd_same (keepB e45 T6 (z5 _ _ hkp4) (NI _ _)) (keepB e45 T6 ekm (NI _ _))
theorem ok_Thing_pushes {k:Nat} {f:Addr} {fd:FuncData} (F:Fun K "pushes" "Thing.pushes" s_Thing_pushes f fd) (B:Bl mg):FnOk P w K mg base CX0 (k + 1) f fd ["self"] (spPushes aThing aMode):=by
 refine F.ok sc_Thing_pushes (fun vs H Q E h=>?_) (fun cdv A outer s H vs Q E hr h=>?_)
 ·obtain ⟨o,kp,km,n,bs,ms,pv,mv,rfl,_⟩:=h
  rfl
 obtain ⟨o,kp,km,n,bs,ms,pv,mv,rfl,TA,q⟩:=h
 refine ⟨_,(pss_one (ps_ret (pe_callTy call_list_of rfl B.list_ boot_list_ (pa_cons (pe_fld (L2.pvj 0) rfl) pa_nil)))),?_⟩
 try dsimp only [cxOf,Cx.nox,Cx.wish]
 obtain ⟨dx,ins⟩:=TA.ins
 refine ⟨_,rfl,o,aThing,dx,_,_,rfl,ins,TThing.cl,AThing.n_kept_pushes,rfl,kp,pv,rfl,.inl (SqL.of TA.hp),fun l hl=>?_⟩
 exact q l _ (same_new hl _) hl upd_same
theorem ok_Thing_modes {k:Nat} {f:Addr} {fd:FuncData} (F:Fun K "modes" "Thing.modes" s_Thing_modes f fd) (B:Bl mg):FnOk P w K mg base CX0 (k + 1) f fd ["self"] (spModes aThing aMode):=by
 refine F.ok sc_Thing_modes (fun vs H Q E h=>?_) (fun cdv A outer s H vs Q E hr h=>?_)
 ·obtain ⟨o,kp,km,n,bs,ms,pv,mv,rfl,_⟩:=h
  rfl
 obtain ⟨o,kp,km,n,bs,ms,pv,mv,rfl,TA,q⟩:=h
 refine ⟨_,(pss_one (ps_ret (pe_callTy call_list_of rfl B.list_ boot_list_ (pa_cons (pe_fld (L2.pvj 0) rfl) pa_nil)))),?_⟩
 try dsimp only [cxOf,Cx.nox,Cx.wish]
 obtain ⟨dx,ins⟩:=TA.ins
 refine ⟨_,rfl,o,aThing,dx,_,_,rfl,ins,TThing.cl,AThing.n_kept_modes,rfl,km,mv,rfl,.inl (SqL.of TA.hm),fun l hl=>?_⟩
 exact q l _ (same_new hl _) hl upd_same
theorem ok_raw_sum {k:Nat} {f:Addr} {fd:FuncData} (F:Fun K "raw_sum" "raw_sum" s_raw_sum f fd) (B:Bl mg):FnOk P w K mg base CX0 (k + 1) f fd ["numbers","point"] (spRawE K):=by
 refine F.ok sc_raw_sum (fun vs H Q E h=>?_) (fun cdv A outer s H vs Q E hr h=>?_)
 ·obtain ⟨na,pa,ws,pv,pts,rfl,_⟩:=h
  rfl
 obtain ⟨na,pa,ws,pv,pts,rfl,hna,hpa,hpt,PO,WO,q⟩:=h
 refine ⟨_,(pss_cons (ps_set (i:=2) sc_raw_sum.nd rfl (Or.inl rfl) pe_int)
  (pss_cons (ps_set (i:=3) sc_raw_sum.nd rfl (Or.inl rfl) pe_int)
  (pss_cons (ps_for PassesOwn.never rfl (pi_zipS rfl B.zip_ (pa_cons (L2.pvj 0) (pa_cons (L2.pvj 1) pa_nil))) (pg_tup rfl (pgs_cons (pg_name (i:=4) sc_raw_sum.nd rfl (Or.inl rfl)) (pgs_cons (pg_name (i:=5) sc_raw_sum.nd rfl (Or.inl rfl)) pgs_nil))) (pss_cons (ps_set (i:=2) sc_raw_sum.nd rfl (Or.inl rfl) (pe_op (ji0 op_add) (pe_op (ji op_mulW) (L2.pvj 2) (pe_ix jix_tup (L2.pvj 5) pe_int (fun _ _=>rfl))) (pe_op (ji op_mulW) (pe_op (ji op_mulW) (L2.pvj 4) (pe_ix jix_tup (L2.pvj 5) pe_int (fun _ _=>rfl))) (L2.pvj 3))))
   (pss_one (ps_set (i:=3) sc_raw_sum.nd rfl (Or.inl rfl) (pe_op (ji op_mulW) (L2.pvj 3) (pe_ix jix_tup (L2.pvj 5) pe_int (fun _ _=>rfl)))))))
  (pss_one (ps_ret (pe_tup (pa_cons (L2.pvj 2) (pa_cons (L2.pvj 3) pa_nil)))))))),?_⟩
 try dsimp only [cxOf,Cx.nox,Cx.wish]
 have lp:pv.length=pts.length:=Paired.length hpt
 have hlen:(ws.map V.int).length<=pv.length:=by rw [List.length_map,WO.len,lp]; exact Nat.le_refl _
 refine ⟨_,rfl,_,rfl,na,pa,rfl,for_zipE (xs:=ws.map V.int) (ys:=pv) hna hpa
  (fun i σ H2=>∃ n1 p1,σ=[some (.ref na),some (.ref pa),some (.int (((ws.zip pts).take i).foldl alStep (0,1)).1),some (.int (((ws.zip pts).take i).foldl alStep (0,1)).2),n1,p1]/\Same H H2)
  ⟨none,none,rfl,Same.refl _⟩ (fun i σ H2 _ ⟨_,_,_,sm⟩=>sm) hlen ?_ ?_⟩
 ·rintro i x y T σ H2 hx hy hT ⟨n1,p1,rfl,sm⟩
  obtain ⟨wv,hw,rfl⟩:=ints_get hx
  obtain ⟨pr,hpr,r,rfl,er⟩:=paired_get hpt hy
  have hz:(ws.zip pts)[i]? = some (wv,pr):=by rw [List.getElem?_zip_eq_some]; exact ⟨hw,hpr⟩
  have hzm:=List.mem_of_getElem? hz
  obtain ⟨z1,z2,z3,z4⟩:=zip_ok PO WO _ hzm
  have hil:i < pts.length:=(List.getElem?_eq_some_iff.mp hpr).1
  obtain ⟨b1,b2⟩:=bd_al i ((ws.zip pts).take i) (by rw [List.length_take,zip_len WO]; omega) fun q hq=>(zip_ok PO WO q (List.mem_of_mem_take hq)).2
  have n7:=PO.n7
  have s2:=sm.trans (same_new hT (HO.tup [V.int wv,V.ref r]))
  have er2:=s2 _ _ er
  have tk:((ws.zip pts).take (i + 1)).foldl alStep (0,1)=alStep (((ws.zip pts).take i).foldl alStep (0,1)) (wv,pr):=by rw [take_snoc hz,List.foldl_append]; rfl
  refine ⟨T,_,rfl,SqT.of upd_same,rfl,_,_,rfl,_,_,rfl,rfl,?_⟩
  refine ⟨_,rfl,_,rfl,r,_,1,_,rfl,rfl,SqT.of er2,at1,_,_,rfl,rfl,⟨b1.mono (by omega),z4.mono (by decide)⟩,?_⟩
  refine ⟨_,rfl,_,rfl,r,_,0,_,rfl,rfl,SqT.of er2,at0,_,_,rfl,rfl,⟨z2.mono (by decide),z3.mono (by decide)⟩,_,rfl,_,_,rfl,rfl,⟨(z2.mul z3).mono (by decide),b2.mono (by omega)⟩,_,_,rfl,rfl,?_⟩
  refine ⟨_,rfl,_,rfl,r,_,1,_,rfl,rfl,SqT.of er2,at1,_,_,rfl,rfl,⟨b2.mono (by omega),z4.mono (by decide)⟩,?_⟩
  refine ⟨some (.int wv),some (.ref r),?_,s2⟩
  rw [tk]
  rfl
 ·rintro σ H2 ⟨n1,p1,rfl,sm⟩
  have tk:(ws.zip pts).take (ws.map V.int).length=ws.zip pts:=List.take_of_length_le (by rw [zip_len WO,List.length_map,WO.len]; exact Nat.le_refl _)
  rw [tk]
  refine ⟨_,rfl,_,rfl,(by show 2<=sizeLine; decide),fun r hr'=>?_⟩
  exact q r _ (sm.trans (same_new hr' _)) upd_same
theorem ok_divided_sum {k:Nat} {f:Addr} {fd:FuncData} (F:Fun K "divided_sum" "divided_sum" s_divided_sum f fd) (B:Bl mg) (c_raw_sum:Fn P w K mg base "raw_sum" ["numbers","point"] k (spRawE K)) (c_fraction:FnD P w K mg base "fraction" ["top","bottom"] k spFraction (.int 1)):FnOk P w K mg base CX0 (k + 1) f fd ["numbers","point","add","divisor"] (spDivided K):=by
 refine F.ok sc_divided_sum (fun vs H Q E h=>?_) (fun cdv A outer s H vs Q E hr h=>?_)
 ·obtain ⟨na,pa,ws,pv,pts,a,d,rfl,_⟩:=h
  rfl
 obtain ⟨na,pa,ws,pv,pts,a,d,rfl,hna,hpa,hpt,PO,n3,WO,ba,d0,bd,q⟩:=h
 refine ⟨_,(pss_cons (ps_set (i:=4) sc_divided_sum.nd rfl (Or.inl rfl) (pe_callF c_raw_sum hr rfl (pa_cons (L2.pvj 0) (pa_cons (L2.pvj 1) pa_nil))))
  (pss_one (ps_ret (pe_callF c_fraction.fn hr rfl (pa_cons (pe_op (ji0 op_add) (pe_ix jix_tup (L2.pvj 4) pe_int (fun _ _=>rfl)) (pe_op (ji op_mulW) (L2.pvj 2) (pe_ix jix_tup (L2.pvj 4) pe_int (fun _ _=>rfl)))) (pa_cons (pe_op (ji op_mulW) (pe_ix jix_tup (L2.pvj 4) pe_int (fun _ _=>rfl)) (L2.pvj 3)) pa_nil)))))),?_⟩
 try dsimp only [cxOf,Cx.nox,Cx.wish]
 obtain ⟨b1,b2⟩:=al_bd3 PO n3 WO
 have p0:=al_pos PO WO
 have pq:=Int.mul_pos p0 d0
 refine ⟨_,rfl,_,rfl,na,pa,ws,pv,pts,rfl,hna,hpa,hpt,PO,WO,fun r1 H1 s1 e1=>?_⟩
 refine ⟨_,rfl,r1,_,0,_,rfl,rfl,SqT.of e1,at0,_,rfl,_,rfl,r1,_,1,_,rfl,rfl,SqT.of e1,at1,_,_,rfl,rfl,⟨ba.mono (by decide),b2.mono (by decide)⟩,_,_,rfl,rfl,_,rfl,r1,_,1,_,rfl,rfl,SqT.of e1,at1,_,rfl,_,_,rfl,rfl,⟨b2.mono (by decide),bd.mono (by decide)⟩,_,_,rfl,(by omega),(b2.mul bd).mono (by decide),fun r H2 s2 e2=>?_⟩
 exact q r H2 (s1.trans s2) e2
end
inductive spUnit (vs:List V) (H:Hp) (Q:VK) (E:XK):Prop
 | mk (pl wd nu:Int) (_:vs=[.int pl,.int wd,.int nu]) (_:0<=wd) (_:wd<=100) (_:∀ l H',Same H H'->H l=none->H' l=some (.lst ((unitM pl wd.toNat nu).map V.int))->Q (.ref l) H'):spUnit vs H Q E
inductive spDot (K:PySem.W.Frag) (vs:List V) (H:Hp) (Q:VK) (E:XK):Prop
 | mk (a b:Addr) (ns os:List Int) (_:vs=[.ref a,.ref b]) (_:SqE K H a (ns.map V.int)) (_:SqE K H b (os.map V.int)) (_:ns.length=os.length) (_:ns.length<=100) (_:(∀ x∈ns,Bd 1000 x)) (_:(∀ x∈os,Bd 1000 x)) (_:∀ H',Same H H'->Q (.int (sumP ns os)) H'):spDot K vs H Q E
theorem sumP_zip:∀ (ns os:List Int),((ns.zip os).map fun q=>q.1 * q.2).sum=sumP ns os
 | [],_=>by simp [sumP]
 | _ :: _,[]=>by simp [sumP]
 | n :: ns,o :: os=>by simp only [List.zip_cons_cons,List.map_cons,List.sum_cons,sumP,sumP_zip ns os]
structure NLOk (nums:List Int) (ls:List (List Int)) (n:Nat):Prop where
 len:nums.length=ls.length
 row:∀ r∈ls,r.length=n/\∀ x∈r,Bd 1000 x
 num:∀ x∈nums,Bd 1000 x
 few:nums.length<=100
inductive spAddL (K:PySem.W.Frag) (vs:List V) (H:Hp) (Q:VK) (E:XK):Prop
 | mk (na rm:Addr) (nums:List Int) (rv:List V) (ls:List (List Int)) (w:Int) (_:vs=[.ref na,.ref rm,.int w]) (_:0<=w) (_:w<=100) (_:SqE K H na (nums.map V.int)) (_:SqL K H rm rv) (_:TabV H rv ls) (_:NLOk nums ls w.toNat) (_:∀ l H',Same H H'->H l=none->H' l=some (.lst (((List.range w.toNat).map (plcL nums ls)).map V.int))->Q (.ref l) H'):spAddL K vs H Q E
structure TbB (T:List (List Int)) (h w e:Nat):Prop where
 len:T.length=h
 row:∀ r∈T,r.length=w/\∀ x∈r,Bd e x
inductive spProduct (vs:List V) (H:Hp) (Q:VK) (E:XK):Prop
 | mk (ta oa:Addr) (tv ov:List V) (T O:List (List Int)) (h k w:Nat) (_:vs=[.ref ta,.ref oa,.int (w:Int)]) (_:H ta=some (.lst tv)) (_:TabV H tv T) (_:H oa=some (.lst ov)) (_:TabV H ov O) (_:TbB T h k 1000) (_:TbB O k w 1000) (_:h<=100) (_:k<=100) (_:w<=100) (_:∀ l lv H',Same H H'->H l=none->H' l=some (.lst lv)->Paired (NewL H H') lv (prodM T O w)->Q (.ref l) H'):spProduct vs H Q E
noncomputable def turnR (n:Nat) (B:List (List Int)) (r:List Int):List Int:=(List.range n).map (plcL (r.take n) B)++[r.getD n 0]
inductive spTurnedRow (vs:List V) (H:Hp) (Q:VK) (E:XK):Prop
 | mk (ba ra:Addr) (bv:List V) (B:List (List Int)) (r:List Int) (n:Nat) (_:vs=[.ref ba,.ref ra]) (_:H ba=some (.lst bv)) (_:TabV H bv B) (_:H ra=some (.tup (r.map V.int))) (_:r.length=n + 1) (_:TbB B n n 1000) (_:(∀ x∈r,Bd 1000 x)) (_:1<=n) (_:n<=3) (_:∀ t H',Same H H'->H t=none->H' t=some (.tup ((turnR n B r).map V.int))->Q (.ref t) H'):spTurnedRow vs H Q E
section
variable {P:Program} {w:World} {K:PySem.W.Frag} {mg:Str->Option Value} {base:Heap}
noncomputable abbrev s_unit:Stmt:=top 16
theorem sc_unit:FnScope ["place","wide","number"] ["place","wide","number"] (defScope s_unit):=⟨rfl,rfl,rfl,by decide +kernel,rfl,by decide +kernel,by decide +kernel⟩
noncomputable abbrev s_paired:Stmt:=top 17
theorem sc_paired:FnScope ["numbers","others"] ["numbers","others"] (defScope s_paired):=⟨rfl,rfl,rfl,by decide +kernel,rfl,by decide +kernel,by decide +kernel⟩
noncomputable abbrev s_added_up:Stmt:=top 18
theorem sc_added_up:FnScope ["numbers","lists","wide"] ["numbers","lists","wide"] (defScope s_added_up):=⟨rfl,rfl,rfl,by decide +kernel,rfl,by decide +kernel,by decide +kernel⟩
noncomputable abbrev s_product:Stmt:=top 39
theorem sc_product:FnScope ["table","other","wide"] ["table","other","wide"] (defScope s_product):=⟨rfl,rfl,rfl,by decide +kernel,rfl,by decide +kernel,by decide +kernel⟩
noncomputable abbrev s_turned_row:Stmt:=top 36
theorem sc_turned_row:FnScope ["back","row"] ["back","row"] (defScope s_turned_row):=⟨rfl,rfl,rfl,by decide +kernel,rfl,by decide +kernel,by decide +kernel⟩
variable {aMode aThing:Addr} (TMode:ClsF K mg "Mode" aMode) (AMode:AtMode K aMode) (TThing:ClsF K mg "Thing" aThing) (AThing:AtThing K aThing)
include TMode AMode TThing AThing
theorem ok_unit {k:Nat} {f:Addr} {fd:FuncData} {dv:Value} (F:FunD K "unit" "unit" s_unit f fd dv) (B:Bl mg):FnOk P w K mg base CX0 (k + 1) f fd ["place","wide","number"] spUnit:=by
 refine F.ok sc_unit (fun vs H Q E h=>?_) (fun cdv A outer s H vs Q E hr h=>?_)
 ·obtain ⟨pl,wd,nu,rfl,_⟩:=h
  rfl
 obtain ⟨pl,wd,nu,rfl,w0,w1,q⟩:=h
 refine ⟨_,(pss_one (ps_ret (pe_comp (own:=["other"]) (caps:=[(0,"place"),(2,"number")]) (blk_cap (S:=defScope s_unit) (N:=["place","wide","number"]) rfl (by decide +kernel) rfl ⟨_,rfl⟩ rfl (by decide +kernel) (by decide +kernel)) rfl (pi_range1 rfl B.range_ (pa_cons (L2.pvj 1) pa_nil)) (fun _ _ _ _=>pg_name (i:=0) (show (["other","place","number"]:List Str).Nodup by decide +kernel) rfl (Or.inl rfl)) (fun _ _ _ _=>(pe_ifExp (pt_cmpR op_eq (L2.pvj 0) (L2.pvj 1) (nomark _)) (L2.pvj 2) pe_int))))),?_⟩
 try dsimp only [cxOf,Cx.nox,Cx.wish]
 refine ⟨_,rfl,wd,rfl,(by omega),(by omega),comp_range (lo:=0) (n:=wd.toNat)
  (fun j ys σ H'=>ys=(unitM pl j nu).map V.int/\(∃ o,σ=[o,some (.int pl),some (.int nu)])/\H'=H)
  ⟨rfl,⟨none,rfl⟩,rfl⟩ (fun j ys σ H' ⟨e,_⟩=>by rw [e,List.length_map,unitM_len]; exact Nat.le_refl _) (Nat.le_of_lt (small1000 (by omega))) ?_ ?_⟩
 ·rintro j ys σ H' hj ⟨rfl,⟨o,rfl⟩,rfl⟩
  refine ⟨_,rfl,_,rfl,rfl,_,rfl,?_⟩
  by_cases e:(j:Int)=pl
  ·refine iteB1 (decide_eq_true (by rw [<- e,Int.zero_add])) ?_
   refine ⟨_,rfl,?_,⟨_,rfl⟩,rfl⟩
   rw [unitM_snoc,if_pos e,List.map_append]
   rfl
  ·refine iteB0 (decide_eq_false (fun z=>e (by injection z; omega))) ?_
   refine ⟨?_,⟨_,rfl⟩,rfl⟩
   rw [unitM_snoc,if_neg e,List.map_append]
   rfl
 rintro ys σ H' ⟨rfl,⟨o,rfl⟩,rfl⟩ l hl
 exact q l _ (same_new hl _) hl upd_same
theorem ok_paired {k:Nat} {f:Addr} {fd:FuncData} (F:Fun K "paired" "paired" s_paired f fd) (B:Bl mg):FnOk P w K mg base CX0 (k + 1) f fd ["numbers","others"] (spDot K):=by
 refine F.ok sc_paired (fun vs H Q E h=>?_) (fun cdv A outer s H vs Q E hr h=>?_)
 ·obtain ⟨a,b,ns,os,rfl,_⟩:=h
  rfl
 obtain ⟨a,b,ns,os,rfl,ha,hb,ln,l1,bn,bo,q⟩:=h
 refine ⟨_,(pss_one (ps_ret (pe_callB (call_sum rfl) rfl B.sum_ boot_sum_ (pa_cons (pe_comp (own:=["number","other"]) (caps:=[]) (blk_mk rfl) rfl (pi_zipS rfl B.zip_ (pa_cons (L2.pvj 0) (pa_cons (L2.pvj 1) pa_nil))) (fun _ _ _ _=>show PG _ _ (gTup K 2 (gCons (gName 0) (gCons (gName 1) gNil))) from pg_tup (n:=2) rfl (pgs_cons (pg_name (i:=0) (show (["number","other"]:List Str).Nodup by decide +kernel) rfl (Or.inl rfl)) (pgs_cons (pg_name (i:=1) (show (["number","other"]:List Str).Nodup by decide +kernel) rfl (Or.inl rfl)) pgs_nil))) (fun _ _ _ _=>(pe_op (ji op_mulW) (L2.pvj 0) (L2.pvj 1)))) pa_nil)))),?_⟩
 try dsimp only [cxOf,Cx.nox,Cx.wish]
 refine ⟨_,rfl,_,rfl,a,b,rfl,comp_zipS (K:=K) (a:=a) (b:=b) (xs:=ns.map V.int) (ys:=os.map V.int) ha hb
  (fun i zs σ H'=>zs=(((ns.zip os).take i).map fun q=>q.1 * q.2).map V.int/\(∃ o1 o2,σ=[o1,o2])/\Same H H')
  ⟨rfl,⟨none,none,rfl⟩,Same.refl _⟩ (fun i zs σ H' hi ⟨e1,_,sm⟩=>⟨sm,by rw [e1,List.length_map,List.length_map,List.length_take]; exact Nat.min_le_left _ _⟩) (by rw [List.length_map,List.length_map,ln]; exact Nat.le_refl _) (by rw [List.length_map]; exact Nat.le_of_lt (small1000 (by omega))) ?_ ?_⟩
 ·rintro i x y T zs σ H' hx hy hT ⟨rfl,⟨o1,o2,rfl⟩,sm⟩
  obtain ⟨x0,hx0,rfl⟩:=ints_get hx
  obtain ⟨y0,hy0,rfl⟩:=ints_get hy
  have s2:=sm.trans (same_new hT (HO.tup [V.int x0,V.int y0]))
  refine ⟨T,_,rfl,SqT.of upd_same,rfl,_,_,rfl,_,_,rfl,rfl,?_⟩
  refine ⟨_,rfl,_,rfl,_,_,rfl,rfl,⟨(bn _ (List.mem_of_getElem? hx0)).mono (by decide),(bo _ (List.mem_of_getElem? hy0)).mono (by decide)⟩,?_,⟨_,_,rfl⟩,s2⟩
  have hz:(ns.zip os)[i]? = some (x0,y0):=by rw [List.getElem?_zip_eq_some]; exact ⟨hx0,hy0⟩
  rw [take_snoc hz,List.map_append,List.map_append]
  rfl
 rintro zs σ H' ⟨rfl,⟨o1,o2,rfl⟩,sm⟩ l hl
 refine ⟨l,_,rfl,SqL.of upd_same,?_⟩
 rw [List.take_of_length_le (by rw [List.length_zip,List.length_map]; omega),sumP_zip]
 exact q _ (sm.trans (same_new hl _))
theorem ok_added_up {k:Nat} {f:Addr} {fd:FuncData} (F:Fun K "added_up" "added_up" s_added_up f fd) (B:Bl mg):FnOk P w K mg base CX0 (k + 1) f fd ["numbers","lists","wide"] (spAddL K):=by
 refine F.ok sc_added_up (fun vs H Q E h=>?_) (fun cdv A outer s H vs Q E hr h=>?_)
 ·obtain ⟨na,rm,nums,rv,ls,w,rfl,_⟩:=h
  rfl
 obtain ⟨na,rm,nums,rv,ls,w,rfl,w0,w1,hna,hrm,hrv,RN,q⟩:=h
 refine ⟨_,(pss_one (ps_ret (pe_compN (own:=["place"]) (caps:=[(0,"numbers"),(1,"lists")]) (blkN_cap (S:=defScope s_added_up) (N:=["numbers","lists","wide"]) rfl (by decide +kernel) rfl ⟨_,rfl⟩ rfl (by decide +kernel) (by decide +kernel)) rfl (pi_range1 rfl B.range_ (pa_cons (L2.pvj 2) pa_nil)) (fun _ _ _ _=>pg_name (i:=0) (show (["place","numbers","lists"]:List Str).Nodup by decide +kernel) rfl (Or.inr rfl)) (fun _ _ _ _=>(pe_callB (show CallR _ _ (fun xs H Q=>∃ (p:Addr) (ns:List Int),xs=[V.ref p]/\SqL K H p (ns.map V.int)/\Q (V.int ns.sum) H) from call_sum rfl) rfl B.sum_ boot_sum_ (pa_cons (pe_compN (own:=["number","part"]) (caps:=[(0,"place")]) (blk_in rfl (by decide +kernel) (by decide +kernel) (by decide +kernel) (by decide +kernel)) rfl (show PI _ _ _ (iZipS K _) from pi_zipS rfl B.zip_ (pa_cons (L2.pvj 1) (pa_cons (L2.pvj 2) pa_nil))) (fun _ _ _ _=>show PG _ _ (gTup K 2 (gCons (gName 0) (gCons (gName 1) gNil))) from pg_tup (n:=2) rfl (pgs_cons (pg_name (i:=0) (show (["number","part","place"]:List Str).Nodup by decide +kernel) rfl (Or.inl rfl)) (pgs_cons (pg_name (i:=1) (show (["number","part","place"]:List Str).Nodup by decide +kernel) rfl (Or.inl rfl)) pgs_nil))) (fun _ _ _ _=>(pe_op (ji op_mulW) (L2.pvj 0) (pe_ix (show IxR _ (JIx (SqL K)) from jix_list) (L2.pvj 1) (L2.pvj 2) (fun _ _=>rfl))))) pa_nil)))))),?_⟩
 try dsimp only [cxOf,Cx.nox,Cx.wish]
 have lr:rv.length=ls.length:=Paired.length hrv
 have ln:=RN.len
 have lf:=RN.few
 refine ⟨_,rfl,w,rfl,(by omega),(by omega),comp_range (lo:=0) (n:=w.toNat)
  (fun i ys σ H'=>ys=((List.range i).map (plcL nums ls)).map V.int/\(∃ o,σ=[o,some (.ref na),some (.ref rm)])/\Same H H')
  ⟨rfl,⟨none,rfl⟩,Same.refl _⟩ (fun i ys σ H' ⟨e1,_,_⟩=>by rw [e1,List.length_map,List.length_map,List.length_range]; omega) (Nat.le_of_lt (small1000 (by omega))) ?_ ?_⟩
 ·rintro j ys σ H1 hj ⟨rfl,⟨o,rfl⟩,sm⟩
  have hrm5:=sm.seq hrm
  have hrv5:=TabV.same sm hrv
  have hna5:=hna.same sm
  refine ⟨_,rfl,_,rfl,na,rm,rfl,comp_zipS (K:=K) (a:=na) (b:=rm) (xs:=nums.map V.int) (ys:=rv) hna5 (.inr hrm5)
   (fun i zs σ H'=>zs=(((nums.zip ls).take i).map (fun p=>p.1 * p.2.getD j 0)).map V.int/\(∃ o1 o2,σ=[o1,o2,some (.int (0 + (j:Int)))])/\Same H1 H')
   ⟨rfl,⟨none,none,rfl⟩,Same.refl _⟩ (fun i zs σ H' hi ⟨e1,_,s5⟩=>⟨s5,by rw [e1,List.length_map,List.length_map,List.length_take]; omega⟩)
   (by rw [List.length_map,lr,ln]; exact Nat.le_refl _) (by rw [List.length_map]; exact Nat.le_of_lt (small1000 (by omega))) ?_ ?_⟩
  ·rintro i x y T zs σ H' hx hy hT ⟨rfl,⟨o1,o2,rfl⟩,s5⟩
   obtain ⟨z,hz,rfl⟩:=ints_get hx
   obtain ⟨r,hr',a,rfl,ea⟩:=paired_get hrv5 hy
   obtain ⟨rl,rb⟩:=RN.row r (List.mem_of_getElem? hr')
   have s6:=s5.trans (same_new hT (HO.tup [V.int z,V.ref a]))
   have hp:=row_at (n:=w.toNat - 1) (r:=r) (by omega) (j:=j) (by omega)
   have ap:atI (r.map V.int) (0 + (j:Int))=some (.int (r.getD j 0)):=(by rw [Int.zero_add]; exact atI_nat (by rw [List.getElem?_map,hp]; rfl))
   refine ⟨T,_,rfl,SqT.of upd_same,rfl,_,_,rfl,_,_,rfl,rfl,?_⟩
   refine ⟨_,rfl,_,rfl,_,rfl,a,_,_,_,rfl,rfl,SqL.of (s6 _ _ ea),ap,_,_,rfl,rfl,⟨(RN.num _ (List.mem_of_getElem? hz)).mono (by decide),(rb _ (List.mem_of_getElem? hp)).mono (by decide)⟩,?_⟩
   refine ⟨?_,⟨_,_,rfl⟩,s6⟩
   have zg:(nums.zip ls)[i]? = some (z,r):=by rw [List.getElem?_zip_eq_some]; exact ⟨hz,hr'⟩
   rw [take_snoc zg,List.map_append,List.map_append]
   rfl
  rintro zs σ H' ⟨rfl,⟨o1,o2,rfl⟩,s5⟩ l hl
  have eS:(((nums.zip ls).take (nums.map V.int).length).map (fun p=>p.1 * p.2.getD j 0)).sum=plcL nums ls j:=by
   rw [List.take_of_length_le (by rw [List.length_zip,List.length_map]; omega)]
   rfl
  refine ⟨l,_,rfl,SqL.of upd_same,?_⟩
  rw [eS]
  refine ⟨?_,⟨_,rfl⟩,sm.trans (s5.trans (same_new hl _))⟩
  rw [List.range_succ,List.map_append,List.map_append]
  rfl
 rintro ys σ H' ⟨rfl,⟨o,rfl⟩,sm⟩ l hl
 exact q l _ (sm.trans (same_new hl _)) (sm.free hl) upd_same
theorem ok_product {k:Nat} {f:Addr} {fd:FuncData} (F:Fun K "product" "product" s_product f fd) (B:Bl mg) (c_added_up:Fn P w K mg base "added_up" ["numbers","lists","wide"] k (spAddL K)):FnOk P w K mg base CX0 (k + 1) f fd ["table","other","wide"] spProduct:=by
 refine F.ok sc_product (fun vs H Q E h=>?_) (fun cdv A outer s H vs Q E hr h=>?_)
 ·obtain ⟨ta,oa,tv,ov,T,O,h,k2,w2,rfl,_⟩:=h
  rfl
 obtain ⟨ta,oa,tv,ov,T,O,h,k2,w2,rfl,hta,htv,hoa,hov,TB,OB,h1,k1,w1,q⟩:=h
 refine ⟨_,(pss_one (ps_ret (pe_comp (own:=["numbers"]) (caps:=[(1,"other"),(2,"wide")]) (blk_cap (S:=defScope s_product) (N:=["table","other","wide"]) rfl (by decide +kernel) rfl ⟨_,rfl⟩ rfl (by decide +kernel) (by decide +kernel)) rfl (pi_list (L2.pvj 0)) (fun _ _ _ _=>pg_name (i:=0) (show (["numbers","other","wide"]:List Str).Nodup by decide +kernel) rfl (Or.inl rfl)) (fun _ _ _ _=>(pe_callF c_added_up hr rfl (pa_cons (L2.pvj 0) (pa_cons (L2.pvj 1) (pa_cons (L2.pvj 2) pa_nil)))))))),?_⟩
 try dsimp only [cxOf,Cx.nox,Cx.wish]
 have lt:tv.length=T.length:=Paired.length htv
 have lT:=TB.len
 have lO:=OB.len
 refine ⟨_,rfl,ta,rfl,⟨_,SqL.of hta⟩,comp_list (K:=K) (a:=ta) (xs:=tv) (fun i ys σ H'=>Paired (NewL H H') ys (prodM (T.take i) O w2)/\(∃ o,σ=[o,some (.ref oa),some (.int (w2:Int))])/\Same H H')
  ⟨.nil,⟨none,rfl⟩,Same.refl _⟩ (fun i ys σ H' hi ⟨e1,_,sm⟩=>⟨SqL.of (sm _ _ hta),by have:=Paired.length e1; unfold prodM at this; rw [List.length_map,List.length_take] at this; omega⟩) (Nat.le_of_lt (small1000 (by omega))) ?_ ?_⟩
 ·rintro i x ys σ H' hi ⟨hz,⟨o,rfl⟩,sm⟩
  obtain ⟨r,hr',a,rfl,ea⟩:=paired_get htv hi
  obtain ⟨rl,rb⟩:=TB.row r (List.mem_of_getElem? hr')
  refine ⟨_,rfl,_,rfl,_,rfl,a,oa,r,ov,O,(w2:Int),rfl,(by omega),(by omega),.inr (SqL.of (sm _ _ ea)),SqL.of (sm _ _ hoa),TabV.same sm hov,⟨by omega,fun c hc=>by rw [Int.toNat_natCast]; exact OB.row c hc,rb,by omega⟩,fun l2 H2 s2 nl2 el2=>?_⟩
  refine ⟨?_,⟨_,rfl⟩,sm.trans s2⟩
  rw [take_snoc hr']
  unfold prodM at hz |-
  rw [List.map_append]
  exact paired_snoc (R:=NewL H _) ⟨l2,rfl,sm.free nl2,el2⟩ (Paired.mapP hz fun _ _ ⟨b,e,n,q⟩=>⟨b,e,n,s2 _ _ q⟩)
 rintro ys σ H' ⟨hz,⟨o,rfl⟩,sm⟩ l hl
 rw [List.take_of_length_le (by omega)] at hz
 have zl:=same_new hl (HO.lst ys)
 exact q l ys _ (sm.trans zl) (sm.free hl) upd_same (Paired.mapP hz fun _ _ ⟨b,e,n,q⟩=>⟨b,e,n,zl _ _ q⟩)
theorem ok_turned_row {k:Nat} {f:Addr} {fd:FuncData} (F:Fun K "turned_row" "turned_row" s_turned_row f fd) (B:Bl mg) (c_added_up:Fn P w K mg base "added_up" ["numbers","lists","wide"] k (spAddL K)):FnOk P w K mg base CX0 (k + 1) f fd ["back","row"] spTurnedRow:=by
 refine F.ok sc_turned_row (fun vs H Q E h=>?_) (fun cdv A outer s H vs Q E hr h=>?_)
 ·obtain ⟨ba,ra,bv,B2,r,n,rfl,_⟩:=h
  rfl
 obtain ⟨ba,ra,bv,B2,r,n,rfl,hba,hbv,hra,rl,TB,rb,n1,n3,q⟩:=h
 refine ⟨_,(pss_one (ps_ret (pe_op op_catT (pe_callTy jtup rfl B.tuple_ boot_tuple_ (pa_cons (pe_callF c_added_up hr rfl (pa_cons (pe_slice jsl_tup (L2.pvj 1) po_none (po_some (pe_un un_neg pe_int))) (pa_cons (L2.pvj 0) (pa_cons (pe_op (ji0 op_sub) (pe_callB jlen rfl B.len_ boot_len_ (pa_cons (L2.pvj 1) pa_nil)) pe_int) pa_nil)))) pa_nil)) (pe_tup (pa_cons (pe_ix jix_tup (L2.pvj 1) (pe_un un_neg pe_int) (fun _ _=>rfl)) pa_nil))))),?_⟩
 try dsimp only [cxOf,Cx.nox,Cx.wish]
 have ea:H ra=some (.tup (rowV (r.take n) (r.getD n 0))):=by rw [rowV_split rl]; exact hra
 have lB:=TB.len
 refine ⟨_,rfl,_,rfl,_,rfl,ra,_,rfl,SqT.of ea,cut_last_no _ _,fun p1 hp1=>?_⟩
 rw [show cutV (rowV (r.take n) (r.getD n 0)) none (some (-1))=(r.take n).map V.int from cut_last _ _]
 have z1:=same_new hp1 (HO.tup ((r.take n).map V.int))
 have e1:=upd_same (H:=H) (a:=p1) (o:=HO.tup ((r.take n).map V.int))
 generalize hhG1:upd H p1 (HO.tup ((r.take n).map V.int))=G1 at z1 e1 |-
 have lw:((rowV (r.take n) (r.getD n 0)).length:Int) - 1=(n:Int):=by
  rw [rowV_split rl,List.length_map]
  omega
 refine ⟨_,rfl,_,rfl,ra,_,rfl,.inr (SqT.of (z1 _ _ ea)),_,_,rfl,rfl,?_⟩
 refine ⟨p1,ba,r.take n,bv,B2,((rowV (r.take n) (r.getD n 0)).length:Int) - 1,rfl,(by omega),(by omega),.inl (SqT.of e1),SqL.of (z1 _ _ hba),TabV.same z1 hbv,⟨by rw [List.length_take]; omega,fun c hc=>by rw [lw,Int.toNat_natCast]; exact TB.row c hc,fun x hx=>rb x (List.mem_of_mem_take hx),by rw [List.length_take]; omega⟩,fun l H2 s2 _ el=>?_⟩
 rw [lw,Int.toNat_natCast] at el
 refine ⟨l,_,rfl,.inl ⟨SqL.of el,fun t1 ht1=>?_⟩⟩
 have z3:=same_new ht1 (HO.tup (((List.range n).map (plcL (r.take n) B2)).map V.int))
 have e3:=upd_same (H:=H2) (a:=t1) (o:=HO.tup (((List.range n).map (plcL (r.take n) B2)).map V.int))
 generalize hhG3:upd H2 t1 (HO.tup (((List.range n).map (plcL (r.take n) B2)).map V.int))=G3 at z3 e3 |-
 have s13:=z1.trans (s2.trans z3)
 refine ⟨_,rfl,_,rfl,ra,_,_,_,rfl,rfl,SqT.of (s13 _ _ ea),atI_last _ _,(by show 1<=sizeLine; decide),fun t2 ht2=>?_⟩
 have z4:=same_new ht2 (HO.tup [V.int (r.getD n 0)])
 refine ⟨t1,t2,_,_,rfl,rfl,SqT.of (z4 _ _ e3),SqT.of upd_same,(fun z=>?_),?_,(fun z=>nomatch z),fun _ t3 ht3=>?_⟩
 ·have:=congrArg List.length z
  rw [List.length_map,List.length_map,List.length_range,List.length_nil] at this
  omega
 ·rw [List.length_map,List.length_map,List.length_range]
  show n + 1<=_
  exact Nat.le_of_lt (small1000 (by omega))
 have z5:=same_new ht3 (HO.tup (((List.range n).map (plcL (r.take n) B2)).map V.int++[V.int (r.getD n 0)]))
 refine q t3 _ (s13.trans (z4.trans z5)) ((s13.trans z4).free ht3) (upd_same.trans ?_)
 unfold turnR
 rw [List.map_append]
 rfl
end
theorem sumP_bd {a b:Nat}:∀ {ns os:List Int},(∀ x∈ns,Bd a x)->(∀ x∈os,Bd b x)->Bd (a + b + ns.length + 1) (sumP ns os)
 | [],_,_,_=>by unfold sumP; exact (Bd.lit (n:=1)).mono (by omega)
 | _ :: _,[],_,_=>by unfold sumP; exact (Bd.lit (n:=1)).mono (by omega)
 | n :: ns,o :: os,hn,ho=>by
  have i:=sumP_bd (a:=a) (b:=b) (ns:=ns) (os:=os) (fun q m=>hn q (List.mem_cons_of_mem _ m)) (fun q m=>ho q (List.mem_cons_of_mem _ m))
  rw [List.length_cons]
  show Bd _ (n * o + sumP ns os)
  exact (((hn n List.mem_cons_self).mul (ho o List.mem_cons_self)).mono (show a + b<=a + b + ns.length + 1 by omega) |>.add i).mono (by omega)
theorem prodM_b {T O:List (List Int)} {h k w a b:Nat} (hT:TbB T h k a) (hO:TbB O k w b):TbB (prodM T O w) h w (a + b + k + 1):=by
 refine ⟨(List.length_map _).trans hT.len,fun r hr=>?_⟩
 obtain ⟨ns,hn,rfl⟩:=List.mem_map.mp hr
 obtain ⟨ln,bn⟩:=hT.row ns hn
 refine ⟨by rw [List.length_map,List.length_range],fun x hx=>?_⟩
 obtain ⟨j,hj,rfl⟩:=List.mem_map.mp hx
 rw [plcL_sumP]
 refine (sumP_bd (b:=b) bn fun y hy=>?_).mono (by omega)
 obtain ⟨c,hc,rfl⟩:=List.mem_map.mp hy
 obtain ⟨lc,bc⟩:=hO.row c hc
 exact bc _ (getD_mem (by rw [lc]; exact List.mem_range.mp hj))
theorem TbB.mono {T:List (List Int)} {h w a b:Nat} (x:TbB T h w a) (ab:a<=b):TbB T h w b:=⟨x.len,fun r hr=>⟨(x.row r hr).1,fun y hy=>((x.row r hr).2 y hy).mono ab⟩⟩
noncomputable def tmM (n w:Nat) (T B:List (List Int)) (m:MD):MD:=⟨m.rows.map (turnR n B),prodM (prodM T m.nexts n) B n,T.map (fun ns=>sumP ns m.steer),prodM T m.push w,T.map (fun ns=>sumP ns m.add),m.div⟩
structure MN (m:MD) (e:Nat):Prop where
 rows:∀ r∈m.rows,∀ x∈r,Bd e x
 nexts:∀ r∈m.nexts,∀ x∈r,Bd e x
 steer:∀ x∈m.steer,Bd e x
 push:∀ r∈m.push,∀ x∈r,Bd e x
 add:∀ x∈m.add,Bd e x
theorem tmM_ok {n w:Nat} {T B:List (List Int)} {m:MD} {e:Nat} (h:MDOk m n w) (hT:TbB T n n e) (_:TbB B n n e):MDOk (tmM n w T B m) n w:=by
 have t:=hT.len
 refine ⟨fun r hr=>?_,?_,⟨?_,fun r hr=>?_⟩,(List.length_map _).trans t,⟨(List.length_map _).trans t,fun r hr=>?_⟩,(List.length_map _).trans t,h.div,h.n3,h.p6⟩
 ·obtain ⟨q,_,rfl⟩:=List.mem_map.mp hr
  unfold turnR
  rw [List.length_append,List.length_map,List.length_range]
  rfl
 ·exact Nat.le_trans (Nat.le_of_eq (List.length_map _)) h.few
 ·exact (List.length_map _).trans ((List.length_map _).trans t)
 ·obtain ⟨q,_,rfl⟩:=List.mem_map.mp hr
  rw [List.length_map,List.length_range]
 ·obtain ⟨q,_,rfl⟩:=List.mem_map.mp hr
  rw [List.length_map,List.length_range]
inductive spTurnedMode (CM:Addr) (vs:List V) (H:Hp) (Q:VK) (E:XK):Prop
 | mk (v:V) (m:MD) (ta ba:Addr) (tv bv:List V) (T B:List (List Int)) (n w:Nat) (_:vs=[v,.ref ta,.ref ba,.int (w:Int)]) (_:ModeV CM H v m) (_:MDOk m n w) (_:MN m 400) (_:m.rows.length<=100) (_:H ta=some (.lst tv)) (_:TabV H tv T) (_:H ba=some (.lst bv)) (_:TabV H bv B) (_:TbB T n n 100) (_:TbB B n n 100) (_:1<=n) (_:∀ u H',Same H H'->ModeV CM H' u (tmM n w T B m)->Q u H'):spTurnedMode CM vs H Q E
section
variable {P:Program} {w:World} {K:PySem.W.Frag} {mg:Str->Option Value} {base:Heap}
noncomputable abbrev s_turned_mode:Stmt:=top 40
theorem sc_turned_mode:FnScope ["mode","there","back","wide","many"] ["mode","there","back","wide"] (defScope s_turned_mode):=⟨rfl,rfl,rfl,by decide +kernel,rfl,by decide +kernel,by decide +kernel⟩
variable {aMode aThing:Addr} (TMode:ClsF K mg "Mode" aMode) (AMode:AtMode K aMode) (TThing:ClsF K mg "Thing" aThing) (AThing:AtThing K aThing)
include TMode AMode TThing AThing
theorem ok_turned_mode {k:Nat} {f:Addr} {fd:FuncData} (F:Fun K "turned_mode" "turned_mode" s_turned_mode f fd) (B:Bl mg) (c_Mode___init__:FnC P w K mg base aMode ["self","rows","nexts","steer","push","add","divisor"] k (spModeInit aMode)) (c_paired:Fn P w K mg base "paired" ["numbers","others"] (k + 1) (spDot K)) (c_product:Fn P w K mg base "product" ["table","other","wide"] (k + 1) spProduct) (c_turned_row:Fn P w K mg base "turned_row" ["back","row"] (k + 1) spTurnedRow):FnOk P w K mg base CX0 (k + 1 + 1) f fd ["mode","there","back","wide"] (spTurnedMode aMode):=by
 refine F.ok sc_turned_mode (fun vs H Q E h=>?_) (fun cdv A outer s H vs Q E hr h=>?_)
 ·obtain ⟨v,m,ta,ba,tv,bv,T,B2,n,w2,rfl,_⟩:=h
  rfl
 obtain ⟨v,m,ta,ba,tv,bv,T,B2,n,w2,rfl,hM,MO,MNm,few,hta,htv,hba,hbv,TT,BB,n1,q⟩:=h
 refine ⟨_,(pss_cons (ps_set (i:=4) sc_turned_mode.nd rfl (Or.inl rfl) (pe_callB jlen rfl B.len_ boot_len_ (pa_cons (L2.pvj 1) pa_nil)))
  (pss_one (ps_ret (pe_makeF c_Mode___init__ TMode hr rfl (pa_cons (pe_comp (own:=["row"]) (caps:=[(2,"back")]) (blk_cap (S:=defScope s_turned_mode) (N:=["mode","there","back","wide","many"]) rfl (by decide +kernel) rfl ⟨_,rfl⟩ rfl (by decide +kernel) (by decide +kernel)) rfl (pi_list (pe_fld (L2.pvj 0) rfl)) (fun _ _ _ _=>pg_name (i:=0) (show (["row","back"]:List Str).Nodup by decide +kernel) rfl (Or.inl rfl)) (fun _ _ _ _=>(pe_callF c_turned_row hr rfl (pa_cons (L2.pvj 1) (pa_cons (L2.pvj 0) pa_nil))))) (pa_cons (pe_callF c_product hr rfl (pa_cons (pe_callF c_product hr rfl (pa_cons (L2.pvj 1) (pa_cons (pe_fld (L2.pvj 0) rfl) (pa_cons (L2.pvj 4) pa_nil)))) (pa_cons (L2.pvj 2) (pa_cons (L2.pvj 4) pa_nil)))) (pa_cons (pe_comp (own:=["numbers"]) (caps:=[(0,"mode")]) (blk_cap (S:=defScope s_turned_mode) (N:=["mode","there","back","wide","many"]) rfl (by decide +kernel) rfl ⟨_,rfl⟩ rfl (by decide +kernel) (by decide +kernel)) rfl (pi_list (L2.pvj 1)) (fun _ _ _ _=>pg_name (i:=0) (show (["numbers","mode"]:List Str).Nodup by decide +kernel) rfl (Or.inl rfl)) (fun _ _ _ _=>(pe_callF c_paired hr rfl (pa_cons (L2.pvj 0) (pa_cons (show PE _ _ (tFld K _ _) from pe_fld (L2.pvj 1) rfl) pa_nil))))) (pa_cons (pe_callF c_product hr rfl (pa_cons (L2.pvj 1) (pa_cons (pe_fld (L2.pvj 0) rfl) (pa_cons (L2.pvj 3) pa_nil)))) (pa_cons (pe_comp (own:=["numbers"]) (caps:=[(0,"mode")]) (blk_cap (S:=defScope s_turned_mode) (N:=["mode","there","back","wide","many"]) rfl (by decide +kernel) rfl ⟨_,rfl⟩ rfl (by decide +kernel) (by decide +kernel)) rfl (pi_list (L2.pvj 1)) (fun _ _ _ _=>pg_name (i:=0) (show (["numbers","mode"]:List Str).Nodup by decide +kernel) rfl (Or.inl rfl)) (fun _ _ _ _=>(pe_callF c_paired hr rfl (pa_cons (L2.pvj 0) (pa_cons (show PE _ _ (tFld K _ _) from pe_fld (L2.pvj 1) rfl) pa_nil))))) (pa_cons (pe_fld (L2.pvj 0) rfl) pa_nil)))))))))),?_⟩
 try dsimp only [cxOf,Cx.nox,Cx.wish]
 obtain ⟨o9,M,rfl,k0⟩:=hM
 have n3:=MO.n3
 have p6:=MO.p6
 have ln1:=MO.nexts.1
 have ln2:=MO.steer
 have ln3:=MO.push.1
 have ln4:=MO.add
 have lT:=TT.len
 have lB:=BB.len
 have ltv:tv.length=T.length:=Paired.length htv
 have lrv:M.rv.length=m.rows.length:=Paired.length k0.hrv
 refine ⟨_,rfl,ta,_,rfl,.inl (SqL.of hta),?_⟩
 refine ⟨_,rfl,o9,aMode,M.dx,_,_,rfl,k0.ins,TMode.cl,AMode.n_rows,rfl,M.r,rfl,⟨_,SqL.of k0.hr⟩,comp_list (K:=K) (a:=M.r) (xs:=M.rv) (fun i ys σ H'=>WaysV H' ys ((m.rows.take i).map (turnR n B2))/\(∃ o,σ=[o,some (.ref ba)])/\Same H H')
  ⟨.nil,⟨none,rfl⟩,Same.refl _⟩ (fun i ys σ H' hi ⟨e1,_,sm⟩=>⟨SqL.of (sm _ _ k0.hr),by have:=Paired.length e1; rw [List.length_map,List.length_take] at this; omega⟩) (Nat.le_of_lt (small1000 (by omega))) ?_ ?_⟩
 ·rintro i x ys σ H' hi ⟨hz,⟨o1,rfl⟩,sm⟩
  obtain ⟨r1,hr',a1,rfl,ea⟩:=paired_get k0.hrv hi
  refine ⟨_,rfl,_,rfl,ba,a1,bv,B2,r1,n,rfl,sm _ _ hba,TabV.same sm hbv,sm _ _ ea,MO.rows r1 (List.mem_of_getElem? hr'),BB.mono (by decide),(fun x hx=>(MNm.rows r1 (List.mem_of_getElem? hr') x hx).mono (by decide)),n1,n3,fun t1 H2 s2 _ et=>?_⟩
  refine ⟨?_,⟨_,rfl⟩,sm.trans s2⟩
  rw [take_snoc hr',List.map_append]
  exact paired_snoc (R:=fun v (k:List Int)=>Tp H2 v (k.map V.int)) ⟨t1,rfl,et⟩ (WaysV.same s2 hz)
 rintro wv σ J1 ⟨hwv,⟨o1,rfl⟩,y1⟩ w1 hw9
 rw [List.take_of_length_le (by omega)] at hwv
 have SG1:=y1
 have yG2:=same_new hw9 (HO.lst wv)
 have ew1:=upd_same (H:=J1) (a:=w1) (o:=HO.lst wv)
 generalize hhG2:upd J1 w1 (HO.lst wv)=G2 at yG2 ew1 |-
 have SG2:=SG1.trans yG2
 replace hwv:=(WaysV.same yG2 hwv)
 have NX:TbB m.nexts n n 400:=⟨ln1,fun r hr=>⟨MO.nexts.2 r hr,MNm.nexts r hr⟩⟩
 have PX:TbB m.push n w2 400:=⟨ln3,fun r hr=>⟨MO.push.2 r hr,MNm.push r hr⟩⟩
 have P1:=prodM_b TT NX
 refine ⟨_,rfl,_,rfl,o9,aMode,M.dx,_,_,rfl,(SG2 _ _ k0.ins),TMode.cl,AMode.n_nexts,rfl,_,rfl,ta,M.n,tv,M.nv,T,m.nexts,n,n,n,(by rw [ltv,lT]; rfl),(SG2 _ _ hta),(TabV.same SG2 htv),(SG2 _ _ k0.hn),(TabV.same SG2 k0.hnv),TT.mono (by decide),NX.mono (by decide),(by omega),(by omega),(by omega),fun q1 qv1 J2 y2 _ eq1 hq1=>?_⟩
 have SG3:=SG2.trans y2
 replace hwv:=(WaysV.same y2 hwv)
 replace ew1:=(y2 _ _ ew1)
 have hq1t:=NewL.tab hq1
 refine ⟨_,rfl,_,rfl,q1,ba,qv1,bv,prodM T m.nexts n,B2,n,n,n,(by rw [ltv,lT]; rfl),eq1,hq1t,(SG3 _ _ hba),(TabV.same SG3 hbv),P1.mono (by omega),BB.mono (by decide),(by omega),(by omega),(by omega),fun q2 qv2 J3 y3 _ eq2 hq2=>?_⟩
 have SG4:=SG3.trans y3
 replace hwv:=(WaysV.same y3 hwv)
 replace ew1:=(y3 _ _ ew1)
 replace eq1:=(y3 _ _ eq1)
 replace hq1t:=(TabV.same y3 hq1t)
 have hq2t:=NewL.tab hq2
 refine ⟨_,rfl,ta,rfl,⟨_,SqL.of (SG4 _ _ hta)⟩,comp_list (K:=K) (a:=ta) (xs:=tv) (fun i ys σ H'=>ys=((T.take i).map fun q=>sumP q m.steer).map V.int/\(∃ o,σ=[o,some (.ref o9)])/\Same J3 H')
  ⟨rfl,⟨none,rfl⟩,Same.refl _⟩ (fun i ys σ H' hi ⟨e1,_,sm⟩=>⟨SqL.of (sm _ _ (SG4 _ _ hta)),by rw [e1,List.length_map,List.length_map,List.length_take]; exact Nat.min_le_left _ _⟩) (Nat.le_of_lt (small1000 (by omega))) ?_ ?_⟩
 ·rintro i x ys σ H' hi ⟨rfl,⟨o1,rfl⟩,sm⟩
  obtain ⟨r1,hr',a1,rfl,ea⟩:=paired_get htv hi
  obtain ⟨rl,rb⟩:=TT.row r1 (List.mem_of_getElem? hr')
  have s0:=SG4.trans sm
  refine ⟨_,rfl,_,rfl,o9,aMode,M.dx,_,_,rfl,(s0 _ _ k0.ins),TMode.cl,AMode.n_steer,rfl,a1,M.s,r1,m.steer,rfl,.inr (SqL.of (s0 _ _ ea)),.inr (SqL.of (s0 _ _ k0.hs)),(by omega),(by omega),(fun x hx=>(rb x hx).mono (by decide)),(fun x hx=>(MNm.steer x hx).mono (by decide)),fun H2 s2=>⟨?_,⟨_,rfl⟩,sm.trans s2⟩⟩
  rw [take_snoc hr',List.map_append (l₁:=List.take i _),List.map_append]
  rfl
 rintro ys σ J4 ⟨rfl,⟨o1,rfl⟩,yJ4⟩ s1 hs1
 rw [List.take_of_length_le (by omega)]
 have SG5:=SG4.trans yJ4
 replace hwv:=(WaysV.same yJ4 hwv)
 replace ew1:=(yJ4 _ _ ew1)
 replace eq1:=(yJ4 _ _ eq1)
 replace hq1t:=(TabV.same yJ4 hq1t)
 replace eq2:=(yJ4 _ _ eq2)
 replace hq2t:=(TabV.same yJ4 hq2t)
 have yG6:=same_new hs1 (HO.lst ((T.map fun q=>sumP q m.steer).map V.int))
 have es1:=upd_same (H:=J4) (a:=s1) (o:=HO.lst ((T.map fun q=>sumP q m.steer).map V.int))
 generalize hhG6:upd J4 s1 (HO.lst ((T.map fun q=>sumP q m.steer).map V.int))=G6 at yG6 es1 |-
 have SG6:=SG5.trans yG6
 replace hwv:=(WaysV.same yG6 hwv)
 replace ew1:=(yG6 _ _ ew1)
 replace eq1:=(yG6 _ _ eq1)
 replace hq1t:=(TabV.same yG6 hq1t)
 replace eq2:=(yG6 _ _ eq2)
 replace hq2t:=(TabV.same yG6 hq2t)
 refine ⟨_,rfl,_,rfl,o9,aMode,M.dx,_,_,rfl,(SG6 _ _ k0.ins),TMode.cl,AMode.n_push,rfl,_,rfl,ta,M.p,tv,M.pv,T,m.push,n,n,w2,rfl,(SG6 _ _ hta),(TabV.same SG6 htv),(SG6 _ _ k0.hp),(TabV.same SG6 k0.hpv),TT.mono (by decide),PX.mono (by decide),(by omega),(by omega),(by omega),fun q3 qv3 J5 y5 _ eq3 hq3=>?_⟩
 have SG7:=SG6.trans y5
 replace hwv:=(WaysV.same y5 hwv)
 replace ew1:=(y5 _ _ ew1)
 replace eq1:=(y5 _ _ eq1)
 replace hq1t:=(TabV.same y5 hq1t)
 replace eq2:=(y5 _ _ eq2)
 replace hq2t:=(TabV.same y5 hq2t)
 replace es1:=(y5 _ _ es1)
 have hq3t:=NewL.tab hq3
 refine ⟨_,rfl,ta,rfl,⟨_,SqL.of (SG7 _ _ hta)⟩,comp_list (K:=K) (a:=ta) (xs:=tv) (fun i ys σ H'=>ys=((T.take i).map fun q=>sumP q m.add).map V.int/\(∃ o,σ=[o,some (.ref o9)])/\Same J5 H')
  ⟨rfl,⟨none,rfl⟩,Same.refl _⟩ (fun i ys σ H' hi ⟨e1,_,sm⟩=>⟨SqL.of (sm _ _ (SG7 _ _ hta)),by rw [e1,List.length_map,List.length_map,List.length_take]; exact Nat.min_le_left _ _⟩) (Nat.le_of_lt (small1000 (by omega))) ?_ ?_⟩
 ·rintro i x ys σ H' hi ⟨rfl,⟨o1,rfl⟩,sm⟩
  obtain ⟨r1,hr',a1,rfl,ea⟩:=paired_get htv hi
  obtain ⟨rl,rb⟩:=TT.row r1 (List.mem_of_getElem? hr')
  have s0:=SG7.trans sm
  refine ⟨_,rfl,_,rfl,o9,aMode,M.dx,_,_,rfl,(s0 _ _ k0.ins),TMode.cl,AMode.n_add,rfl,a1,M.a,r1,m.add,rfl,.inr (SqL.of (s0 _ _ ea)),.inr (SqL.of (s0 _ _ k0.ha)),(by omega),(by omega),(fun x hx=>(rb x hx).mono (by decide)),(fun x hx=>(MNm.add x hx).mono (by decide)),fun H2 s2=>⟨?_,⟨_,rfl⟩,sm.trans s2⟩⟩
  rw [take_snoc hr',List.map_append (l₁:=List.take i _),List.map_append]
  rfl
 rintro ys σ J6 ⟨rfl,⟨o1,rfl⟩,yJ6⟩ a1 ha1
 rw [List.take_of_length_le (by omega)]
 have SG8:=SG7.trans yJ6
 replace hwv:=(WaysV.same yJ6 hwv)
 replace ew1:=(yJ6 _ _ ew1)
 replace eq1:=(yJ6 _ _ eq1)
 replace hq1t:=(TabV.same yJ6 hq1t)
 replace eq2:=(yJ6 _ _ eq2)
 replace hq2t:=(TabV.same yJ6 hq2t)
 replace es1:=(yJ6 _ _ es1)
 replace eq3:=(yJ6 _ _ eq3)
 replace hq3t:=(TabV.same yJ6 hq3t)
 have yG9:=same_new ha1 (HO.lst ((T.map fun q=>sumP q m.add).map V.int))
 have ea1:=upd_same (H:=J6) (a:=a1) (o:=HO.lst ((T.map fun q=>sumP q m.add).map V.int))
 generalize hhG9:upd J6 a1 (HO.lst ((T.map fun q=>sumP q m.add).map V.int))=G9 at yG9 ea1 |-
 have SG9:=SG8.trans yG9
 replace hwv:=(WaysV.same yG9 hwv)
 replace ew1:=(yG9 _ _ ew1)
 replace eq1:=(yG9 _ _ eq1)
 replace hq1t:=(TabV.same yG9 hq1t)
 replace eq2:=(yG9 _ _ eq2)
 replace hq2t:=(TabV.same yG9 hq2t)
 replace es1:=(yG9 _ _ es1)
 replace eq3:=(yG9 _ _ eq3)
 replace hq3t:=(TabV.same yG9 hq3t)
 refine ⟨_,rfl,o9,aMode,M.dx,_,_,rfl,(SG9 _ _ k0.ins),TMode.cl,AMode.n_divisor,rfl,?_⟩
 intro mo dx hmo hdx ne
 have zm:=same_make hmo hdx ne (HO.own mo) (HO.ins aMode dx [])
 have eo:=upd_same (H:=upd G9 dx (HO.own mo)) (a:=mo) (o:=HO.ins aMode dx [])
 generalize hhJ9:upd (upd G9 dx (HO.own mo)) mo (HO.ins aMode dx [])=J9 at zm eo |-
 refine ⟨mo,dx,w1,q2,s1,q3,a1,wv,qv2,qv3,tmM n w2 T B2 m,n,w2,rfl,eo,tmM_ok MO TT BB,zm _ _ ew1,WaysV.same zm hwv,zm _ _ eq2,TabV.same zm hq2t,zm _ _ es1,zm _ _ eq3,TabV.same zm hq3t,zm _ _ ea1,fun M2 J10 sb ok f1 f2 f3 f4 f5 m1 m2=>⟨rfl,?_⟩⟩
 exact q (.ref mo) J10 (SG9.trans (same_but zm sb hmo)) ⟨mo,_,rfl,ok⟩
end
noncomputable def lstT (r:List Int):PyData:=.list (r.map PyData.int)
theorem dp_tab {K:PySem.W.Frag} {H:Hp}:∀ {tv:List V} {tab:List (List Int)},TabV H tv tab->DpAll K H tv (tab.map lstT)
 | _,_,.nil=>.nil
 | _,_,.cons ⟨a,e,h⟩ t=>by
  subst e
  exact .cons (.lst (SqL.of h) (dp_ints _)) (dp_tab t)
theorem lay_tab:∀ tab:List (List Int),PyData.canLayAll0 (tab.map lstT)=true
 | []=>rfl
 | r :: t=>by
  show (PyData.canLayAll0 (r.map PyData.int) && PyData.canLayAll0 (t.map lstT))=true
  rw [lay_i,lay_tab t]
  rfl
theorem dep_tab:∀ tab:List (List Int),PyData.depthAll (tab.map lstT)<=1
 | []=>Nat.zero_le _
 | r :: t=>by
  show max (PyData.depthAll (r.map PyData.int) + 1) (PyData.depthAll (t.map lstT))<=1
  rw [dep_i]
  have:=dep_tab t
  omega
theorem eqvA_tab:∀ a b:List (List Int),PyData.eqvAll (a.map lstT) (b.map lstT)=decide (a=b)
 | [],[]=>rfl
 | [],_ :: _=>rfl
 | _ :: _,[]=>rfl
 | x :: a,y :: b=>by
  show (PyData.eqv (lstT x) (lstT y) && PyData.eqvAll (a.map lstT) (b.map lstT))=_
  rw [show PyData.eqv (lstT x) (lstT y)=decide (x=y) from eqv_ints x y,eqvA_tab a b,<- Bool.decide_and]
  exact decide_eq_decide.mpr (by rw [List.cons.injEq])
theorem eqv_tab (a b:List (List Int)):PyData.eqv (.list (a.map lstT)) (.list (b.map lstT))=decide (a=b):=eqvA_tab a b
theorem dep_tabs (a:List (List Int)):PyData.depth (.list (a.map lstT))<=60:=by
 show PyData.depthAll (a.map lstT) + 1<=60
 have:=dep_tab a
 omega
inductive spIsTurnA (vs:List V) (H:Hp) (Q:VK) (E:XK):Prop
 | mk (ta ba:Addr) (tv bv:List V) (T B:List (List Int)) (n:Nat) (_:vs=[.ref ta,.ref ba,.int (n:Int)]) (_:H ta=some (.lst tv)) (_:TabV H tv T) (_:H ba=some (.lst bv)) (_:TabV H bv B) (_:TbB T n n 900) (_:TbB B n n 900) (_:n<=3) (_:∀ H',Same H H'->Q (.bl (decide (prodM T B n=unitsM n))) H'):spIsTurnA vs H Q E
inductive spIsTurnB (vs:List V) (H:Hp) (Q:VK) (E:XK):Prop
 | mk (v1 v2:V) (d1 d2:DK) (n:Nat) (_:vs=[v1,v2,.int (n:Int)]) (_:DV H v1 d1) (_:DV H v2 d2) (_:fewD2 d1) (_:fewD2 d2) (_:(tabD (n:Int) (n:Int) d1 && tabD (n:Int) (n:Int) d2)=false) (_:∀ H',Same H H'->Q (.bl false) H'):spIsTurnB vs H Q E
noncomputable def spIsTurn:Sp:=fun vs H Q E=>spIsTurnA vs H Q E\/spIsTurnB vs H Q E
noncomputable def WrongV (H:Hp) (v1 v2:V) (n:Nat):Prop:=(∃ d1 d2,DV H v1 d1/\DV H v2 d2/\fewD2 d1/\fewD2 d2/\(tabD (n:Int) (n:Int) d1 && tabD (n:Int) (n:Int) d2)=false)\/(∃ (ta ba:Addr) (tv bv:List V) (T B:List (List Int)),v1=.ref ta/\v2=.ref ba/\H ta=some (.lst tv)/\TabV H tv T/\H ba=some (.lst bv)/\TabV H bv B/\TbB T n n 900/\TbB B n n 900/\prodM T B n≠unitsM n)
theorem WrongV.same {H H':Hp} {v1 v2:V} {n:Nat} (s:Same H H') (h:WrongV H v1 v2 n):WrongV H' v1 v2 n:=by
 rcases h with ⟨d1,d2,h1,h2,r⟩ | ⟨ta,ba,tv,bv,T,B,e1,e2,h1,h2,h3,h4,r⟩
 ·exact .inl ⟨d1,d2,h1.same s,h2.same s,r⟩
 ·exact .inr ⟨ta,ba,tv,bv,T,B,e1,e2,s _ _ h1,TabV.same s h2,s _ _ h3,TabV.same s h4,r⟩
noncomputable def spBadTurn (CT CM C:Addr):Sp:=fun vs H _ E=>∃ (o kp km:Addr) (v1 v2:V) (n:Nat) (bs:List (Int × Int)) (ms:List MD) (pv mv:List V),vs=[.ref o,v1,v2]/\ThingAt CT CM H o n bs ms pv mv kp km/\n<=3/\WrongV H v1 v2 n/\∀ H',Same H H'->E (.ref C) none H'
inductive spRefusedL (CT CM:Addr) (vs:List V) (H:Hp) (Q:VK) (E:XK):Prop
 | mk (o kp km:Addr) (v1 v2:V) (n:Nat) (bs:List (Int × Int)) (ms:List MD) (pv mv:List V) (_:vs=[.ref o,v1,v2]) (_:ThingAt CT CM H o n bs ms pv mv kp km) (_:n<=3) (_:WrongV H v1 v2 n) (_:∀ H',Q (.bl true) H'):spRefusedL CT CM vs H Q E
theorem pu_same {H H':Hp} {pv:List V} {bs:List (Int × Int)} (s:Same H H') (h:Paired (PuV H) pv bs):Paired (PuV H') pv bs:=Paired.mapP h fun _ _ z=>z.same s
theorem modes_same {C:Addr} {H H':Hp} {mv:List V} {ms:List MD} (s:Same H H') (h:Paired (ModeV C H) mv ms):Paired (ModeV C H') mv ms:=Paired.mapP h fun _ _ z=>z.same s
inductive spTurned (C CM:Addr) (vs:List V) (H:Hp) (Q:VK) (E:XK):Prop
 | mk (o kp km ta ba:Addr) (n:Nat) (bs:List (Int × Int)) (ms:List MD) (pv mv tv bv:List V) (T B:List (List Int)) (_:vs=[.ref o,.ref ta,.ref ba]) (_:ThingAt C CM H o n bs ms pv mv kp km) (_:ThOk n bs ms) (_:(∀ m∈ms,MN m 400/\m.rows.length<=100)) (_:H ta=some (.lst tv)) (_:TabV H tv T) (_:H ba=some (.lst bv)) (_:TabV H bv B) (_:TbB T n n 100) (_:TbB B n n 100) (_:prodM T B n=unitsM n) (_:∀ o' mv' kp' km' H',Same H H'->ThingAt C CM H' o' n bs (ms.map (tmM n bs.length T B)) pv mv' kp' km'->Q (.ref o') H'):spTurned C CM vs H Q E
inductive spTurnedPoint (K:PySem.W.Frag) (vs:List V) (H:Hp) (Q:VK) (E:XK):Prop
 | mk (ta pa:Addr) (tv pv:List V) (T:List (List Int)) (pts:List (Int × Int)) (_:vs=[.ref ta,.ref pa]) (_:H ta=some (.lst tv)) (_:TabV H tv T) (_:H pa=some (.lst pv)) (_:PtV H pv pts) (_:PtOk pts) (_:pts.length<=3) (_:(∀ ws∈T,RwOk ws pts.length)) (_:T.length<=100) (_:∀ l lv H',Same H H'->H l=none->H' l=some (.lst lv)->PtV H' lv (turnP T pts)->Q (.ref l) H'):spTurnedPoint K vs H Q E
section
variable {P:Program} {w:World} {K:PySem.W.Frag} {mg:Str->Option Value} {base:Heap}
noncomputable abbrev s_is_turn:Stmt:=top 38
theorem sc_is_turn:FnScope ["there","back","many"] ["there","back","many"] (defScope s_is_turn):=⟨rfl,rfl,rfl,by decide +kernel,rfl,by decide +kernel,by decide +kernel⟩
noncomputable abbrev s_turned:Stmt:=top 37
theorem sc_turned:FnScope ["thing","there","back","modes"] ["thing","there","back"] (defScope s_turned):=⟨rfl,rfl,rfl,by decide +kernel,rfl,by decide +kernel,by decide +kernel⟩
noncomputable abbrev s_turned_point:Stmt:=top 35
theorem sc_turned_point:FnScope ["there","point"] ["there","point"] (defScope s_turned_point):=⟨rfl,rfl,rfl,by decide +kernel,rfl,by decide +kernel,by decide +kernel⟩
variable {aMode aThing:Addr} (TMode:ClsF K mg "Mode" aMode) (AMode:AtMode K aMode) (TThing:ClsF K mg "Thing" aThing) (AThing:AtThing K aThing)
include TMode AMode TThing AThing
theorem ok_is_turn {k:Nat} {f:Addr} {fd:FuncData} (F:Fun K "is_turn" "is_turn" s_is_turn f fd) (B:Bl mg) (c_is_table:Fn P w K mg base "is_table" ["value","tall","wide"] k spTabD) (c_product:Fn P w K mg base "product" ["table","other","wide"] k spProduct) (c_unit:FnD P w K mg base "unit" ["place","wide","number"] k spUnit (.int 1)):FnOk P w K mg base CX0 (k + 1) f fd ["there","back","many"] spIsTurn:=by
 refine F.ok sc_is_turn (fun vs H Q E h=>?_) (fun cdv A outer s H vs Q E hr h=>?_)
 ·obtain ⟨ta,ba,tv,bv,T,B2,n,rfl,_⟩ | ⟨v1,v2,d1,d2,n,rfl,_⟩:=h
  all_goals rfl
 refine ⟨_,(pss_cons (ps_if (PW.pt (pw_or (pt_not (pt_val (pe_callF c_is_table hr rfl (pa_cons (L2.pvj 0) (pa_cons (L2.pvj 2) (pa_cons (L2.pvj 2) pa_nil)))))) (pw_or1 (pt_not (pt_val (pe_callF c_is_table hr rfl (pa_cons (L2.pvj 1) (pa_cons (L2.pvj 2) (pa_cons (L2.pvj 2) pa_nil))))))))) (pss_one (ps_ret pe_bl)) pss_nil)
  (pss_one (ps_ret (pe_cmpR (op_eqX hr.units) (pe_callF c_product hr rfl (pa_cons (L2.pvj 0) (pa_cons (L2.pvj 1) (pa_cons (L2.pvj 2) pa_nil)))) (pe_comp (own:=["place"]) (caps:=[(2,"many")]) (blk_cap (S:=defScope s_is_turn) (N:=["there","back","many"]) rfl (by decide +kernel) rfl ⟨_,rfl⟩ rfl (by decide +kernel) (by decide +kernel)) rfl (pi_range1 rfl B.range_ (pa_cons (L2.pvj 2) pa_nil)) (fun _ _ _ _=>pg_name (i:=0) (show (["place","many"]:List Str).Nodup by decide +kernel) rfl (Or.inl rfl)) (fun _ _ _ _=>(pe_callF1 c_unit hr rfl (pa_cons (L2.pvj 0) (pa_cons (L2.pvj 1) pa_nil))))) (nomark _))))),?_⟩
 try dsimp only [cxOf,Cx.nox,Cx.wish]
 rcases h with ⟨ta,ba,tv,bv,T,B2,n,rfl,hta,htv,hba,hbv,TT,BB,n3,q⟩ | ⟨v1,v2,d1,d2,n,rfl,h1,h2,f1,f2,no,q⟩
 ·have lT:=TT.len
  have lB:=BB.len
  refine ⟨_,rfl,_,rfl,_,rfl,.ref ta,_,_,_,rfl,.lst hta (dv_tab htv),few_tab (by omega) (fun r hr=>(TT.row r hr).1) (by omega),fun J1 y1=>?_⟩
  rw [tab_true lT (fun r hr=>(TT.row r hr).1)]
  refine ⟨_,rfl,iteF ?_⟩
  refine ⟨_,rfl,_,rfl,_,rfl,.ref ba,_,_,_,rfl,.lst (y1 _ _ hba) (dv_tab (TabV.same y1 hbv)),few_tab (by omega) (fun r hr=>(BB.row r hr).1) (by omega),fun J2 y2=>?_⟩
  rw [tab_true lB (fun r hr=>(BB.row r hr).1)]
  refine ⟨_,rfl,iteF ?_⟩
  have y12:=y1.trans y2
  refine ⟨_,rfl,_,rfl,_,rfl,ta,ba,tv,bv,T,B2,n,n,n,rfl,y12 _ _ hta,TabV.same y12 htv,y12 _ _ hba,TabV.same y12 hbv,TT.mono (by decide),BB.mono (by decide),(by omega),(by omega),(by omega),fun l lv J3 y3 _ el hlv=>?_⟩
  refine ⟨_,rfl,_,rfl,(by omega),(by omega),comp_range (lo:=0) (n:=((n:Nat):Int).toNat)
   (fun i ys σ H'=>TabV H' ys ((List.range i).map fun (i:Nat)=>unitM (i:Int) n 1)/\(∃ o,σ=[o,some (.int (n:Int))])/\Same J3 H')
   ⟨.nil,⟨none,rfl⟩,Same.refl _⟩ (fun i ys σ H' ⟨e1,_⟩=>by have:=Paired.length e1; rw [List.length_map,List.length_range] at this; omega) (Nat.le_of_lt (small1000 (by omega))) ?_ ?_⟩
  ·rintro i ys σ H' hi ⟨hz,⟨o,rfl⟩,sm⟩
   refine ⟨_,rfl,_,rfl,0 + (i:Int),(n:Int),1,rfl,(by omega),(by omega),fun l2 H2 s2 _ el2=>⟨?_,⟨_,rfl⟩,sm.trans s2⟩⟩
   rw [Int.toNat_natCast,Int.zero_add] at el2
   rw [List.range_succ,List.map_append]
   exact paired_snoc (R:=LstI _) ⟨l2,rfl,el2⟩ (TabV.same s2 hz)
  rintro uv σ J4 ⟨huv,⟨o,rfl⟩,y4⟩ ul hul
  rw [Int.toNat_natCast] at huv
  have z5:=same_new hul (HO.lst uv)
  refine ⟨.list ((prodM T B2 n).map lstT),.list ((unitsM n).map lstT),.lst (SqL.of (z5 _ _ (y4 _ _ el))) (dp_tab (TabV.same (y4.trans z5) (NewL.tab hlv))),.lst (SqL.of upd_same) (dp_tab (TabV.same z5 huv)),lay_tab _,lay_tab _,dep_tabs _,dep_tabs _,?_⟩
  rw [eqv_tab]
  exact q _ (y12.trans (y3.trans (y4.trans z5)))
 ·refine ⟨_,rfl,_,rfl,_,rfl,v1,d1,_,_,rfl,h1,f1,fun J1 y1=>?_⟩
  by_cases c1:tabD (n:Int) (n:Int) d1=true
  case neg=>
   rw [Bool.not_eq_true] at c1
   rw [c1]
   exact ⟨_,rfl,iteT (q _ y1)⟩
  rw [c1]
  refine ⟨_,rfl,iteF ?_⟩
  refine ⟨_,rfl,_,rfl,_,rfl,v2,d2,_,_,rfl,h2.same y1,f2,fun J2 y2=>?_⟩
  rw [c1,Bool.true_and] at no
  rw [no]
  exact ⟨_,rfl,iteT (q _ (y1.trans y2))⟩
theorem ok_turned {k:Nat} {f:Addr} {fd:FuncData} (F:Fun K "turned" "turned" s_turned f fd) (B:Bl mg) (c_is_turn:Fn P w K mg base "is_turn" ["there","back","many"] (k + 1) spIsTurn) (c_Thing_modes:FnM P w K mg base aThing "modes" ["self"] (k + 1) (spModes aThing aMode)) (c_turned_mode:Fn P w K mg base "turned_mode" ["mode","there","back","wide"] (k + 1) (spTurnedMode aMode)) (c_Thing_pushes:FnM P w K mg base aThing "pushes" ["self"] (k + 1) (spPushes aThing aMode)) (c_Thing___init__:FnC P w K mg base aThing ["self","many","pushes","modes"] k (spThingInit aThing aMode)):FnOk P w K mg base CX0 (k + 1 + 1) f fd ["thing","there","back"] (spTurned aThing aMode):=by
 refine F.ok sc_turned (fun vs H Q E h=>?_) (fun cdv A outer s H vs Q E hr h=>?_)
 ·obtain ⟨o,kp,km,ta,ba,n,bs,ms,pv,mv,tv,bv,T,B2,rfl,_⟩:=h
  rfl
 obtain ⟨o,kp,km,ta,ba,n,bs,ms,pv,mv,tv,bv,T,B2,rfl,TA,TO,hms,hta,htv,hba,hbv,TT,BB,eP,q⟩:=h
 have hrm:=hr
 refine ⟨_,(pss_cons (ps_if (pt_not (pt_val (pe_callF c_is_turn hr rfl (pa_cons (L2.pvj 1) (pa_cons (L2.pvj 2) (pa_cons (pe_fld (L2.pvj 0) rfl) pa_nil)))))) (pss_one ps_never) pss_nil)
  (pss_cons (ps_comp (i:=3) sc_turned.nd rfl rfl (own:=["mode"]) (caps:=[(0,"thing"),(1,"there"),(2,"back")]) (blk_cap (S:=defScope s_turned) (N:=["thing","there","back","modes"]) rfl (by decide +kernel) rfl ⟨_,rfl⟩ rfl (by decide +kernel) (by decide +kernel)) rfl (pi_list (pe_methF0 c_Thing_modes TThing hrm (L2.pvj 0))) (fun _ _ _ _=>pg_name (i:=0) (show (["mode","thing","there","back"]:List Str).Nodup by decide +kernel) rfl (Or.inl rfl)) (fun _ _ _ _=>(pe_callF c_turned_mode hr rfl (pa_cons (L2.pvj 0) (pa_cons (L2.pvj 2) (pa_cons (L2.pvj 3) (pa_cons (pe_callB (show CallR _ _ (JLen K) from jlen) rfl B.len_ boot_len_ (pa_cons (pe_methF0 c_Thing_pushes TThing hrm (L2.pvj 1)) pa_nil)) pa_nil)))))) rfl)
  (pss_one (ps_ret (pe_makeF c_Thing___init__ TThing hr rfl (pa_cons (pe_fld (L2.pvj 0) rfl) (pa_cons (pe_methF0 c_Thing_pushes TThing hrm (L2.pvj 0)) (pa_cons (L2.pvj 3) pa_nil)))))))),?_⟩
 try dsimp only [cxOf,Cx.nox,Cx.wish]
 obtain ⟨dx,ins⟩:=TA.ins
 have n1:=TO.n1
 have n3:=TO.n3
 have m40:=TO.m40
 have b6:=TO.b6
 have lmv:mv.length=ms.length:=Paired.length TA.hmv
 have lpv:pv.length=bs.length:=Paired.length TA.hpv
 refine ⟨_,rfl,_,rfl,_,rfl,o,aThing,dx,_,_,rfl,ins,TThing.cl,AThing.n_many,rfl,.inl ⟨ta,ba,tv,bv,T,B2,n,rfl,hta,htv,hba,hbv,TT.mono (by decide),BB.mono (by decide),n3,fun J1 y1=>?_⟩⟩
 rw [decide_eq_true eP]
 refine ⟨_,rfl,iteF ?_⟩
 refine ⟨_,rfl,o,dx,_,rfl,(y1 _ _ ins),rfl,o,kp,km,n,bs,ms,pv,mv,rfl,TA.same y1,fun l2 J2 y2 _ el2=>?_⟩
 have s2:=y1.trans y2
 refine ⟨l2,rfl,⟨_,SqL.of el2⟩,comp_list (K:=K) (a:=l2) (xs:=mv) (fun i ys σ H'=>Paired (ModeV aMode H') ys ((ms.take i).map (tmM n bs.length T B2))/\(∃ o2,σ=[o2,some (.ref o),some (.ref ta),some (.ref ba)])/\Same J2 H')
  ⟨.nil,⟨none,rfl⟩,Same.refl _⟩ (fun i ys σ H' hi ⟨e1,_,sm⟩=>⟨SqL.of (sm _ _ el2),by have:=Paired.length e1; rw [List.length_map,List.length_take] at this; omega⟩) (Nat.le_of_lt (small1000 (by omega))) ?_ ?_⟩
 ·rintro i x ys σ H' hix ⟨hys,⟨o2,rfl⟩,sm⟩
  obtain ⟨md,hmd,hx⟩:=paired_get TA.hmv hix
  obtain ⟨mn,mf⟩:=hms md (List.mem_of_getElem? hmd)
  have s0:=s2.trans sm
  refine ⟨_,rfl,_,rfl,_,rfl,_,rfl,o,dx,_,rfl,(s0 _ _ ins),rfl,o,kp,km,n,bs,ms,pv,mv,rfl,TA.same s0,fun lp H2 z2 _ elp=>?_⟩
  have s02:=s0.trans z2
  refine ⟨lp,_,rfl,.inl (SqL.of elp),x,md,ta,ba,tv,bv,T,B2,n,bs.length,(by rw [lpv]; rfl),ModeV.same s02 hx,TO.mok md (List.mem_of_getElem? hmd),mn,mf,s02 _ _ hta,TabV.same s02 htv,s02 _ _ hba,TabV.same s02 hbv,TT,BB,n1,fun u H3 z3 hu=>⟨?_,⟨_,rfl⟩,sm.trans (z2.trans z3)⟩⟩
  rw [take_snoc hmd,List.map_append]
  exact paired_snoc (R:=ModeV aMode _) hu (modes_same (z2.trans z3) hys)
 rintro xs σ J4 ⟨hxs,⟨o2,rfl⟩,y4⟩ ml hml
 rw [List.take_of_length_le (by omega)] at hxs
 have z5:=same_new hml (HO.lst xs)
 have eml:=upd_same (H:=J4) (a:=ml) (o:=HO.lst xs)
 replace hxs:=modes_same z5 hxs
 generalize hhJ5:upd J4 ml (HO.lst xs)=J5 at z5 eml hxs |-
 have s5:=s2.trans (y4.trans z5)
 refine ⟨_,rfl,o,aThing,dx,_,_,rfl,(s5 _ _ ins),TThing.cl,AThing.n_many,rfl,_,rfl,o,dx,_,rfl,(s5 _ _ ins),rfl,o,kp,km,n,bs,ms,pv,mv,rfl,TA.same s5,fun lp J8 y8 _ elp=>?_⟩
 refine ⟨_,rfl,?_⟩
 have s8:=s5.trans y8
 replace eml:=y8 _ _ eml
 replace hxs:=modes_same y8 hxs
 intro to dt hto hdt ne2
 have zt:=same_make hto hdt ne2 (HO.own to) (HO.ins aThing dt [])
 have et9:=upd_same (H:=upd J8 dt (HO.own to)) (a:=to) (o:=HO.ins aThing dt [])
 generalize hhJ9:upd (upd J8 dt (HO.own to)) to (HO.ins aThing dt [])=J9 at zt et9 |-
 have THO:ThOk n bs (ms.map (tmM n bs.length T B2)):=⟨n1,n3,TO.bok,b6,by rw [List.length_map]; exact TO.m1,by rw [List.length_map]; exact m40,fun m hm=>by
  obtain ⟨a,ha,rfl⟩:=List.mem_map.mp hm
  exact tmM_ok (TO.mok a ha) TT BB⟩
 refine ⟨to,dt,lp,ml,pv,xs,n,bs,ms.map (tmM n bs.length T B2),rfl,et9,zt _ _ elp,pu_same (s8.trans zt) TA.hpv,zt _ _ eml,modes_same zt hxs,THO,fun kp' km' J10 sb fk fm fne eo5 ek em=>⟨rfl,?_⟩⟩
 have sz:=same_but zt sb hto
 exact q to xs kp' km' J10 (s8.trans sz) ⟨⟨dt,eo5⟩,ek,pu_same (s8.trans sz) TA.hpv,em,modes_same sz hxs⟩
theorem ok_turned_point {k:Nat} {f:Addr} {fd:FuncData} (F:Fun K "turned_point" "turned_point" s_turned_point f fd) (B:Bl mg) (c_divided_sum:Fn P w K mg base "divided_sum" ["numbers","point","add","divisor"] k (spDivided K)):FnOk P w K mg base CX0 (k + 1) f fd ["there","point"] (spTurnedPoint K):=by
 refine F.ok sc_turned_point (fun vs H Q E h=>?_) (fun cdv A outer s H vs Q E hr h=>?_)
 ·obtain ⟨ta,pa,tv,pv,T,pts,rfl,_⟩:=h
  rfl
 obtain ⟨ta,pa,tv,pv,T,pts,rfl,hta,htv,hpa,hpv,PO,n3,RW,tl,q⟩:=h
 refine ⟨_,(pss_one (ps_ret (pe_comp (own:=["numbers"]) (caps:=[(1,"point")]) (blk_cap (S:=defScope s_turned_point) (N:=["there","point"]) rfl (by decide +kernel) rfl ⟨_,rfl⟩ rfl (by decide +kernel) (by decide +kernel)) rfl (pi_list (L2.pvj 0)) (fun _ _ _ _=>pg_name (i:=0) (show (["numbers","point"]:List Str).Nodup by decide +kernel) rfl (Or.inl rfl)) (fun _ _ _ _=>(pe_callF c_divided_sum hr rfl (pa_cons (L2.pvj 0) (pa_cons (L2.pvj 1) (pa_cons pe_int (pa_cons pe_int pa_nil))))))))),?_⟩
 try dsimp only [cxOf,Cx.nox,Cx.wish]
 have ltv:tv.length=T.length:=Paired.length htv
 refine ⟨_,rfl,ta,rfl,⟨_,SqL.of hta⟩,comp_list (K:=K) (a:=ta) (xs:=tv) (fun i ys σ H'=>PtV H' ys (turnP (T.take i) pts)/\(∃ o,σ=[o,some (.ref pa)])/\Same H H')
  ⟨.nil,⟨none,rfl⟩,Same.refl _⟩ (fun i ys σ H' hi ⟨e1,_,sm⟩=>⟨SqL.of (sm _ _ hta),by have:=Paired.length e1; unfold turnP at this; rw [List.length_map,List.length_take] at this; omega⟩) (Nat.le_of_lt (small1000 (by omega))) ?_ ?_⟩
 ·rintro i x ys σ H' hi ⟨hz,⟨o,rfl⟩,sm⟩
  obtain ⟨r,hr',a,rfl,ea⟩:=paired_get htv hi
  have b0:Bd 1 (0:Int):=Bd.lit
  have b1:Bd 1 (1:Int):=Bd.lit
  refine ⟨_,rfl,_,rfl,a,pa,r,pv,pts,0,1,rfl,.inr (SqL.of (sm _ _ ea)),SqL.of (sm _ _ hpa),hpv.same sm,PO,n3,RW r (List.mem_of_getElem? hr'),b0.mono (by decide),(by decide),b1.mono (by decide),fun t H2 s2 et=>⟨?_,⟨_,rfl⟩,sm.trans s2⟩⟩
  rw [take_snoc hr']
  unfold turnP at hz |-
  rw [List.map_append]
  exact paired_snoc (R:=FrV _) ⟨t,rfl,et⟩ (PtV.same s2 hz)
 rintro ys σ H' ⟨hz,⟨o,rfl⟩,sm⟩ l hl
 rw [List.take_of_length_le (by omega)] at hz
 have zl:=same_new hl (HO.lst ys)
 exact q l ys _ (sm.trans zl) (sm.free hl) upd_same (PtV.same zl hz)
end
structure ErF (K:PySem.W.Frag) (mg:Str->Option Value) (C cS cR cB cM:Addr):Prop where
 mgC:mg "BadTurn" = some (.ref C)
 exc:PySem.W.excIn K C bmV "ValueError.__new__" = true
 isV:PySem.W.kitOne K (.ref C) (.type "ValueError")=some true
 mgS:mg "SteadyError" = some (.ref cS)
 mgR:mg "BadRule" = some (.ref cR)
 mgB:mg "BadThing" = some (.ref cB)
 mgM:mg "TooMany" = some (.ref cM)
 exm:PySem.W.exmOne K (.ref C) (.ref cS)=some true
 noR:PySem.W.kitOne K (.ref C) (.ref cR)=some false
 noB:PySem.W.kitOne K (.ref C) (.ref cB)=some false
 noM:PySem.W.kitOne K (.ref C) (.ref cM)=some false
 xc:ExcC K C
structure Er (K:PySem.W.Frag) (mg:Str->Option Value) (C:Addr):Prop where
 ex:∃ cS cR cB cM,ErF K mg C cS cR cB cM
theorem boot_ValueError_:bootBuiltins "ValueError" = some (.type "ValueError"):=by decide +kernel
theorem cut_mid (xs:List Int) {a b:Nat} (h:a<=b) (hb:b<=xs.length):cutV (xs.map V.int) (some (a:Int)) (some (b:Int))=((xs.drop a).take (b - a)).map V.int:=by
 have e1:HT.sIx (xs.map V.int).length 0 (some (a:Int))=min a (xs.map V.int).length:=HT.sIx_nat _ 0 a
 have e2:HT.sIx (xs.map V.int).length (xs.map V.int).length (some (b:Int))=min b (xs.map V.int).length:=HT.sIx_nat _ _ b
 unfold cutV
 rw [e1,e2,List.length_map,Nat.min_eq_left hb,Nat.min_eq_left (show a<=xs.length by omega),<- List.map_drop,<- List.map_take]
theorem mid_len {xs:List Int} {a b:Nat} (h:a<=b) (hb:b<=xs.length):((xs.drop a).take (b - a)).length=b - a:=by
 rw [List.length_take,List.length_drop]
 omega
theorem mid_bd {xs:List Int} {a b e:Nat} (h:∀ x∈xs,Bd e x):∀ x∈(xs.drop a).take (b - a),Bd e x:=fun x hx=>h x (List.mem_of_mem_drop (List.mem_of_mem_take hx))
structure PBody (H:Hp) (r n s p a:Addr) (rv nv pv:List V) (m:MD):Prop where
 hr:H r=some (.lst rv)
 hrv:WaysV H rv m.rows
 hn:H n=some (.lst nv)
 hnv:TabV H nv m.nexts
 hs:H s=some (.lst (m.steer.map V.int))
 hp:H p=some (.lst pv)
 hpv:TabV H pv m.push
 ha:H a=some (.lst (m.add.map V.int))
theorem PBody.same {H H':Hp} {r n s p a:Addr} {rv nv pv:List V} {m:MD} (z:Same H H') (h:PBody H r n s p a rv nv pv m):PBody H' r n s p a rv nv pv m:=
 ⟨z _ _ h.hr,WaysV.same z h.hrv,z _ _ h.hn,TabV.same z h.hnv,z _ _ h.hs,z _ _ h.hp,TabV.same z h.hpv,z _ _ h.ha⟩
noncomputable def PartsV (H:Hp) (v:V) (m:MD):Prop:=∃ pl r n s p a rv nv pv,v=.ref pl/\H pl=some (.lst [.ref r,.ref n,.ref s,.ref p,.ref a,.int m.div])/\PBody H r n s p a rv nv pv m
theorem PartsV.same {H H':Hp} {v:V} {m:MD} (z:Same H H') (h:PartsV H v m):PartsV H' v m:=
 let ⟨pl,r,n,s,p,a,rv,nv,pv,e,hl,b⟩:=h
 ⟨pl,r,n,s,p,a,rv,nv,pv,e,z _ _ hl,b.same z⟩
theorem partss_same {H H':Hp} {vs:List V} {ms:List MD} (s:Same H H') (h:Paired (PartsV H) vs ms):Paired (PartsV H') vs ms:=Paired.mapP h fun _ _ z=>z.same s
inductive spParts (vs:List V) (H:Hp) (Q:VK) (E:XK):Prop
 | mk (c mm ww:Int) (_:vs=[.int c,.int mm,.int ww]) (_:1<=mm) (_:mm<=3) (_:0<=ww) (_:ww<=3) (_:∀ (v:V) (m:MD) (H':Hp),Same H H'->PartsV H' v m->MDOk m mm.toNat ww.toNat->MN m 101->m.rows.length<=100->Q v H'):spParts vs H Q E
inductive spAlong (K:PySem.W.Frag) (vs:List V) (H:Hp) (Q:VK) (E:XK):Prop
 | mk (ra pa:Addr) (ws:List Int) (b:Int) (pv:List V) (pts:List (Int × Int)) (_:vs=[.ref ra,.ref pa]) (_:H ra=some (.tup (rowV ws b))) (_:SqL K H pa pv) (_:PtV H pv pts) (_:PtOk pts) (_:RwOk ws pts.length) (_:pts.length<=3) (_:∀ r H',Same H H'->H' r=some (.tup [.int (lowT (alFold ws pts).1 (alFold ws pts).2),.int (lowB (alFold ws pts).1 (alFold ws pts).2)])->Q (.ref r) H'):spAlong K vs H Q E
section
variable {P:Program} {w:World} {K:PySem.W.Frag} {mg:Str->Option Value} {base:Heap} {C:Addr}
noncomputable abbrev s_l_refused:Stmt:=top 49
theorem sc_l_refused:FnScope ["_law_thing","_law_there","_law_back","e","_law_others"] ["_law_thing","_law_there","_law_back"] (defScope s_l_refused):=⟨rfl,rfl,rfl,by decide +kernel,rfl,by decide +kernel,by decide +kernel⟩
noncomputable abbrev s_along:Stmt:=top 23
theorem sc_along:FnScope ["row","point","total"] ["row","point"] (defScope s_along):=⟨rfl,rfl,rfl,by decide +kernel,rfl,by decide +kernel,by decide +kernel⟩
noncomputable abbrev s_l_cell_at:Stmt:=top 42
theorem sc_l_cell_at:FnScope ["_law_script","_law_k"] ["_law_script","_law_k"] (defScope s_l_cell_at):=⟨rfl,rfl,rfl,by decide +kernel,rfl,by decide +kernel,by decide +kernel⟩
noncomputable abbrev s_l_stream:Stmt:=top 43
theorem sc_l_stream:FnScope ["_law_cell","_law_many","_law_found","_law_rest","_law_k","_law_number_here"] ["_law_cell","_law_many"] (defScope s_l_stream):=⟨rfl,rfl,rfl,by decide +kernel,rfl,by decide +kernel,by decide +kernel⟩
noncomputable abbrev s_l_number:Stmt:=top 44
theorem sc_l_number:FnScope ["_law_number_here"] ["_law_number_here"] (defScope s_l_number):=⟨rfl,rfl,rfl,by decide +kernel,rfl,by decide +kernel,by decide +kernel⟩
noncomputable abbrev s_l_parts:Stmt:=top 45
theorem sc_l_parts:FnScope ["_law_cell","_law_many","_law_wide","_law_xs","_law_numbers","_law_rows","_law_nexts","_law_push"] ["_law_cell","_law_many","_law_wide"] (defScope s_l_parts):=⟨rfl,rfl,rfl,by decide +kernel,rfl,by decide +kernel,by decide +kernel⟩
variable {aMode aThing:Addr} (TMode:ClsF K mg "Mode" aMode) (AMode:AtMode K aMode) (TThing:ClsF K mg "Thing" aThing) (AThing:AtThing K aThing)
include TMode AMode TThing AThing
theorem okx_turned {k:Nat} {f:Addr} {fd:FuncData} (F:Fun K "turned" "turned" s_turned f fd) (B:Bl mg) (Z:Er K mg C) (c_is_turn:Fn P w K mg base "is_turn" ["there","back","many"] k spIsTurn):FnOk P w K mg base (CX1 P w) (k + 1) f fd ["thing","there","back"] (spBadTurn aThing aMode C):=by
 refine F.okX sc_turned (fun vs H Q E h=>?_) (fun cdv A outer s H vs Q E hr h=>?_)
 ·obtain ⟨o,kp,km,v1,v2,n,bs,ms,pv,mv,rfl,_⟩:=h
  rfl
 obtain ⟨o,kp,km,v1,v2,n,bs,ms,pv,mv,rfl,TA,n3,W,q⟩:=h
 obtain ⟨cS,cR,cB,cM,ZZ⟩:=Z.ex
 obtain ⟨dx,ins⟩:=TA.ins
 refine ⟨_,(pss_cons (ps_if (pt_not (pt_val (pe_callF c_is_turn hr rfl (pa_cons (L2.pvj 1) (pa_cons (L2.pvj 2) (pa_cons (pe_fld (L2.pvj 0) rfl) pa_nil)))))) (pss_one (ps_raise (C:=C) (E:=E) (fun _ _ _ _ _ _ _ _ I mx qx=>raised_out I mx qx) ZZ.exc rfl ZZ.mgC rfl (pa_cons pe_str pa_nil))) pss_nil) pss_never),?_⟩
 rcases W with ⟨d1,d2,h1,h2,f1,f2,no⟩ | ⟨ta,ba,tv,bv,T,B2,rfl,rfl,h1,h2,h3,h4,TT,BB,ne⟩
 ·refine ⟨_,rfl,_,rfl,_,rfl,o,aThing,dx,_,_,rfl,ins,TThing.cl,AThing.n_many,rfl,.inr ⟨v1,v2,d1,d2,n,rfl,h1,h2,f1,f2,no,fun J1 y1=>?_⟩⟩
  exact ⟨_,rfl,iteT ⟨(by show 1<=sizeLine; decide),q _ y1⟩⟩
 ·refine ⟨_,rfl,_,rfl,_,rfl,o,aThing,dx,_,_,rfl,ins,TThing.cl,AThing.n_many,rfl,.inl ⟨ta,ba,tv,bv,T,B2,n,rfl,h1,h2,h3,h4,TT,BB,n3,fun J1 y1=>?_⟩⟩
  rw [decide_eq_false ne]
  exact ⟨_,rfl,iteT ⟨(by show 1<=sizeLine; decide),q _ y1⟩⟩
theorem ok_l_refused {k:Nat} {f:Addr} {fd:FuncData} (F:Fun K "_law_refused" "_law_refused" s_l_refused f fd) (B:Bl mg) (Z:Er K mg C) (x_turned:FnX P w K mg base "turned" ["thing","there","back"] k (spBadTurn aThing aMode C)):FnOk P w K mg base CX0 (k + 1) f fd ["_law_thing","_law_there","_law_back"] (spRefusedL aThing aMode):=by
 refine F.ok sc_l_refused (fun vs H Q E h=>?_) (fun cdv A outer s H vs Q E hr h=>?_)
 ·obtain ⟨o,kp,km,v1,v2,n,bs,ms,pv,mv,rfl,_⟩:=h
  rfl
 obtain ⟨o,kp,km,v1,v2,n,bs,ms,pv,mv,rfl,TA,n3,W,q⟩:=h
 obtain ⟨cS,cR,cB,cM,ZZ⟩:=Z.ex
 refine ⟨_,(pss_cons (ps_tryG (i:=3) rfl ZZ.mgS rfl rfl rfl sc_l_refused.nd rfl rfl (psxs_cons (psx_expr (pex_callF x_turned hr rfl (pa_cons (L2.pvj 0) (pa_cons (L2.pvj 1) (pa_cons (L2.pvj 2) pa_nil))))) psxs_nil) (fun _=>(pss_cons (ps_set (i:=4) sc_l_refused.nd rfl (Or.inl rfl) (pe_lst (pa_cons (pe_callB (show CallR _ _ (rInstXA K) from call_isinstXA) rfl B.isinstance_ boot_isinstance_ (pa_cons (L2.pvj 3) (pa_cons (show PE _ _ (tC (.ref cR)) from pe_glob rfl ZZ.mgR rfl) pa_nil))) (pa_cons (pe_callB (show CallR _ _ (rInstXA K) from call_isinstXA) rfl B.isinstance_ boot_isinstance_ (pa_cons (L2.pvj 3) (pa_cons (show PE _ _ (tC (.ref cB)) from pe_glob rfl ZZ.mgB rfl) pa_nil))) (pa_cons (pe_callB (show CallR _ _ (rInstXA K) from call_isinstXA) rfl B.isinstance_ boot_isinstance_ (pa_cons (L2.pvj 3) (pa_cons (show PE _ _ (tC (.ref cM)) from pe_glob rfl ZZ.mgM rfl) pa_nil))) pa_nil)))))
   (pss_one (ps_ret (pe_and (pe_callB (show CallR _ _ (rInstXA K) from call_isinstXA) rfl B.isinstance_ boot_isinstance_ (pa_cons (L2.pvj 3) (pa_cons (show PE _ _ (tC (.ref C)) from pe_glob rfl ZZ.mgC rfl) pa_nil))) (pe_and (pe_callB (show CallR _ _ (rInstX K) from call_isinstX) rfl B.isinstance_ boot_isinstance_ (pa_cons (L2.pvj 3) (pa_cons (pe_bltn (v:=.ty "ValueError") (u:=.type "ValueError") rfl B.ValueError_ boot_ValueError_ rfl) pa_nil))) (pe_one (pe_cmpR (show OpR _ _ (rNotInB K) from op_notinB) pe_bl (L2.pvj 4) (by rfl))))))))))
  (pss_one (ps_ret pe_bl))),?_⟩
 try dsimp only [cxOf,Cx.nox,Cx.wish]
 refine ⟨_,rfl,_,rfl,_,rfl,o,kp,km,v1,v2,n,bs,ms,pv,mv,rfl,TA,n3,W,fun H1 s1=>⟨C,rfl,ZZ.exm,fun e he=>?_⟩⟩
 refine ⟨_,rfl,e,C,cR,false,rfl,upd_same,ZZ.xc,ZZ.noR,?_⟩
 refine ⟨_,rfl,e,C,cB,false,rfl,upd_same,ZZ.xc,ZZ.noB,?_⟩
 refine ⟨_,rfl,e,C,cM,false,rfl,upd_same,ZZ.xc,ZZ.noM,?_⟩
 refine ⟨(by show 3<=sizeLine; decide),fun l hl=>?_⟩
 have zl:=same_new hl (HO.lst [V.bl false,V.bl false,V.bl false])
 have ee:=zl _ _ (upd_same (H:=H1) (a:=e) (o:=ExcO e C))
 refine ⟨_,rfl,e,C,C,true,rfl,ee,ZZ.xc,kit_self,_,rfl,iteT ?_⟩
 refine ⟨_,rfl,e,C,"ValueError",rfl,ee,ZZ.isV,_,rfl,iteT ?_⟩
 refine ⟨_,rfl,true,l,[false,false,false],rfl,rfl,SqL.of upd_same,?_⟩
 exact q _
theorem ok_along {k:Nat} {f:Addr} {fd:FuncData} (F:Fun K "along" "along" s_along f fd) (B:Bl mg) (c_raw_sum:Fn P w K mg base "raw_sum" ["numbers","point"] k (spRawE K)) (c_fraction:FnD P w K mg base "fraction" ["top","bottom"] k spFraction (.int 1)):FnOk P w K mg base CX0 (k + 1) f fd ["row","point"] (spAlong K):=by
 refine F.ok sc_along (fun vs H Q E h=>?_) (fun cdv A outer s H vs Q E hr h=>?_)
 ·obtain ⟨ra,pa,ws,b,pv,pts,rfl,_⟩:=h
  rfl
 obtain ⟨ra,pa,ws,b,pv,pts,rfl,hra,hpa,hpt,PO,WO,n3,q⟩:=h
 refine ⟨_,(pss_cons (ps_set (i:=2) sc_along.nd rfl (Or.inl rfl) (pe_callF c_raw_sum hr rfl (pa_cons (pe_slice jsl_tup (L2.pvj 0) po_none (po_some (pe_un un_neg pe_int))) (pa_cons (L2.pvj 1) pa_nil))))
  (pss_one (ps_ret (pe_callF c_fraction.fn hr rfl (pa_cons (pe_ix jix_tup (L2.pvj 2) pe_int (fun _ _=>rfl)) (pa_cons (pe_ix jix_tup (L2.pvj 2) pe_int (fun _ _=>rfl)) pa_nil)))))),?_⟩
 try dsimp only [cxOf,Cx.nox,Cx.wish]
 refine ⟨_,rfl,_,rfl,_,rfl,ra,_,rfl,SqT.of hra,cut_last_no _ _,fun p hp=>?_⟩
 have ec:cutV (rowV ws b) none (some (-1))=ws.map V.int:=cut_last _ _
 have s1:=same_new hp (HO.tup (cutV (rowV ws b) none (some (-1))))
 refine ⟨_,rfl,p,pa,ws,pv,pts,rfl,.inl (SqT.of (upd_same.trans (by rw [ec]))),s1.seq hpa,hpt.same s1,PO,WO,fun r1 H1 s2 e1=>?_⟩
 have b2:=(al_bd3 PO n3 WO).2
 refine ⟨_,rfl,r1,_,0,_,rfl,rfl,SqT.of e1,at0,_,rfl,r1,_,1,_,rfl,rfl,SqT.of e1,at1,_,_,rfl,Int.ne_of_gt (al_pos PO WO),b2.mono (by decide),fun r H' sm' e=>?_⟩
 exact q r H' (s1.trans (s2.trans sm')) e
theorem ok_l_cell_at {k:Nat} {f:Addr} {fd:FuncData} (F:Fun K "_law_cell_at" "_law_cell_at" s_l_cell_at f fd) (B:Bl mg):FnOk P w K mg base CX0 (k + 1) f fd ["_law_script","_law_k"] (spCell K):=by
 refine F.ok sc_l_cell_at (fun vs H Q E h=>?_) (fun cdv A outer s H vs Q E hr h=>?_)
 ·obtain ⟨a,ns,k,rfl,_⟩:=h
  rfl
 obtain ⟨a,ns,k,rfl,hS,h0,q⟩:=h
 refine ⟨_,(pss_cons (ps_if (pt_cmpR (ji0 op_lt) (L2.pvj 1) (pe_callB jlen rfl B.len_ boot_len_ (pa_cons (L2.pvj 0) pa_nil)) (nomark _)) (pss_one (ps_ret (pe_ix jix_list (L2.pvj 0) (L2.pvj 1) (fun _ _=>rfl)))) pss_nil)
  (pss_one (ps_ret pe_int))),?_⟩
 try dsimp only [cxOf,Cx.nox,Cx.wish]
 refine ⟨_,rfl,_,rfl,a,_,rfl,.inl hS,_,_,rfl,rfl,_,rfl,?_⟩
 refine ite2 (fun c=>?_) (fun c=>?_)
 ·have c':k < ((ns.map V.int).length:Int):=of_decide_eq_true c
  rw [List.length_map] at c'
  have hk:k.toNat < ns.length:=by omega
  have ek:k=((k.toNat:Nat):Int):=by omega
  have q0:atI (ns.map V.int) ((k.toNat:Nat):Int)=some (.int ns[k.toNat]):=atI_nat (by rw [List.getElem?_map,List.getElem?_eq_getElem hk]; rfl)
  rw [<- ek] at q0
  refine ⟨_,rfl,_,rfl,a,_,k,.int (ns[k.toNat]),rfl,rfl,hS,q0,?_⟩
  ·have e:ns[k.toNat]=cellZ ns k:=by unfold cellZ; rw [List.getElem?_eq_getElem hk]; rfl
   rw [e]
   exact q
 ·have c':¬ k < ((ns.map V.int).length:Int):=fun z=>c (decide_eq_true z)
  rw [List.length_map] at c'
  have e:(0:Int)=cellZ ns k:=by unfold cellZ; rw [List.getElem?_eq_none (by omega)]; rfl
  show Q (.int 0) H
  rw [e]
  exact q
theorem ok_l_stream {k:Nat} {f:Addr} {fd:FuncData} (F:Fun K "_law_stream" "_law_stream" s_l_stream f fd) (B:Bl mg):FnOk P w K mg base CX0 (k + 1) f fd ["_law_cell","_law_many"] spStream:=by
 refine F.ok sc_l_stream (fun vs H Q E h=>?_) (fun cdv A outer s H vs Q E hr h=>?_)
 ·obtain ⟨c,mm,rfl,_⟩:=h
  rfl
 obtain ⟨c,mm,rfl,m0,m10,q⟩:=h
 refine ⟨_,(pss_cons (ps_set (i:=2) sc_l_stream.nd rfl (Or.inl rfl) (pe_lst pa_nil))
  (pss_cons (ps_if (pt_cmpR (ji0 op_ge) (L2.pvj 0) (pe_op (ji op_pow) pe_int pe_int) (nomark _)) (pss_cons (ps_set (i:=3) sc_l_stream.nd rfl (Or.inl rfl) (pe_op (ji0 op_sub) (L2.pvj 0) (pe_op (ji op_pow) pe_int pe_int)))
   (pss_cons (ps_for PassesOwn.never rfl (pi_range1 rfl B.range_ (pa_cons (L2.pvj 1) pa_nil)) (pg_name (i:=4) sc_l_stream.nd rfl (Or.inl rfl)) (pss_cons (ps_expr (pe_bm PySem.F.plainAttrs_list PySem.F.slot_list_append PySem.F.type_list_append japp (L2.pvj 2) (pa_cons (pe_op (ji op_modN) (L2.pvj 3) pe_int) pa_nil)))
    (pss_one (ps_set (i:=3) sc_l_stream.nd rfl (Or.inl rfl) (pe_op (ji op_fdivW) (L2.pvj 3) pe_int)))))
   (pss_one (ps_ret (L2.pvj 2))))) pss_nil)
  (pss_cons (ps_set (i:=5) sc_l_stream.nd rfl (Or.inl rfl) (pe_op (ji0 op_add) (pe_op (ji op_modN) (L2.pvj 0) (pe_op (ji0 op_add) (pe_op (ji op_pow) pe_int pe_int) pe_int)) pe_int))
  (pss_cons (ps_for PassesOwn.never rfl (pi_range1 rfl B.range_ (pa_cons (pe_op (ji0 op_add) (L2.pvj 1) pe_int) pa_nil)) (pg_name (i:=4) sc_l_stream.nd rfl (Or.inl rfl)) (pss_cons (ps_set (i:=5) sc_l_stream.nd rfl (Or.inl rfl) (pe_op (ji op_modN) (pe_op (ji0 op_add) (pe_op (ji0 op_add) (pe_op (ji op_mulW) (L2.pvj 5) (L2.pvj 5)) (pe_op (ji op_mulW) pe_int (L2.pvj 5))) (L2.pvj 4)) (pe_op (ji0 op_add) (pe_op (ji op_pow) pe_int pe_int) pe_int)))
   (pss_one (ps_expr (pe_bm PySem.F.plainAttrs_list PySem.F.slot_list_append PySem.F.type_list_append japp (L2.pvj 2) (pa_cons (L2.pvj 5) pa_nil))))))
  (pss_one (ps_ret (pe_slice jsl_list (L2.pvj 2) (po_some pe_int) po_none))))))),?_⟩
 try dsimp only [cxOf,Cx.nox,Cx.wish]
 have p0:(0:Int) < 2147483647:=by decide
 have b0:Bd 31 (2147483647:Int):=Bd.lit
 have big:(2147483647:Int) < 10 ^ 45:=by decide
 have bmod:∀ z:Int,Bd 31 (z.fmod 2147483647):=fun z=>by
  have h1:=Int.fmod_nonneg_of_pos z p0
  have h2:=Int.fmod_lt_of_pos z p0
  have h3:(2147483647:Int).natAbs < 2 ^ 31:=b0
  show (z.fmod 2147483647).natAbs < 2 ^ 31
  omega
 have p1:(0:Int) < 10 ^ (18:Int).toNat + 9:=by decide
 have big1:(10:Int) ^ (18:Int).toNat + 9 < 10 ^ 45:=by decide
 have bmod1:∀ z:Int,Bd 61 (z.fmod (10 ^ (18:Int).toNat + 9)):=fun z=>by
  have h1:=Int.fmod_nonneg_of_pos z p1
  have h2:=Int.fmod_lt_of_pos z p1
  have h3:(10:Int) ^ (18:Int).toNat + 9 < 2 ^ 61:=by decide
  show (z.fmod (10 ^ (18:Int).toNat + 9)).natAbs < 2 ^ 61
  omega
 refine ⟨(by show 0<=sizeLine; decide),fun l hl=>?_⟩
 refine ⟨_,rfl,_,_,rfl,rfl,⟨by decide,by decide,by decide⟩,_,_,rfl,rfl,_,rfl,?_⟩
 refine ite2 (fun cc=>?_) (fun cc=>?_)
 ·refine ⟨_,rfl,_,_,rfl,rfl,⟨by decide,by decide,by decide⟩,_,_,rfl,rfl,?_⟩
  refine ⟨_,rfl,mm,rfl,(by omega),(by omega),for_range (lo:=0) (n:=mm.toNat)
   (fun i σ H2=>∃ (xs:List Int) (rs:Int) (kk:Option V),σ=[some (.int c),some (.int mm),some (.ref l),some (.int rs),kk,none]/\H2=upd H l (.lst (xs.map V.int))/\xs.length=i/\∀ x∈xs,0<=x/\x < 10 ^ 45)
   ⟨[],_,none,rfl,rfl,rfl,fun x hx=>by cases hx⟩ ?_ ?_⟩
  ·rintro i σ H2 hi ⟨xs,rs,kk,rfl,rfl,hlen,hxs⟩
   refine ⟨_,rfl,.inl ⟨rfl,_,SqL.of upd_same⟩,_,rfl,_,_,rfl,rfl,(show (2147483647:Int)≠0 by decide),l,_,_,rfl,rfl,upd_same,?_,?_⟩
   ·rw [List.length_map]
    exact small1000 (by omega)
   refine ⟨_,rfl,_,_,rfl,rfl,⟨(show (2147483647:Int)≠0 by decide),b0.mono (by decide)⟩,?_⟩
   refine ⟨xs++[rs.fmod 2147483647],_,_,rfl,?_,?_,fun x hx=>?_⟩
   ·rw [upd_upd,List.map_append]
    rfl
   ·rw [List.length_append,hlen]
    rfl
   ·rcases List.mem_append.mp hx with hx | hx
    ·exact hxs x hx
    ·rw [List.mem_singleton.mp hx]
     have h2:=Int.fmod_lt_of_pos rs p0
     exact ⟨Int.fmod_nonneg_of_pos _ p0,by omega⟩
  ·rintro σ H2 ⟨xs,rs,kk,rfl,rfl,hlen,hxs⟩
   exact ⟨_,rfl,q l _ xs (same_new hl _) hl upd_same hlen hxs⟩
 ·refine ⟨_,rfl,_,_,rfl,rfl,⟨by decide,by decide,by decide⟩,_,_,rfl,rfl,_,_,rfl,rfl,(show (10:Int) ^ (18:Int).toNat + 9≠0 by decide),_,_,rfl,rfl,?_⟩
  have bk:Bd 61 (48271:Int):=Bd.lit
  have hb0:Bd 62 (c.fmod (10 ^ (18:Int).toNat + 9) + 48271):=((bmod1 c).add bk).mono (by decide)
  refine ⟨_,rfl,_,_,rfl,rfl,mm + 2,rfl,(by omega),(by omega),for_range (lo:=0) (n:=(mm + 2).toNat)
   (fun i σ H2=>∃ (xs:List Int) (nh:Int) (kk:Option V),σ=[some (.int c),some (.int mm),some (.ref l),none,kk,some (.int nh)]/\H2=upd H l (.lst (xs.map V.int))/\xs.length=i/\Bd 62 nh/\∀ x∈xs,0<=x/\x < 10 ^ 45)
   ⟨[],_,none,rfl,rfl,rfl,hb0,fun x hx=>by cases hx⟩ ?_ ?_⟩
  ·rintro i σ H2 hi ⟨xs,nh,kk,rfl,rfl,hlen,hnh,hxs⟩
   refine ⟨_,rfl,_,rfl,_,_,rfl,rfl,⟨hnh.mono (by decide),hnh.mono (by decide)⟩,_,rfl,_,_,rfl,rfl,⟨bk.mono (by decide),hnh.mono (by decide)⟩,_,_,rfl,rfl,_,rfl,_,_,rfl,rfl,_,_,rfl,rfl,⟨by decide,by decide,by decide⟩,_,_,rfl,rfl,_,_,rfl,rfl,(show (10:Int) ^ (18:Int).toNat + 9≠0 by decide),?_⟩
   refine ⟨_,rfl,.inl ⟨rfl,_,SqL.of upd_same⟩,_,rfl,l,_,_,rfl,rfl,upd_same,?_,?_⟩
   ·rw [List.length_map]
    exact small1000 (by omega)
   refine ⟨xs++[(nh * nh + 48271 * nh + (0 + (i:Int))).fmod (10 ^ (18:Int).toNat + 9)],_,_,rfl,?_,?_,(bmod1 _).mono (by decide),fun x hx=>?_⟩
   ·rw [upd_upd,List.map_append]
    rfl
   ·rw [List.length_append,hlen]
    rfl
   ·rcases List.mem_append.mp hx with hx | hx
    ·exact hxs x hx
    ·rw [List.mem_singleton.mp hx]
     have h2:=Int.fmod_lt_of_pos (nh * nh + 48271 * nh + (0 + (i:Int))) p1
     exact ⟨Int.fmod_nonneg_of_pos _ p1,by omega⟩
  ·rintro σ H2 ⟨xs,nh,kk,rfl,rfl,hlen,hnh,hxs⟩
   refine ⟨_,rfl,_,rfl,l,_,rfl,SqL.of upd_same,fun p hp=>?_⟩
   have ec:cutV (xs.map V.int) (some 2) none=(xs.drop 2).map V.int:=by
    have e1:HT.sIx (xs.map V.int).length 0 (some 2)=min 2 (xs.map V.int).length:=HT.sIx_nat _ 0 2
    unfold cutV
    rw [e1,HT.sIx_none,List.length_map,hlen,show min 2 (mm + 2).toNat=2 by omega,<- List.map_drop,List.take_of_length_le (by rw [List.length_map,List.length_drop]; omega)]
   refine q p _ (xs.drop 2) ((same_new hl _).trans (same_new hp _)) ((same_new hl _).free hp) (upd_same.trans (by rw [ec])) (by rw [List.length_drop]; omega) fun x hx=>hxs x (List.mem_of_mem_drop hx)
theorem ok_l_number {k:Nat} {f:Addr} {fd:FuncData} (F:Fun K "_law_number" "_law_number" s_l_number f fd) (B:Bl mg):FnOk P w K mg base CX0 (k + 1) f fd ["_law_number_here"] spNum21:=by
 refine F.ok sc_l_number (fun vs H Q E h=>?_) (fun cdv A outer s H vs Q E hr h=>?_)
 ·obtain ⟨x,rfl,_⟩:=h
  rfl
 obtain ⟨x,rfl,bx,q⟩:=h
 refine ⟨_,(pss_cons (ps_if (pt_cmpR op_eq (pe_op (ji op_modN) (L2.pvj 0) pe_int) pe_int (nomark _)) (pss_one (ps_ret (pe_op (ji0 op_sub) (pe_op (ji op_modN) (pe_op (ji op_mulW) (pe_op (ji op_fdivW) (L2.pvj 0) pe_int) (pe_op (ji op_pow) pe_int pe_int)) (pe_op (ji op_pow) pe_int pe_int)) (pe_op (ji op_mulW) pe_int (pe_op (ji op_pow) pe_int pe_int))))) pss_nil)
  (pss_one (ps_ret (pe_op (ji0 op_sub) (pe_op (ji op_modN) (pe_op (ji op_fdivW) (L2.pvj 0) pe_int) pe_int) pe_int)))),?_⟩
 try dsimp only [cxOf,Cx.nox,Cx.wish]
 have b9:Bd 4 (9:Int):=Bd.lit
 have b5:Bd 4 (5:Int):=Bd.lit
 have p20:(0:Int) < 10 ^ (20:Int).toNat:=by decide
 have b12:Bd 104 ((10:Int) ^ (12:Int).toNat):=Bd.lit
 have b19:Bd 130 ((10:Int) ^ (19:Int).toNat):=Bd.lit
 refine ⟨_,rfl,_,_,rfl,rfl,(show (9:Int)≠0 by decide),rfl,_,rfl,?_⟩
 refine ite2 (fun c1=>?_) (fun c1=>?_)
 ·refine ⟨_,rfl,_,_,rfl,rfl,⟨by decide,b9.mono (by decide)⟩,_,_,rfl,rfl,⟨by decide,by decide,by decide⟩,_,_,rfl,rfl,⟨(bx.fdiv _).mono (by decide),b12.mono (by decide)⟩,_,_,rfl,rfl,⟨by decide,by decide,by decide⟩,_,_,rfl,rfl,(show (10:Int) ^ (20:Int).toNat≠0 by decide),_,_,rfl,rfl,⟨by decide,by decide,by decide⟩,_,_,rfl,rfl,⟨b5.mono (by decide),b19.mono (by decide)⟩,_,_,rfl,rfl,?_⟩
  refine q _ ?_
  have h1:=Int.fmod_nonneg_of_pos (x.fdiv 9 * 10 ^ (12:Int).toNat) p20
  have h2:=Int.fmod_lt_of_pos (x.fdiv 9 * 10 ^ (12:Int).toNat) p20
  have h3:(10:Int) ^ (20:Int).toNat < 2 ^ 100:=by decide
  have h4:(5:Int) * 10 ^ (19:Int).toNat < 2 ^ 100:=by decide
  have h5:0 < (5:Int) * 10 ^ (19:Int).toNat:=by decide
  show ((x.fdiv 9 * 10 ^ (12:Int).toNat).fmod (10 ^ (20:Int).toNat) - 5 * 10 ^ (19:Int).toNat).natAbs < 2 ^ 101
  omega
 ·refine ⟨_,rfl,_,_,rfl,rfl,⟨by decide,b9.mono (by decide)⟩,_,_,rfl,rfl,(show (19:Int)≠0 by decide),_,_,rfl,rfl,?_⟩
  refine q _ ?_
  have h1:=Int.fmod_nonneg_of_pos (x.fdiv 9) (show (0:Int) < 19 by decide)
  have h2:=Int.fmod_lt_of_pos (x.fdiv 9) (show (0:Int) < 19 by decide)
  have:Bd 5 ((x.fdiv 9).fmod 19 - 9):=by
   show ((x.fdiv 9).fmod 19 - 9).natAbs < 2 ^ 5
   omega
  exact this.mono (by decide)
theorem ok_l_parts {k:Nat} {f:Addr} {fd:FuncData} (F:Fun K "_law_parts" "_law_parts" s_l_parts f fd) (B:Bl mg) (c_l_stream:Fn P w K mg base "_law_stream" ["_law_cell","_law_many"] k spStream) (c_l_number:Fn P w K mg base "_law_number" ["_law_number_here"] k spNum21):FnOk P w K mg base CX0 (k + 1) f fd ["_law_cell","_law_many","_law_wide"] spParts:=by
 refine F.ok sc_l_parts (fun vs H Q E h=>?_) (fun cdv A outer s H vs Q E hr h=>?_)
 ·obtain ⟨c,mm,ww,rfl,_⟩:=h
  rfl
 obtain ⟨c,mm,ww,rfl,m1,m3,w0,w3,q⟩:=h
 refine ⟨_,(pss_cons (ps_set (i:=3) sc_l_parts.nd rfl (Or.inl rfl) (pe_callF c_l_stream hr rfl (pa_cons (L2.pvj 0) (pa_cons pe_int pa_nil))))
  (pss_cons (ps_set (i:=4) sc_l_parts.nd rfl (Or.inr rfl) (pe_comp (own:=["_law_number_here"]) (caps:=[]) (blk_mk rfl) rfl (pi_list (L2.pvj 3)) (fun _ _ _ _=>pg_name (i:=0) (show (["_law_number_here"]:List Str).Nodup by decide +kernel) rfl (Or.inl rfl)) (fun _ _ _ _=>(pe_callF c_l_number hr rfl (pa_cons (L2.pvj 0) pa_nil)))))
  (pss_cons (ps_comp (i:=5) sc_l_parts.nd rfl rfl (own:=["_law_k"]) (caps:=[(1,"_law_many"),(4,"_law_numbers")]) (blk_cap (S:=defScope s_l_parts) (N:=["_law_cell","_law_many","_law_wide","_law_xs","_law_numbers","_law_rows","_law_nexts","_law_push"]) rfl (by decide +kernel) rfl ⟨_,rfl⟩ rfl (by decide +kernel) (by decide +kernel)) rfl (pi_range1 rfl B.range_ (pa_cons (pe_op (ji op_modN) (pe_ix jix_list (L2.pvj 3) pe_int (fun _ _=>rfl)) pe_int) pa_nil)) (fun _ _ _ _=>pg_name (i:=0) (show (["_law_k","_law_many","_law_numbers"]:List Str).Nodup by decide +kernel) rfl (Or.inl rfl)) (fun _ _ _ _=>(pe_callTy (show CallR _ _ (JTup K) from jtup) rfl B.tuple_ boot_tuple_ (pa_cons (pe_slice (show SlR _ (JSlL K) from jsl_list) (L2.pvj 2) (po_some (pe_op (ji op_mulW) pe_int (L2.pvj 0))) (po_some (pe_op (ji0 op_add) (pe_op (ji0 op_add) (pe_op (ji op_mulW) pe_int (L2.pvj 0)) (L2.pvj 1)) pe_int))) pa_nil))) rfl)
  (pss_cons (ps_comp (i:=6) sc_l_parts.nd rfl rfl (own:=["_law_i"]) (caps:=[(1,"_law_many"),(4,"_law_numbers")]) (blk_cap (S:=defScope s_l_parts) (N:=["_law_cell","_law_many","_law_wide","_law_xs","_law_numbers","_law_rows","_law_nexts","_law_push"]) rfl (by decide +kernel) rfl ⟨_,rfl⟩ rfl (by decide +kernel) (by decide +kernel)) rfl (pi_range1 rfl B.range_ (pa_cons (L2.pvj 1) pa_nil)) (fun _ _ _ _=>pg_name (i:=0) (show (["_law_i","_law_many","_law_numbers"]:List Str).Nodup by decide +kernel) rfl (Or.inl rfl)) (fun _ _ _ _=>(pe_slice (show SlR _ (JSlL K) from jsl_list) (L2.pvj 2) (po_some (pe_op (ji0 op_add) pe_int (pe_op (ji op_mulW) pe_int (L2.pvj 0)))) (po_some (pe_op (ji0 op_add) (pe_op (ji0 op_add) pe_int (pe_op (ji op_mulW) pe_int (L2.pvj 0))) (L2.pvj 1))))) rfl)
  (pss_cons (ps_comp (i:=7) sc_l_parts.nd rfl rfl (own:=["_law_i"]) (caps:=[(2,"_law_wide"),(4,"_law_numbers")]) (blk_cap (S:=defScope s_l_parts) (N:=["_law_cell","_law_many","_law_wide","_law_xs","_law_numbers","_law_rows","_law_nexts","_law_push"]) rfl (by decide +kernel) rfl ⟨_,rfl⟩ rfl (by decide +kernel) (by decide +kernel)) rfl (pi_range1 rfl B.range_ (pa_cons (L2.pvj 1) pa_nil)) (fun _ _ _ _=>pg_name (i:=0) (show (["_law_i","_law_wide","_law_numbers"]:List Str).Nodup by decide +kernel) rfl (Or.inl rfl)) (fun _ _ _ _=>(pe_slice (show SlR _ (JSlL K) from jsl_list) (L2.pvj 2) (po_some (pe_op (ji0 op_add) pe_int (pe_op (ji op_mulW) pe_int (L2.pvj 0)))) (po_some (pe_op (ji0 op_add) (pe_op (ji0 op_add) pe_int (pe_op (ji op_mulW) pe_int (L2.pvj 0))) (L2.pvj 1))))) rfl)
  (pss_one (ps_ret (pe_lst (pa_cons (L2.pvj 5) (pa_cons (L2.pvj 6) (pa_cons (pe_slice jsl_list (L2.pvj 4) (po_some pe_int) (po_some (pe_op (ji0 op_add) pe_int (L2.pvj 1)))) (pa_cons (L2.pvj 7) (pa_cons (pe_slice jsl_list (L2.pvj 4) (po_some pe_int) (po_some (pe_op (ji0 op_add) pe_int (L2.pvj 1)))) (pa_cons (pe_op (ji0 op_add) pe_int (pe_op (ji op_modN) (pe_ix jix_list (L2.pvj 3) pe_int (fun _ _=>rfl)) pe_int)) pa_nil)))))))))))))),?_⟩
 try dsimp only [cxOf,Cx.nox,Cx.wish]
 have b4:Bd 4 (4:Int):=Bd.lit
 refine ⟨_,rfl,_,40,rfl,(by decide),(by decide),fun xa J1 xs y1 _ ex lx bx0=>?_⟩
 have lx40:xs.length=40:=lx
 have bx:∀ x∈xs,Bd 200 x:=fun x hx=>(bd45 (bx0 x hx)).mono (by decide)
 have SG1:=y1
 refine ⟨_,rfl,xa,rfl,⟨_,SqL.of ex⟩,comp_list (K:=K) (a:=xa) (xs:=xs.map V.int) (fun i ys σ H'=>∃ ws:List Int,ys=ws.map V.int/\ws.length=i/\(∀ x∈ws,Bd 101 x)/\(∃ o,σ=[o])/\H'=J1)
  ⟨[],rfl,rfl,(fun x hx=>by cases hx),⟨none,rfl⟩,rfl⟩ (fun i ys σ H' hi ⟨ws,e1,l1,_,_,e3⟩=>⟨by rw [e3]; exact SqL.of ex,by rw [e1,List.length_map]; omega⟩) (by rw [List.length_map,lx40]; exact Nat.le_of_lt (small1000 (by decide))) ?_ ?_⟩
 ·rintro i x ys σ H' hi ⟨ws,rfl,lw,bw,⟨o,rfl⟩,rfl⟩
  obtain ⟨z,hz,rfl⟩:=ints_get hi
  refine ⟨_,rfl,z,rfl,bx z (List.mem_of_getElem? hz),fun y by'=>⟨ws++[y],(by rw [List.map_append]; rfl),(by rw [List.length_append,lw]; rfl),fun u hu=>?_,⟨_,rfl⟩,rfl⟩⟩
  rcases List.mem_append.mp hu with hu | hu
  ·exact bw u hu
  ·rw [List.mem_singleton.mp hu]; exact by'
 rintro ys σ H' ⟨ns,rfl,ln0,bns,⟨o,rfl⟩,hZ⟩ nu hnu
 rw [hZ] at hnu |-
 clear hZ
 have ln:ns.length=40:=by rw [ln0,List.length_map,lx40]
 have yG2:=same_new hnu (HO.lst (ns.map V.int))
 have enu:=upd_same (H:=J1) (a:=nu) (o:=HO.lst (ns.map V.int))
 generalize hhG2:upd J1 nu (HO.lst (ns.map V.int))=G2 at yG2 enu |-
 have SG2:=SG1.trans yG2
 replace ex:=(yG2 _ _ ex)
 have a39:atI (xs.map V.int) (39:Int)=some (.int (xs[39]'(by omega))):=at_ints (j:=39) _
 have k0:=Int.fmod_nonneg_of_pos (xs[39]'(by omega)) (show (0:Int) < 3 by decide)
 have k3:=Int.fmod_lt_of_pos (xs[39]'(by omega)) (show (0:Int) < 3 by decide)
 refine ⟨_,rfl,xa,_,_,_,rfl,rfl,SqL.of ex,a39,_,_,rfl,rfl,(show (3:Int)≠0 by decide),_,rfl,(by omega),(by omega),comp_range (lo:=0) (n:=((xs[39]'(by omega)).fmod 3).toNat)
  (fun i ys σ H'=>∃ rows:List (List Int),WaysV H' ys rows/\rows.length=i/\(∀ r∈rows,r.length=mm.toNat + 1/\∀ x∈r,Bd 101 x)/\(∃ o,σ=[o,some (.int mm),some (.ref nu)])/\Same G2 H')
  ⟨[],.nil,rfl,(fun r hr'=>by cases hr'),⟨none,rfl⟩,Same.refl _⟩ (fun i ys σ H' ⟨tab,ht,hl,_⟩=>by have:=Paired.length ht; omega) (Nat.le_of_lt (small1000 (by omega))) ?_ ?_⟩
 ·rintro i ys σ H3 hi ⟨rows,ht,hl,htl,⟨o,rfl⟩,sm⟩
  have bi:Bd 10 ((0:Int) + (i:Int)):=by
   show ((0:Int) + (i:Int)).natAbs < 2 ^ 10
   omega
  have ec:cutV (ns.map V.int) (some (4 * ((0:Int) + (i:Int)))) (some (4 * ((0:Int) + (i:Int)) + mm + 1))=((ns.drop (4 * i)).take (4 * i + mm.toNat + 1 - 4 * i)).map V.int:=by
   rw [show (4:Int) * ((0:Int) + (i:Int))=((4 * i:Nat):Int) by omega,show ((4 * i:Nat):Int) + mm + 1=((4 * i + mm.toNat + 1:Nat):Int) by omega]
   exact cut_mid ns (by omega) (by omega)
  refine ⟨_,rfl,_,rfl,_,_,rfl,rfl,⟨b4.mono (by decide),bi.mono (by decide)⟩,_,rfl,_,rfl,_,_,rfl,rfl,⟨b4.mono (by decide),bi.mono (by decide)⟩,_,rfl,_,_,rfl,rfl,_,_,rfl,rfl,_,rfl,nu,_,rfl,SqL.of (sm _ _ enu),fun p hp=>?_⟩
  have z:=same_new hp (HO.lst (cutV (ns.map V.int) (some (4 * ((0:Int) + (i:Int)))) (some (4 * ((0:Int) + (i:Int)) + mm + 1))))
  refine ⟨p,_,rfl,.inl ⟨SqL.of (upd_same.trans (by rw [ec])),fun t htt=>?_⟩⟩
  have zz:=same_new htt (HO.tup (((ns.drop (4 * i)).take (4 * i + mm.toNat + 1 - 4 * i)).map V.int))
  refine ⟨rows++[(ns.drop (4 * i)).take (4 * i + mm.toNat + 1 - 4 * i)],paired_snoc (R:=fun v (k:List Int)=>Tp _ v (k.map V.int)) ⟨t,rfl,upd_same⟩ (WaysV.same (z.trans zz) ht),(by rw [List.length_append,hl]; rfl),fun r hr'=>?_,⟨_,rfl⟩,sm.trans (z.trans zz)⟩
  rcases List.mem_append.mp hr' with hr' | hr'
  ·exact htl r hr'
  ·rw [List.mem_singleton.mp hr',mid_len (by omega) (by omega)]
   exact ⟨by omega,mid_bd bns⟩
 rintro rv σ J3 ⟨rows,hrv,lr,RO,⟨o2,rfl⟩,y3⟩ ra hra
 have SG3:=SG2.trans y3
 replace ex:=(y3 _ _ ex)
 replace enu:=(y3 _ _ enu)
 have yG4:=same_new hra (HO.lst rv)
 have era:=upd_same (H:=J3) (a:=ra) (o:=HO.lst rv)
 generalize hhG4:upd J3 ra (HO.lst rv)=G4 at yG4 era |-
 have SG4:=SG3.trans yG4
 replace ex:=(yG4 _ _ ex)
 replace enu:=(yG4 _ _ enu)
 replace hrv:=(WaysV.same yG4 hrv)
 refine ⟨_,rfl,mm,rfl,(by omega),(by omega),comp_range (lo:=0) (n:=mm.toNat)
  (fun i ys σ H'=>∃ tab:List (List Int),TabV H' ys tab/\tab.length=i/\(∀ r∈tab,r.length=mm.toNat/\∀ x∈r,Bd 101 x)/\(∃ o,σ=[o,some (.int mm),some (.ref nu)])/\Same G4 H')
  ⟨[],.nil,rfl,(fun r hr'=>by cases hr'),⟨none,rfl⟩,Same.refl _⟩ (fun i ys σ H' ⟨tab,ht,hl,_⟩=>by have:=Paired.length ht; omega) (Nat.le_of_lt (small1000 (by omega))) ?_ ?_⟩
 ·rintro i ys σ H' hi ⟨tab,ht,hl,htl,⟨o,rfl⟩,sm⟩
  have bi:Bd 10 ((0:Int) + (i:Int)):=by
   show ((0:Int) + (i:Int)).natAbs < 2 ^ 10
   omega
  have bg:Bd 10 (3:Int):=Bd.lit
  have ec:cutV (ns.map V.int) (some (8 + 3 * ((0:Int) + (i:Int)))) (some (8 + 3 * ((0:Int) + (i:Int)) + mm))=((ns.drop (8 + 3 * i)).take (8 + 3 * i + mm.toNat - (8 + 3 * i))).map V.int:=by
   rw [show (8:Int) + 3 * ((0:Int) + (i:Int))=((8 + 3 * i:Nat):Int) by omega,show ((8 + 3 * i:Nat):Int) + mm=((8 + 3 * i + mm.toNat:Nat):Int) by omega]
   exact cut_mid ns (by omega) (by omega)
  refine ⟨_,rfl,_,rfl,_,_,rfl,rfl,⟨bg.mono (by decide),bi.mono (by decide)⟩,_,_,rfl,rfl,_,rfl,_,rfl,_,_,rfl,rfl,⟨bg.mono (by decide),bi.mono (by decide)⟩,_,_,rfl,rfl,_,rfl,_,_,rfl,rfl,_,rfl,nu,_,rfl,SqL.of (sm _ _ enu),fun p hp=>?_⟩
  have z:=same_new hp (HO.lst (cutV (ns.map V.int) (some (8 + 3 * ((0:Int) + (i:Int)))) (some (8 + 3 * ((0:Int) + (i:Int)) + mm))))
  refine ⟨tab++[(ns.drop (8 + 3 * i)).take (8 + 3 * i + mm.toNat - (8 + 3 * i))],paired_snoc (R:=LstI _) ⟨p,rfl,upd_same.trans (by rw [ec])⟩ (ht.same z),(by rw [List.length_append,hl]; rfl),fun r hr'=>?_,⟨_,rfl⟩,sm.trans z⟩
  rcases List.mem_append.mp hr' with hr' | hr'
  ·exact htl r hr'
  ·rw [List.mem_singleton.mp hr',mid_len (by omega) (by omega)]
   exact ⟨by omega,mid_bd bns⟩
 rintro tn σ J4 ⟨tN,htn,ltN,otN,⟨o1,rfl⟩,y4⟩ na hna
 have SG5:=SG4.trans y4
 replace ex:=(y4 _ _ ex)
 replace enu:=(y4 _ _ enu)
 replace hrv:=(WaysV.same y4 hrv)
 replace era:=(y4 _ _ era)
 have yG6:=same_new hna (HO.lst tn)
 have ena:=upd_same (H:=J4) (a:=na) (o:=HO.lst tn)
 generalize hhG6:upd J4 na (HO.lst tn)=G6 at yG6 ena |-
 have SG6:=SG5.trans yG6
 replace ex:=(yG6 _ _ ex)
 replace enu:=(yG6 _ _ enu)
 replace hrv:=(WaysV.same yG6 hrv)
 replace era:=(yG6 _ _ era)
 replace htn:=(TabV.same yG6 htn)
 refine ⟨_,rfl,mm,rfl,(by omega),(by omega),comp_range (lo:=0) (n:=mm.toNat)
  (fun i ys σ H'=>∃ tab:List (List Int),TabV H' ys tab/\tab.length=i/\(∀ r∈tab,r.length=ww.toNat/\∀ x∈r,Bd 101 x)/\(∃ o,σ=[o,some (.int ww),some (.ref nu)])/\Same G6 H')
  ⟨[],.nil,rfl,(fun r hr'=>by cases hr'),⟨none,rfl⟩,Same.refl _⟩ (fun i ys σ H' ⟨tab,ht,hl,_⟩=>by have:=Paired.length ht; omega) (Nat.le_of_lt (small1000 (by omega))) ?_ ?_⟩
 ·rintro i ys σ H' hi ⟨tab,ht,hl,htl,⟨o,rfl⟩,sm⟩
  have bi:Bd 10 ((0:Int) + (i:Int)):=by
   show ((0:Int) + (i:Int)).natAbs < 2 ^ 10
   omega
  have bg:Bd 10 (3:Int):=Bd.lit
  have ec:cutV (ns.map V.int) (some (20 + 3 * ((0:Int) + (i:Int)))) (some (20 + 3 * ((0:Int) + (i:Int)) + ww))=((ns.drop (20 + 3 * i)).take (20 + 3 * i + ww.toNat - (20 + 3 * i))).map V.int:=by
   rw [show (20:Int) + 3 * ((0:Int) + (i:Int))=((20 + 3 * i:Nat):Int) by omega,show ((20 + 3 * i:Nat):Int) + ww=((20 + 3 * i + ww.toNat:Nat):Int) by omega]
   exact cut_mid ns (by omega) (by omega)
  refine ⟨_,rfl,_,rfl,_,_,rfl,rfl,⟨bg.mono (by decide),bi.mono (by decide)⟩,_,_,rfl,rfl,_,rfl,_,rfl,_,_,rfl,rfl,⟨bg.mono (by decide),bi.mono (by decide)⟩,_,_,rfl,rfl,_,rfl,_,_,rfl,rfl,_,rfl,nu,_,rfl,SqL.of (sm _ _ enu),fun p hp=>?_⟩
  have z:=same_new hp (HO.lst (cutV (ns.map V.int) (some (20 + 3 * ((0:Int) + (i:Int)))) (some (20 + 3 * ((0:Int) + (i:Int)) + ww))))
  refine ⟨tab++[(ns.drop (20 + 3 * i)).take (20 + 3 * i + ww.toNat - (20 + 3 * i))],paired_snoc (R:=LstI _) ⟨p,rfl,upd_same.trans (by rw [ec])⟩ (ht.same z),(by rw [List.length_append,hl]; rfl),fun r hr'=>?_,⟨_,rfl⟩,sm.trans z⟩
  rcases List.mem_append.mp hr' with hr' | hr'
  ·exact htl r hr'
  ·rw [List.mem_singleton.mp hr',mid_len (by omega) (by omega)]
   exact ⟨by omega,mid_bd bns⟩
 rintro tp σ J5 ⟨tP,htp,ltP,otP,⟨o1,rfl⟩,y5⟩ pa hpa
 have SG7:=SG6.trans y5
 replace ex:=(y5 _ _ ex)
 replace enu:=(y5 _ _ enu)
 replace hrv:=(WaysV.same y5 hrv)
 replace era:=(y5 _ _ era)
 replace htn:=(TabV.same y5 htn)
 replace ena:=(y5 _ _ ena)
 have yG8:=same_new hpa (HO.lst tp)
 have epa:=upd_same (H:=J5) (a:=pa) (o:=HO.lst tp)
 generalize hhG8:upd J5 pa (HO.lst tp)=G8 at yG8 epa |-
 have SG8:=SG7.trans yG8
 replace ex:=(yG8 _ _ ex)
 replace enu:=(yG8 _ _ enu)
 replace hrv:=(WaysV.same yG8 hrv)
 replace era:=(yG8 _ _ era)
 replace htn:=(TabV.same yG8 htn)
 replace ena:=(yG8 _ _ ena)
 replace htp:=(TabV.same yG8 htp)
 have ecS:cutV (ns.map V.int) (some 17) (some (17 + mm))=((ns.drop 17).take (17 + mm.toNat - 17)).map V.int:=by
  rw [show (17:Int)=((17:Nat):Int) from rfl,show ((17:Nat):Int) + mm=((17 + mm.toNat:Nat):Int) by omega]
  exact cut_mid ns (by omega) (by omega)
 have ecA:cutV (ns.map V.int) (some 30) (some (30 + mm))=((ns.drop 30).take (30 + mm.toNat - 30)).map V.int:=by
  rw [show (30:Int)=((30:Nat):Int) from rfl,show ((30:Nat):Int) + mm=((30 + mm.toNat:Nat):Int) by omega]
  exact cut_mid ns (by omega) (by omega)
 refine ⟨_,rfl,_,rfl,_,rfl,_,rfl,_,rfl,_,_,rfl,rfl,_,rfl,nu,_,rfl,SqL.of enu,fun sa hsa=>?_⟩
 rw [ecS]
 have yG9:=same_new hsa (HO.lst (((ns.drop 17).take (17 + mm.toNat - 17)).map V.int))
 have esa:=upd_same (H:=G8) (a:=sa) (o:=HO.lst (((ns.drop 17).take (17 + mm.toNat - 17)).map V.int))
 generalize hhG9:upd G8 sa (HO.lst (((ns.drop 17).take (17 + mm.toNat - 17)).map V.int))=G9 at yG9 esa |-
 have SG9:=SG8.trans yG9
 replace ex:=(yG9 _ _ ex)
 replace enu:=(yG9 _ _ enu)
 replace hrv:=(WaysV.same yG9 hrv)
 replace era:=(yG9 _ _ era)
 replace htn:=(TabV.same yG9 htn)
 replace ena:=(yG9 _ _ ena)
 replace htp:=(TabV.same yG9 htp)
 replace epa:=(yG9 _ _ epa)
 refine ⟨_,rfl,_,rfl,_,rfl,_,rfl,_,_,rfl,rfl,_,rfl,nu,_,rfl,SqL.of enu,fun aa haa=>?_⟩
 rw [ecA]
 have yG10:=same_new haa (HO.lst (((ns.drop 30).take (30 + mm.toNat - 30)).map V.int))
 have eaa:=upd_same (H:=G9) (a:=aa) (o:=HO.lst (((ns.drop 30).take (30 + mm.toNat - 30)).map V.int))
 generalize hhG10:upd G9 aa (HO.lst (((ns.drop 30).take (30 + mm.toNat - 30)).map V.int))=G10 at yG10 eaa |-
 have SG10:=SG9.trans yG10
 replace ex:=(yG10 _ _ ex)
 replace enu:=(yG10 _ _ enu)
 replace hrv:=(WaysV.same yG10 hrv)
 replace era:=(yG10 _ _ era)
 replace htn:=(TabV.same yG10 htn)
 replace ena:=(yG10 _ _ ena)
 replace htp:=(TabV.same yG10 htp)
 replace epa:=(yG10 _ _ epa)
 replace esa:=(yG10 _ _ esa)
 have a38:atI (xs.map V.int) (38:Int)=some (.int (xs[38]'(by omega))):=at_ints (j:=38) _
 have d0:=Int.fmod_nonneg_of_pos (xs[38]'(by omega)) (show (0:Int) < 9 by decide)
 have d9:=Int.fmod_lt_of_pos (xs[38]'(by omega)) (show (0:Int) < 9 by decide)
 refine ⟨_,rfl,xa,_,_,_,rfl,rfl,SqL.of ex,a38,_,_,rfl,rfl,(show (9:Int)≠0 by decide),_,_,rfl,rfl,(by show 6<=sizeLine; decide),fun pl hpl=>?_⟩
 generalize (xs[38]'(by omega)).fmod 9=dv at d0 d9 |-
 have yG11:=same_new hpl (HO.lst [V.ref ra,V.ref na,V.ref sa,V.ref pa,V.ref aa,V.int (1 + dv)])
 have epl:=upd_same (H:=G10) (a:=pl) (o:=HO.lst [V.ref ra,V.ref na,V.ref sa,V.ref pa,V.ref aa,V.int (1 + dv)])
 generalize hhG11:upd G10 pl (HO.lst [V.ref ra,V.ref na,V.ref sa,V.ref pa,V.ref aa,V.int (1 + dv)])=G11 at yG11 epl |-
 have SG11:=SG10.trans yG11
 replace ex:=(yG11 _ _ ex)
 replace enu:=(yG11 _ _ enu)
 replace hrv:=(WaysV.same yG11 hrv)
 replace era:=(yG11 _ _ era)
 replace htn:=(TabV.same yG11 htn)
 replace ena:=(yG11 _ _ ena)
 replace htp:=(TabV.same yG11 htp)
 replace epa:=(yG11 _ _ epa)
 replace esa:=(yG11 _ _ esa)
 replace eaa:=(yG11 _ _ eaa)
 have l1:((ns.drop 17).take (17 + mm.toNat - 17)).length=mm.toNat:=by rw [mid_len (by omega) (by omega)]; omega
 have l2:((ns.drop 30).take (30 + mm.toNat - 30)).length=mm.toNat:=by rw [mid_len (by omega) (by omega)]; omega
 refine q (.ref pl) ⟨rows,tN,(ns.drop 17).take (17 + mm.toNat - 17),tP,(ns.drop 30).take (30 + mm.toNat - 30),1 + dv⟩ _ SG11 ⟨pl,ra,na,sa,pa,aa,rv,tn,tp,rfl,epl,⟨era,hrv,ena,htn,esa,epa,htp,eaa⟩⟩
  ⟨fun r hr=>(RO r hr).1,(by show rows.length<=900; omega),⟨ltN,fun r hr=>(otN r hr).1⟩,l1,⟨ltP,fun r hr=>(otP r hr).1⟩,l2,(by show 1<=1 + dv; omega),(by omega),(by omega)⟩
  ⟨fun r hr=>(RO r hr).2,fun r hr=>(otN r hr).2,mid_bd bns,fun r hr=>(otP r hr).2,mid_bd bns⟩ (by show rows.length<=100; omega)
end
theorem at_int {ns:List Int} {i:Nat} (h:i < ns.length):atI (ns.map V.int) (i:Int)=some (.int (ns.getD i 0)):=by
 rw [at_ints h,List.getD_eq_getElem?_getD,List.getElem?_eq_getElem h]
 rfl
theorem take_all {α:Type} {l:List α} {n:Nat} (h:l.length<=n):l.take n=l:=List.take_of_length_le h
theorem hide_put {x:Addr} {H:Hp} (o:HO):Same (hide [x] H) (hide [x] (upd H x o)):=hide_off ((off.refl _ _).put o (by simp))
theorem plc_range {r:List Int} {O:List (List Int)} {k:Nat} (j:Nat) (h1:r.length=k) (h2:O.length=k):((List.range k).map fun i=>r.getD i 0 * (O.getD i []).getD j 0).sum=plcL r O j:=by
 unfold plcL
 congr 1
 refine List.ext_getElem (by simp [h1,h2]) fun i a b=>?_
 simp only [List.getElem_map,List.getElem_range,List.getElem_zip,List.getD_eq_getElem?_getD]
 have l1:i < r.length:=by simp at a; omega
 have l2:i < O.length:=by simp at a; omega
 rw [List.getElem?_eq_getElem l1,List.getElem?_eq_getElem l2]
 rfl
theorem dot_range {r v:List Int} {k:Nat} (h1:r.length=k) (h2:v.length=k):((List.range k).map fun i=>r.getD i 0 * v.getD i 0).sum=sumP r v:=by
 rw [<- sumP_zip]
 congr 1
 refine List.ext_getElem (by simp [h1,h2]) fun i a b=>?_
 simp only [List.getElem_map,List.getElem_range,List.getElem_zip,List.getD_eq_getElem?_getD]
 have l1:i < r.length:=by simp at a; omega
 have l2:i < v.length:=by simp at a; omega
 rw [List.getElem?_eq_getElem l1,List.getElem?_eq_getElem l2]
 rfl
theorem getD_take {r:List Int} {n k:Nat} (h:k < n):(r.take n).getD k 0=r.getD k 0:=by
 rw [List.getD_eq_getElem?_getD,List.getElem?_take_of_lt h,List.getD_eq_getElem?_getD]
theorem tab_at {H:Hp} {tv:List V} {T:List (List Int)} {i:Nat} (h:TabV H tv T) (hi:i < T.length):∃ a,atI tv (i:Int)=some (.ref a)/\H a=some (.lst ((T.getD i []).map V.int))/\T.getD i []∈T:=by
 have l:tv.length=T.length:=Paired.length h
 have hv:tv[i]? = some (tv[i]'(by omega)):=List.getElem?_eq_getElem _
 obtain ⟨r,hr,a,e1,ea⟩:=paired_get h hv
 have e:T.getD i []=r:=by rw [List.getD_eq_getElem?_getD,hr]; rfl
 rw [e]
 exact ⟨a,atI_nat (hv.trans (by rw [e1])),ea,List.mem_of_getElem? hr⟩
inductive spProdL (vs:List V) (H:Hp) (Q:VK) (E:XK):Prop
 | mk (ta oa:Addr) (tv ov:List V) (T O:List (List Int)) (h k w:Nat) (_:vs=[.ref ta,.ref oa,.int (w:Int)]) (_:H ta=some (.lst tv)) (_:TabV H tv T) (_:H oa=some (.lst ov)) (_:TabV H ov O) (_:TbB T h k 1000) (_:TbB O k w 1000) (_:h<=100) (_:k<=100) (_:w<=100) (_:∀ l lv H',Same H H'->H' l=some (.lst lv)->TabV H' lv (prodM T O w)->Q (.ref l) H'):spProdL vs H Q E
inductive spTurnedRowL (vs:List V) (H:Hp) (Q:VK) (E:XK):Prop
 | mk (ba ra:Addr) (bv:List V) (B:List (List Int)) (r:List Int) (n:Nat) (_:vs=[.ref ra,.ref ba]) (_:H ba=some (.lst bv)) (_:TabV H bv B) (_:H ra=some (.tup (r.map V.int))) (_:r.length=n + 1) (_:TbB B n n 1000) (_:(∀ x∈r,Bd 1000 x)) (_:1<=n) (_:n<=3) (_:∀ t H',Same H H'->H' t=some (.tup ((turnR n B r).map V.int))->Q (.ref t) H'):spTurnedRowL vs H Q E
section
variable {P:Program} {w:World} {K:PySem.W.Frag} {mg:Str->Option Value} {base:Heap} {C:Addr}
noncomputable abbrev s_l_product:Stmt:=top 46
theorem sc_l_product:FnScope ["_law_one","_law_other","_law_wide","_law_table","_law_row_here"] ["_law_one","_law_other","_law_wide"] (defScope s_l_product):=⟨rfl,rfl,rfl,by decide +kernel,rfl,by decide +kernel,by decide +kernel⟩
noncomputable abbrev s_l_row:Stmt:=top 50
theorem sc_l_row:FnScope ["_law_row_here","_law_back","_law_many","_law_numbers"] ["_law_row_here","_law_back"] (defScope s_l_row):=⟨rfl,rfl,rfl,by decide +kernel,rfl,by decide +kernel,by decide +kernel⟩
variable {aMode aThing:Addr} (TMode:ClsF K mg "Mode" aMode) (AMode:AtMode K aMode) (TThing:ClsF K mg "Thing" aThing) (AThing:AtThing K aThing)
include TMode AMode TThing AThing
theorem ok_l_product {k:Nat} {f:Addr} {fd:FuncData} (F:Fun K "_law_product" "_law_product" s_l_product f fd) (B:Bl mg):FnOk P w K mg base CX0 (k + 1) f fd ["_law_one","_law_other","_law_wide"] spProdL:=by
 refine F.ok sc_l_product (fun vs H Q E h=>?_) (fun cdv A outer s H vs Q E hr h=>?_)
 ·obtain ⟨ta,oa,tv,ov,T,O,h,k2,w2,rfl,_⟩:=h
  rfl
 obtain ⟨ta,oa,tv,ov,T,O,h,k2,w2,rfl,hta,htv,hoa,hov,TB,OB,h1,k1,w1,q⟩:=h
 refine ⟨_,(pss_cons (ps_set (i:=3) sc_l_product.nd rfl (Or.inl rfl) (pe_lst pa_nil))
  (pss_cons (ps_for PassesOwn.never rfl (pi_list (L2.pvj 0)) (pg_name (i:=4) sc_l_product.nd rfl (Or.inr rfl)) (pss_one (ps_expr (pe_bm PySem.F.plainAttrs_list PySem.F.slot_list_append PySem.F.type_list_append japp (L2.pvj 3) (pa_cons (pe_compN (own:=["_law_j"]) (caps:=[(1,"_law_other"),(4,"_law_row_here")]) (blkN_cap (S:=defScope s_l_product) (N:=["_law_one","_law_other","_law_wide","_law_table","_law_row_here"]) rfl (by decide +kernel) rfl ⟨_,rfl⟩ rfl (by decide +kernel) (by decide +kernel)) rfl (pi_range1 rfl B.range_ (pa_cons (L2.pvj 2) pa_nil)) (fun _ _ _ _=>pg_name (i:=0) (show (["_law_j","_law_other","_law_row_here"]:List Str).Nodup by decide +kernel) rfl (Or.inr rfl)) (fun _ _ _ _=>(pe_callB (show CallR _ _ (fun xs H Q=>∃ (p:Addr) (ns:List Int),xs=[V.ref p]/\SqL K H p (ns.map V.int)/\Q (V.int ns.sum) H) from call_sum rfl) rfl B.sum_ boot_sum_ (pa_cons (pe_compN (own:=["_law_k"]) (caps:=[(0,"_law_j"),(1,"_law_other"),(2,"_law_row_here")]) (blk_in rfl (by decide +kernel) (by decide +kernel) (by decide +kernel) (by decide +kernel)) rfl (pi_range1 rfl B.range_ (pa_cons (pe_callB (show CallR _ _ (JLen K) from jlen) rfl B.len_ boot_len_ (pa_cons (L2.pvj 1) pa_nil)) pa_nil)) (fun _ _ _ _=>pg_name (i:=0) (show (["_law_k","_law_j","_law_other","_law_row_here"]:List Str).Nodup by decide +kernel) rfl (Or.inl rfl)) (fun _ _ _ _=>(pe_op (ji op_mulW) (pe_ix (show IxR _ (JIx (SqL K)) from jix_list) (L2.pvj 3) (L2.pvj 0) (fun _ _=>rfl)) (pe_ix (show IxR _ (JIx (SqL K)) from jix_list) (pe_ix (show IxR _ (JIx (SqL K)) from jix_list) (L2.pvj 2) (L2.pvj 0) (fun _ _=>rfl)) (L2.pvj 1) (fun _ _=>rfl))))) pa_nil)))) pa_nil)))))
  (pss_one (ps_ret (L2.pvj 3))))),?_⟩
 try dsimp only [cxOf,Cx.nox,Cx.wish]
 have lt:tv.length=T.length:=Paired.length htv
 have lo:ov.length=O.length:=Paired.length hov
 have lT:=TB.len
 have lO:=OB.len
 refine ⟨(by show 0<=sizeLine; decide),fun fl hfl=>?_⟩
 have y2:=same_new hfl (HO.lst [])
 have efl0:=upd_same (H:=H) (a:=fl) (o:=HO.lst [])
 generalize hhJ2:upd H fl (HO.lst [])=J2 at y2 efl0 |-
 have s3:=hide_fresh (B:=[fl]) (fun x hx=>by rw [List.mem_singleton.mp hx]; exact hfl) y2
 refine ⟨_,rfl,ta,rfl,⟨_,SqL.of (y2 _ _ hta)⟩,for_list (K:=K) (a:=ta) (xs:=tv)
  (fun i σ H'=>∃ (xs:List V) (o2:Option V),σ=[some (.ref ta),some (.ref oa),some (.int (w2:Int)),some (.ref fl),o2]/\Same H (hide [fl] H')/\H' fl=some (.lst xs)/\TabV (hide [fl] H') xs (prodM (T.take i) O w2))
  ⟨[],none,rfl,s3,efl0,.nil⟩ (fun i σ H' _ ⟨_,_,_,sm,_⟩=>SqL.of (hide_sub _ _ (sm _ _ hta))) ?_ ?_⟩
 ·rintro i x σ H' hix ⟨xs,o2,rfl,smh,efl,hxs⟩
  have sm:=smh.trans hide_sub
  obtain ⟨r,hr',a,rfl,ea⟩:=paired_get htv hix
  obtain ⟨rl,rb⟩:=TB.row r (List.mem_of_getElem? hr')
  have iT:i < T.length:=(List.getElem?_eq_some_iff.mp hr').1
  have lx:=Paired.length hxs
  unfold prodM at lx
  rw [List.length_map,List.length_take] at lx
  refine ⟨_,rfl,.inl ⟨rfl,_,SqL.of efl⟩,?_⟩
  refine ⟨_,rfl,_,rfl,(by omega),(by omega),comp_range (lo:=0) (n:=((w2:Nat):Int).toNat)
   (fun j ys σ G=>ys=((List.range j).map (plcL r O)).map V.int/\(∃ o,σ=[o,some (.ref oa),some (.ref a)])/\Same H' G)
   ⟨rfl,⟨none,rfl⟩,Same.refl _⟩ (fun j ys σ G ⟨e1,_⟩=>by rw [e1,List.length_map,List.length_map,List.length_range]; omega) (Nat.le_of_lt (small1000 (by omega))) ?_ ?_⟩
  ·rintro j ys σ G hj ⟨rfl,⟨o1,rfl⟩,sg⟩
   rw [Int.toNat_natCast] at hj
   have s0:=sm.trans sg
   refine ⟨_,rfl,oa,_,rfl,.inl (SqL.of (s0 _ _ hoa)),_,rfl,(by omega),(by omega),comp_range (lo:=0) (n:=((ov.length:Nat):Int).toNat)
    (fun k zs σ H2=>zs=((List.range k).map fun k=>r.getD k 0 * (O.getD k []).getD j 0).map V.int/\(∃ o,σ=[o,some (.int (0 + (j:Int))),some (.ref oa),some (.ref a)])/\H2=G)
    ⟨rfl,⟨none,rfl⟩,rfl⟩ (fun k zs σ H2 ⟨e1,_⟩=>by rw [e1,List.length_map,List.length_map,List.length_range]; omega) (Nat.le_of_lt (small1000 (by omega))) ?_ ?_⟩
   ·rintro k zs σ H2 hk ⟨rfl,⟨o2,rfl⟩,rfl⟩
    obtain ⟨cx,acx,ecx,mcx⟩:=tab_at (i:=k) (TabV.same s0 hov) (by omega)
    have lcx:=(OB.row _ mcx).1
    have ak:atI (r.map V.int) (0 + (k:Int))=some (.int (r.getD k 0)):=by rw [Int.zero_add]; exact at_int (by omega)
    have aok:atI ov (0 + (k:Int))=some (.ref cx):=by rw [Int.zero_add]; exact acx
    have acj:atI ((O.getD k []).map V.int) (0 + (j:Int))=some (.int ((O.getD k []).getD j 0)):=by rw [Int.zero_add]; exact at_int (by omega)
    refine ⟨_,rfl,_,rfl,a,_,_,_,rfl,rfl,SqL.of (s0 _ _ ea),ak,_,rfl,_,rfl,oa,_,_,_,rfl,rfl,SqL.of (s0 _ _ hoa),aok,_,rfl,cx,_,_,_,rfl,rfl,SqL.of ecx,acj,_,_,rfl,rfl,⟨(rb _ (getD_mem (by omega))).mono (by decide),((OB.row _ mcx).2 _ (getD_mem (by omega))).mono (by decide)⟩,?_,⟨_,rfl⟩,rfl⟩
    rw [List.range_succ,List.map_append,List.map_append]
    rfl
   rintro zs σ H2 ⟨rfl,⟨o2,rfl⟩,hZ⟩ c hc
   rw [hZ] at hc |-
   clear hZ
   rw [show ((List.range ((ov.length:Nat):Int).toNat).map fun k=>r.getD k 0 * (O.getD k []).getD j 0)=((List.range k2).map fun k=>r.getD k 0 * (O.getD k []).getD j 0) by rw [show ((ov.length:Nat):Int).toNat=k2 by omega]]
   have zc:=same_new hc (HO.lst (((List.range k2).map fun k=>r.getD k 0 * (O.getD k []).getD j 0).map V.int))
   refine ⟨c,_,rfl,SqL.of upd_same,?_,⟨_,rfl⟩,sg.trans zc⟩
   rw [plc_range j rl lO,List.range_succ,List.map_append,List.map_append]
   rfl
  rintro ys σ G ⟨rfl,⟨o1,rfl⟩,sg⟩ nl hnl
  rw [Int.toNat_natCast]
  have nn:nl≠fl:=(ne_of_none (sg _ _ efl) hnl).symm
  have zn:=same_new hnl (HO.lst (((List.range w2).map (plcL r O)).map V.int))
  have enl:=upd_same (H:=G) (a:=nl) (o:=HO.lst (((List.range w2).map (plcL r O)).map V.int))
  generalize hhN:upd G nl (HO.lst (((List.range w2).map (plcL r O)).map V.int))=N at zn enl |-
  have z2:=sg.trans zn
  refine ⟨fl,xs,_,rfl,rfl,z2 _ _ efl,small1000 (by omega),?_⟩
  have h4:=(hide_same (B:=[fl]) z2).trans (hide_put (x:=fl) (HO.lst (xs++[V.ref nl])))
  refine ⟨xs++[V.ref nl],_,rfl,smh.trans h4,upd_same,?_⟩
  rw [take_snoc hr']
  unfold prodM at hxs |-
  rw [List.map_append]
  refine paired_snoc (R:=LstI _) ⟨nl,rfl,?_⟩ (TabV.same h4 hxs)
  rw [hide_at (fun z=>nn (List.mem_singleton.mp z)),upd_ne nn]
  exact enl
 rintro σ H4 ⟨xs,o2,rfl,sm,efl,hxs⟩
 rw [take_all (by omega)] at hxs
 exact ⟨_,rfl,q fl xs H4 (sm.trans hide_sub) efl (TabV.same hide_sub hxs)⟩
theorem ok_l_row {k:Nat} {f:Addr} {fd:FuncData} (F:Fun K "_law_row" "_law_row" s_l_row f fd) (B:Bl mg):FnOk P w K mg base CX0 (k + 1) f fd ["_law_row_here","_law_back"] spTurnedRowL:=by
 refine F.ok sc_l_row (fun vs H Q E h=>?_) (fun cdv A outer s H vs Q E hr h=>?_)
 ·obtain ⟨ba,ra,bv,B2,r,n,rfl,_⟩:=h
  rfl
 obtain ⟨ba,ra,bv,B2,r,n,rfl,hba,hbv,hra,rl,TB,rb,n1,n3,q⟩:=h
 refine ⟨_,(pss_cons (ps_set (i:=2) sc_l_row.nd rfl (Or.inr rfl) (pe_callB jlen rfl B.len_ boot_len_ (pa_cons (L2.pvj 1) pa_nil)))
  (pss_cons (ps_compN (i:=3) sc_l_row.nd rfl rfl (own:=["_law_j"]) (caps:=[(0,"_law_row_here"),(1,"_law_back"),(2,"_law_many")]) (blkN_cap (S:=defScope s_l_row) (N:=["_law_row_here","_law_back","_law_many","_law_numbers"]) rfl (by decide +kernel) rfl ⟨_,rfl⟩ rfl (by decide +kernel) (by decide +kernel)) rfl (pi_range1 rfl B.range_ (pa_cons (L2.pvj 2) pa_nil)) (fun _ _ _ _=>pg_name (i:=0) (show (["_law_j","_law_row_here","_law_back","_law_many"]:List Str).Nodup by decide +kernel) rfl (Or.inr rfl)) (fun _ _ _ _=>(pe_callB (show CallR _ _ (fun xs H Q=>∃ (p:Addr) (ns:List Int),xs=[V.ref p]/\SqL K H p (ns.map V.int)/\Q (V.int ns.sum) H) from call_sum rfl) rfl B.sum_ boot_sum_ (pa_cons (pe_compN (own:=["_law_k"]) (caps:=[(0,"_law_j"),(1,"_law_row_here"),(2,"_law_back")]) (blk_in rfl (by decide +kernel) (by decide +kernel) (by decide +kernel) (by decide +kernel)) rfl (pi_range1 rfl B.range_ (pa_cons (L2.pvj 3) pa_nil)) (fun _ _ _ _=>pg_name (i:=0) (show (["_law_k","_law_j","_law_row_here","_law_back"]:List Str).Nodup by decide +kernel) rfl (Or.inl rfl)) (fun _ _ _ _=>(pe_op (ji op_mulW) (pe_ix (show IxR _ (JIx (SqT K)) from jix_tup) (L2.pvj 2) (L2.pvj 0) (fun _ _=>rfl)) (pe_ix (show IxR _ (JIx (SqL K)) from jix_list) (pe_ix (show IxR _ (JIx (SqL K)) from jix_list) (L2.pvj 3) (L2.pvj 0) (fun _ _=>rfl)) (L2.pvj 1) (fun _ _=>rfl))))) pa_nil))) rfl)
  (pss_one (ps_ret (pe_callTy jtup rfl B.tuple_ boot_tuple_ (pa_cons (pe_op jcat (L2.pvj 3) (pe_lst (pa_cons (pe_ix jix_tup (L2.pvj 0) (pe_un un_neg pe_int) (fun _ _=>rfl)) pa_nil))) pa_nil)))))),?_⟩
 try dsimp only [cxOf,Cx.nox,Cx.wish]
 have ea:H ra=some (.tup (rowV (r.take n) (r.getD n 0))):=by rw [rowV_split rl]; exact hra
 have lB:=TB.len
 have lb:bv.length=B2.length:=Paired.length hbv
 refine ⟨_,rfl,ba,_,rfl,.inl (SqL.of hba),?_⟩
 refine ⟨_,rfl,_,rfl,(by omega),(by omega),comp_range (lo:=0) (n:=((bv.length:Nat):Int).toNat)
  (fun j ys σ G=>ys=((List.range j).map (plcL (r.take n) B2)).map V.int/\(∃ o,σ=[o,some (.ref ra),some (.ref ba),some (.int ((bv.length:Nat):Int))])/\Same H G)
  ⟨rfl,⟨none,rfl⟩,Same.refl _⟩ (fun j ys σ G ⟨e1,_⟩=>by rw [e1,List.length_map,List.length_map,List.length_range]; omega) (Nat.le_of_lt (small1000 (by omega))) ?_ ?_⟩
 ·rintro j ys σ G hj ⟨rfl,⟨o1,rfl⟩,sg⟩
  rw [Int.toNat_natCast] at hj
  refine ⟨_,rfl,_,rfl,(by omega),(by omega),comp_range (lo:=0) (n:=((bv.length:Nat):Int).toNat)
   (fun k zs σ H2=>zs=((List.range k).map fun k=>r.getD k 0 * (B2.getD k []).getD j 0).map V.int/\(∃ o,σ=[o,some (.int (0 + (j:Int))),some (.ref ra),some (.ref ba)])/\H2=G)
   ⟨rfl,⟨none,rfl⟩,rfl⟩ (fun k zs σ H2 ⟨e1,_⟩=>by rw [e1,List.length_map,List.length_map,List.length_range]; omega) (Nat.le_of_lt (small1000 (by omega))) ?_ ?_⟩
  ·rintro k zs σ H2 hk ⟨rfl,⟨o2,rfl⟩,rfl⟩
   obtain ⟨cx,acx,ecx,mcx⟩:=tab_at (i:=k) (TabV.same sg hbv) (by omega)
   have lcx:=(TB.row _ mcx).1
   have ak:atI (r.map V.int) (0 + (k:Int))=some (.int (r.getD k 0)):=by rw [Int.zero_add]; exact at_int (by omega)
   have aok:atI bv (0 + (k:Int))=some (.ref cx):=by rw [Int.zero_add]; exact acx
   have acj:atI ((B2.getD k []).map V.int) (0 + (j:Int))=some (.int ((B2.getD k []).getD j 0)):=by rw [Int.zero_add]; exact at_int (by omega)
   refine ⟨_,rfl,_,rfl,ra,_,_,_,rfl,rfl,SqT.of (sg _ _ hra),ak,_,rfl,_,rfl,ba,_,_,_,rfl,rfl,SqL.of (sg _ _ hba),aok,_,rfl,cx,_,_,_,rfl,rfl,SqL.of ecx,acj,_,_,rfl,rfl,⟨(rb _ (getD_mem (by omega))).mono (by decide),((TB.row _ mcx).2 _ (getD_mem (by omega))).mono (by decide)⟩,?_,⟨_,rfl⟩,rfl⟩
   rw [List.range_succ,List.map_append,List.map_append]
   rfl
  rintro zs σ H2 ⟨rfl,⟨o2,rfl⟩,hZ⟩ c hc
  rw [hZ] at hc |-
  clear hZ
  rw [show ((List.range ((bv.length:Nat):Int).toNat).map fun k=>r.getD k 0 * (B2.getD k []).getD j 0)=((List.range n).map fun k=>r.getD k 0 * (B2.getD k []).getD j 0) by rw [show ((bv.length:Nat):Int).toNat=n by omega]]
  have zc:=same_new hc (HO.lst (((List.range n).map fun k=>r.getD k 0 * (B2.getD k []).getD j 0).map V.int))
  refine ⟨c,_,rfl,SqL.of upd_same,?_,⟨_,rfl⟩,sg.trans zc⟩
  rw [show ((List.range n).map fun k=>r.getD k 0 * (B2.getD k []).getD j 0)=(List.range n).map fun k=>(r.take n).getD k 0 * (B2.getD k []).getD j 0 from List.map_congr_left fun k hk=>by rw [getD_take (List.mem_range.mp hk)],plc_range j (by rw [List.length_take]; omega) lB,List.range_succ,List.map_append,List.map_append]
  rfl
 rintro ys σ G ⟨rfl,⟨o1,rfl⟩,sg⟩ nl hnl
 rw [show ((bv.length:Nat):Int).toNat=n by omega]
 have zn:=same_new hnl (HO.lst (((List.range n).map (plcL (r.take n) B2)).map V.int))
 have enl:=upd_same (H:=G) (a:=nl) (o:=HO.lst (((List.range n).map (plcL (r.take n) B2)).map V.int))
 generalize hhN:upd G nl (HO.lst (((List.range n).map (plcL (r.take n) B2)).map V.int))=N at zn enl |-
 have z2:=sg.trans zn
 refine ⟨_,rfl,_,rfl,_,rfl,ra,_,_,_,rfl,rfl,SqT.of (z2 _ _ ea),atI_last _ _,(by show 1<=sizeLine; decide),fun l1 hl1=>?_⟩
 have z3:=same_new hl1 (HO.lst [V.int (r.getD n 0)])
 refine ⟨nl,l1,_,_,rfl,rfl,z3 _ _ enl,upd_same,(by rw [List.length_map,List.length_map,List.length_range]; exact Nat.le_of_lt (small1000 (by show n + 1<=1000; omega))),fun c2 hc2=>?_⟩
 have z4:=same_new hc2 (HO.lst (((List.range n).map (plcL (r.take n) B2)).map V.int++[V.int (r.getD n 0)]))
 refine ⟨c2,_,rfl,.inl ⟨SqL.of upd_same,fun t ht=>?_⟩⟩
 have z5:=same_new ht (HO.tup (((List.range n).map (plcL (r.take n) B2)).map V.int++[V.int (r.getD n 0)]))
 refine q t _ (z2.trans (z3.trans (z4.trans z5))) (upd_same.trans ?_)
 unfold turnR
 rw [List.map_append]
 rfl
end
noncomputable def mdL (m:MD):List PyData:=[.list (m.rows.map rowT),.list (m.nexts.map lstT),.list (m.steer.map PyData.int),.list (m.push.map lstT),.list (m.add.map PyData.int),.int m.div]
theorem lay_md (m:MD):PyData.canLay0 (.list (mdL m))=true:=by
 show (PyData.canLayAll0 (m.rows.map rowT) && (PyData.canLayAll0 (m.nexts.map lstT) && (PyData.canLayAll0 (m.steer.map PyData.int) && (PyData.canLayAll0 (m.push.map lstT) && (PyData.canLayAll0 (m.add.map PyData.int) && (true && true))))))=true
 rw [lay_ways,lay_tab,lay_i,lay_tab,lay_i]
 rfl
theorem dep_md (m:MD):PyData.depth (.list (mdL m))<=3:=by
 show max (PyData.depthAll (m.rows.map rowT) + 1) (max (PyData.depthAll (m.nexts.map lstT) + 1) (max (PyData.depthAll (m.steer.map PyData.int) + 1) (max (PyData.depthAll (m.push.map lstT) + 1) (max (PyData.depthAll (m.add.map PyData.int) + 1) (max 0 0))))) + 1<=3
 rw [dep_i,dep_i]
 have:=dep_ways m.rows
 have:=dep_tab m.nexts
 have:=dep_tab m.push
 omega
theorem dp_parts {K:PySem.W.Frag} {H:Hp} {r n s p a:Addr} {rv nv pv:List V} {m:MD} (h1:H r=some (.lst rv)) (h2:WaysV H rv m.rows) (h3:H n=some (.lst nv)) (h4:TabV H nv m.nexts) (h5:H s=some (.lst (m.steer.map V.int))) (h6:H p=some (.lst pv)) (h7:TabV H pv m.push) (h8:H a=some (.lst (m.add.map V.int))) :
  DpAll K H [.ref r,.ref n,.ref s,.ref p,.ref a,.int m.div] (mdL m):=
 .cons (.lst (SqL.of h1) (dp_ways h2)) (.cons (.lst (SqL.of h3) (dp_tab h4)) (.cons (.lst (SqL.of h5) (dp_ints _)) (.cons (.lst (SqL.of h6) (dp_tab h7)) (.cons (.lst (SqL.of h8) (dp_ints _)) (.cons (.int _) .nil)))))
theorem dp_pu {K:PySem.W.Frag} {H:Hp}:∀ {pv:List V} {bs:List (Int × Int)},Paired (PuV H) pv bs->DpAll K H pv (bs.map puT)
 | _,_,.nil=>.nil
 | _,_,.cons ⟨a,e,h⟩ t=>by
  subst e
  exact .cons (.tup (SqT.of h) (.cons (.int _) (.cons (.int _) .nil))) (dp_pu t)
noncomputable def mdT (m:MD):PyData:=.list (mdL m)
theorem dp_mds {K:PySem.W.Frag} {H:Hp}:∀ {sv:List V} {ms:List MD},Paired (PartsV H) sv ms->DpAll K H sv (ms.map mdT)
 | _,_,.nil=>.nil
 | _,_,.cons ⟨pl,r,n,s,p,a,rv,nv,pv,e,hl,P⟩ t=>by
  subst e
  exact .cons (.lst (SqL.of hl) (dp_parts P.hr P.hrv P.hn P.hnv P.hs P.hp P.hpv P.ha)) (dp_mds t)
theorem lay_mds:∀ ms:List MD,PyData.canLayAll0 (ms.map mdT)=true
 | []=>rfl
 | m :: t=>by
  show (PyData.canLay0 (.list (mdL m)) && PyData.canLayAll0 (t.map mdT))=true
  rw [lay_md,lay_mds t]
  rfl
theorem dep_mds:∀ ms:List MD,PyData.depthAll (ms.map mdT)<=3
 | []=>Nat.zero_le _
 | m :: t=>by
  show max (PyData.depth (.list (mdL m))) (PyData.depthAll (t.map mdT))<=3
  have:=dep_mds t
  have:=dep_md m
  omega
theorem dep_mdl (ms:List MD):PyData.depth (.list (ms.map mdT))<=60:=by
 show PyData.depthAll (ms.map mdT) + 1<=60
 have:=dep_mds ms
 omega
inductive spTold32 (C CM:Addr) (vs:List V) (H:Hp) (Q:VK) (E:XK):Prop
 | mk (o kp km:Addr) (n:Nat) (bs:List (Int × Int)) (ms:List MD) (pv mv:List V) (_:vs=[.ref o]) (_:ThingAt C CM H o n bs ms pv mv kp km) (_:ms.length<=40) (_:∀ l lv H',Same H H'->H' l=some (.lst lv)->Paired (PartsV H') lv ms->Q (.ref l) H'):spTold32 C CM vs H Q E
inductive spTurnedL (vs:List V) (H:Hp) (Q:VK) (E:XK):Prop
 | mk (v:V) (m:MD) (ta ba:Addr) (tv bv:List V) (T B:List (List Int)) (n w:Nat) (_:vs=[v,.ref ta,.ref ba,.int (w:Int)]) (_:PartsV H v m) (_:MDOk m n w) (_:MN m 400) (_:m.rows.length<=100) (_:H ta=some (.lst tv)) (_:TabV H tv T) (_:H ba=some (.lst bv)) (_:TabV H bv B) (_:TbB T n n 100) (_:TbB B n n 100) (_:1<=n) (_:∀ u H',Same H H'->PartsV H' u (tmM n w T B m)->Q u H'):spTurnedL vs H Q E
section
variable {P:Program} {w:World} {K:PySem.W.Frag} {mg:Str->Option Value} {base:Heap} {C:Addr}
noncomputable abbrev s_l_turned:Stmt:=top 51
theorem sc_l_turned:FnScope ["_law_parts_here","_law_there","_law_back","_law_wide","_law_rows","_law_nexts","_law_steer","_law_push","_law_add","_law_divisor","_law_many","_law_table","_law_steers","_law_adds","_law_new"] ["_law_parts_here","_law_there","_law_back","_law_wide"] (defScope s_l_turned):=⟨rfl,rfl,rfl,by decide +kernel,rfl,by decide +kernel,by decide +kernel⟩
noncomputable abbrev s_l_told:Stmt:=top 52
theorem sc_l_told:FnScope ["_law_thing","_law_found","_law_mode"] ["_law_thing"] (defScope s_l_told):=⟨rfl,rfl,rfl,by decide +kernel,rfl,by decide +kernel,by decide +kernel⟩
variable {aMode aThing:Addr} (TMode:ClsF K mg "Mode" aMode) (AMode:AtMode K aMode) (TThing:ClsF K mg "Thing" aThing) (AThing:AtThing K aThing)
include TMode AMode TThing AThing
theorem ok_l_turned {k:Nat} {f:Addr} {fd:FuncData} (F:Fun K "_law_turned" "_law_turned" s_l_turned f fd) (B:Bl mg) (c_l_product:Fn P w K mg base "_law_product" ["_law_one","_law_other","_law_wide"] k spProdL) (c_l_row:Fn P w K mg base "_law_row" ["_law_row_here","_law_back"] k spTurnedRowL):FnOk P w K mg base CX0 (k + 1) f fd ["_law_parts_here","_law_there","_law_back","_law_wide"] spTurnedL:=by
 refine F.ok sc_l_turned (fun vs H Q E h=>?_) (fun cdv A outer s H vs Q E hr h=>?_)
 ·obtain ⟨v,m,ta,ba,tv,bv,T,B2,n,w2,rfl,_⟩:=h
  rfl
 obtain ⟨v,m,ta,ba,tv,bv,T,B2,n,w2,rfl,hM,MO,MNm,few,hta,htv,hba,hbv,TT,BB,n1,q⟩:=h
 obtain ⟨u_6,E_6,U_6⟩:=L2.hide_it (p:=fun t=>PSs (cxOf CX0 P w K mg base ["_law_parts_here","_law_there","_law_back","_law_wide","_law_rows","_law_nexts","_law_steer","_law_push","_law_add","_law_divisor","_law_many","_law_table","_law_steers","_law_adds","_law_new"] "_law_turned" (defScope s_l_turned) f cdv A outer s H E).nox ((defBody s_l_turned).drop 6) t) (pss_one (ps_ret (pe_lst (pa_cons (L2.pvj 14) (pa_cons (L2.pvj 11) (pa_cons (L2.pvj 12) (pa_cons (pe_callF c_l_product hr rfl (pa_cons (L2.pvj 1) (pa_cons (L2.pvj 7) (pa_cons (L2.pvj 3) pa_nil)))) (pa_cons (L2.pvj 13) (pa_cons (L2.pvj 9) pa_nil)))))))))
 obtain ⟨u_5,E_5,U_5⟩:=L2.hide_it (p:=fun t=>PSs (cxOf CX0 P w K mg base ["_law_parts_here","_law_there","_law_back","_law_wide","_law_rows","_law_nexts","_law_steer","_law_push","_law_add","_law_divisor","_law_many","_law_table","_law_steers","_law_adds","_law_new"] "_law_turned" (defScope s_l_turned) f cdv A outer s H E).nox ((defBody s_l_turned).drop 5) t) (pss_cons (ps_comp (i:=14) sc_l_turned.nd rfl rfl (own:=["_law_row_here"]) (caps:=[(2,"_law_back")]) (blk_cap (S:=defScope s_l_turned) (N:=["_law_parts_here","_law_there","_law_back","_law_wide","_law_rows","_law_nexts","_law_steer","_law_push","_law_add","_law_divisor","_law_many","_law_table","_law_steers","_law_adds","_law_new"]) rfl (by decide +kernel) rfl ⟨_,rfl⟩ rfl (by decide +kernel) (by decide +kernel)) rfl (pi_list (L2.pvj 4)) (fun _ _ _ _=>pg_name (i:=0) (show (["_law_row_here","_law_back"]:List Str).Nodup by decide +kernel) rfl (Or.inl rfl)) (fun _ _ _ _=>(pe_callF c_l_row hr rfl (pa_cons (L2.pvj 0) (pa_cons (L2.pvj 1) pa_nil)))) rfl)
 U_6)
 obtain ⟨u_4,E_4,U_4⟩:=L2.hide_it (p:=fun t=>PSs (cxOf CX0 P w K mg base ["_law_parts_here","_law_there","_law_back","_law_wide","_law_rows","_law_nexts","_law_steer","_law_push","_law_add","_law_divisor","_law_many","_law_table","_law_steers","_law_adds","_law_new"] "_law_turned" (defScope s_l_turned) f cdv A outer s H E).nox ((defBody s_l_turned).drop 4) t) (pss_cons (ps_compN (i:=13) sc_l_turned.nd rfl rfl (own:=["_law_row_here"]) (caps:=[(8,"_law_add"),(10,"_law_many")]) (blkN_cap (S:=defScope s_l_turned) (N:=["_law_parts_here","_law_there","_law_back","_law_wide","_law_rows","_law_nexts","_law_steer","_law_push","_law_add","_law_divisor","_law_many","_law_table","_law_steers","_law_adds","_law_new"]) rfl (by decide +kernel) rfl ⟨_,rfl⟩ rfl (by decide +kernel) (by decide +kernel)) rfl (pi_list (L2.pvj 1)) (fun _ _ _ _=>pg_name (i:=0) (show (["_law_row_here","_law_add","_law_many"]:List Str).Nodup by decide +kernel) rfl (Or.inr rfl)) (fun _ _ _ _=>(pe_callB (show CallR _ _ (fun xs H Q=>∃ (p:Addr) (ns:List Int),xs=[V.ref p]/\SqL K H p (ns.map V.int)/\Q (V.int ns.sum) H) from call_sum rfl) rfl B.sum_ boot_sum_ (pa_cons (pe_compN (own:=["_law_k"]) (caps:=[(0,"_law_row_here"),(1,"_law_add")]) (blk_in rfl (by decide +kernel) (by decide +kernel) (by decide +kernel) (by decide +kernel)) rfl (pi_range1 rfl B.range_ (pa_cons (L2.pvj 2) pa_nil)) (fun _ _ _ _=>pg_name (i:=0) (show (["_law_k","_law_row_here","_law_add"]:List Str).Nodup by decide +kernel) rfl (Or.inl rfl)) (fun _ _ _ _=>(pe_op (ji op_mulW) (pe_ix (show IxR _ (JIx (SqL K)) from jix_list) (L2.pvj 1) (L2.pvj 0) (fun _ _=>rfl)) (pe_ix (show IxR _ (JIx (SqL K)) from jix_list) (L2.pvj 2) (L2.pvj 0) (fun _ _=>rfl))))) pa_nil))) rfl)
 U_5)
 obtain ⟨u_3,E_3,U_3⟩:=L2.hide_it (p:=fun t=>PSs (cxOf CX0 P w K mg base ["_law_parts_here","_law_there","_law_back","_law_wide","_law_rows","_law_nexts","_law_steer","_law_push","_law_add","_law_divisor","_law_many","_law_table","_law_steers","_law_adds","_law_new"] "_law_turned" (defScope s_l_turned) f cdv A outer s H E).nox ((defBody s_l_turned).drop 3) t) (pss_cons (ps_compN (i:=12) sc_l_turned.nd rfl rfl (own:=["_law_row_here"]) (caps:=[(6,"_law_steer"),(10,"_law_many")]) (blkN_cap (S:=defScope s_l_turned) (N:=["_law_parts_here","_law_there","_law_back","_law_wide","_law_rows","_law_nexts","_law_steer","_law_push","_law_add","_law_divisor","_law_many","_law_table","_law_steers","_law_adds","_law_new"]) rfl (by decide +kernel) rfl ⟨_,rfl⟩ rfl (by decide +kernel) (by decide +kernel)) rfl (pi_list (L2.pvj 1)) (fun _ _ _ _=>pg_name (i:=0) (show (["_law_row_here","_law_steer","_law_many"]:List Str).Nodup by decide +kernel) rfl (Or.inr rfl)) (fun _ _ _ _=>(pe_callB (show CallR _ _ (fun xs H Q=>∃ (p:Addr) (ns:List Int),xs=[V.ref p]/\SqL K H p (ns.map V.int)/\Q (V.int ns.sum) H) from call_sum rfl) rfl B.sum_ boot_sum_ (pa_cons (pe_compN (own:=["_law_k"]) (caps:=[(0,"_law_row_here"),(1,"_law_steer")]) (blk_in rfl (by decide +kernel) (by decide +kernel) (by decide +kernel) (by decide +kernel)) rfl (pi_range1 rfl B.range_ (pa_cons (L2.pvj 2) pa_nil)) (fun _ _ _ _=>pg_name (i:=0) (show (["_law_k","_law_row_here","_law_steer"]:List Str).Nodup by decide +kernel) rfl (Or.inl rfl)) (fun _ _ _ _=>(pe_op (ji op_mulW) (pe_ix (show IxR _ (JIx (SqL K)) from jix_list) (L2.pvj 1) (L2.pvj 0) (fun _ _=>rfl)) (pe_ix (show IxR _ (JIx (SqL K)) from jix_list) (L2.pvj 2) (L2.pvj 0) (fun _ _=>rfl))))) pa_nil))) rfl)
 U_4)
 refine ⟨_,(pss_cons (ps_asg (L2.pvj 0) (pg_lst rfl (pgs_cons (pg_name (i:=4) sc_l_turned.nd rfl (Or.inl rfl)) (pgs_cons (pg_name (i:=5) sc_l_turned.nd rfl (Or.inl rfl)) (pgs_cons (pg_name (i:=6) sc_l_turned.nd rfl (Or.inr rfl)) (pgs_cons (pg_name (i:=7) sc_l_turned.nd rfl (Or.inl rfl)) (pgs_cons (pg_name (i:=8) sc_l_turned.nd rfl (Or.inr rfl)) (pgs_cons (pg_name (i:=9) sc_l_turned.nd rfl (Or.inl rfl)) pgs_nil))))))))
 (pss_cons (ps_set (i:=10) sc_l_turned.nd rfl (Or.inr rfl) (pe_callB jlen rfl B.len_ boot_len_ (pa_cons (L2.pvj 1) pa_nil)))
 (pss_cons (ps_set (i:=11) sc_l_turned.nd rfl (Or.inl rfl) (pe_callF c_l_product hr rfl (pa_cons (pe_callF c_l_product hr rfl (pa_cons (L2.pvj 1) (pa_cons (L2.pvj 5) (pa_cons (L2.pvj 10) pa_nil)))) (pa_cons (L2.pvj 2) (pa_cons (L2.pvj 10) pa_nil)))))
 U_3))),?_⟩
 try dsimp only [cxOf,Cx.nox,Cx.wish]
 obtain ⟨pl,r0,n0,sa,p0,aa,rv,nv,pv,rfl,hl,PD⟩:=hM
 have n3:=MO.n3
 have p6:=MO.p6
 have ln1:=MO.nexts.1
 have ln2:=MO.steer
 have ln3:=MO.push.1
 have ln4:=MO.add
 have lT:=TT.len
 have lB:=BB.len
 have ltv:tv.length=T.length:=Paired.length htv
 have lrv:rv.length=m.rows.length:=Paired.length PD.hrv
 refine ⟨_,rfl,pl,_,rfl,SqL.of hl,rfl,_,_,rfl,_,_,rfl,_,_,rfl,_,_,rfl,_,_,rfl,_,_,rfl,rfl,?_⟩
 refine ⟨_,rfl,ta,_,rfl,.inl (SqL.of hta),?_⟩
 have NX:TbB m.nexts n n 400:=⟨ln1,fun r hr=>⟨MO.nexts.2 r hr,MNm.nexts r hr⟩⟩
 have PX:TbB m.push n w2 400:=⟨ln3,fun r hr=>⟨MO.push.2 r hr,MNm.push r hr⟩⟩
 have P1:=prodM_b TT NX
 refine ⟨_,rfl,_,rfl,_,rfl,ta,n0,tv,nv,T,m.nexts,n,n,n,(by rw [ltv,lT]; rfl),hta,htv,PD.hn,PD.hnv,TT.mono (by decide),NX.mono (by decide),(by omega),(by omega),(by omega),fun q1 qv1 J2 y2 eq1 hq1=>?_⟩
 have SG1:=y2
 refine ⟨_,rfl,_,rfl,q1,ba,qv1,bv,prodM T m.nexts n,B2,n,n,n,(by rw [ltv,lT]; rfl),eq1,hq1,(SG1 _ _ hba),(TabV.same SG1 hbv),P1.mono (by omega),BB.mono (by decide),(by omega),(by omega),(by omega),fun q2 qv2 J3 y3 eq2 hq2=>?_⟩
 have SG2:=SG1.trans y3
 replace eq1:=(y3 _ _ eq1)
 replace hq1:=(TabV.same y3 hq1)
 show u_3 _ [some (.ref pl),some (.ref ta),some (.ref ba),some (.int (w2:Int)),some (.ref r0),some (.ref n0),some (.ref sa),some (.ref p0),some (.ref aa),some (.int m.div),some (.int ((tv.length:Nat):Int)),some (.ref q2),none,none,none] _
 rw [E_3]
 try dsimp only [cxOf,Cx.nox,Cx.wish]
 refine ⟨_,rfl,ta,rfl,⟨_,SqL.of (SG2 _ _ hta)⟩,comp_list (K:=K) (a:=ta) (xs:=tv) (fun i ys σ H'=>ys=((T.take i).map fun q=>sumP q m.steer).map V.int/\(∃ o,σ=[o,some (.ref sa),some (.int ((tv.length:Nat):Int))])/\Same J3 H')
  ⟨rfl,⟨none,rfl⟩,Same.refl _⟩ (fun i ys σ H' hi ⟨e1,_,sm⟩=>⟨SqL.of (sm _ _ (SG2 _ _ hta)),by rw [e1,List.length_map,List.length_map,List.length_take]; exact Nat.min_le_left _ _⟩) (Nat.le_of_lt (small1000 (by omega))) ?_ ?_⟩
 ·rintro i x ys σ H' hi ⟨rfl,⟨o1,rfl⟩,sm⟩
  obtain ⟨r1,hr',a1,rfl,ea⟩:=paired_get htv hi
  obtain ⟨rl,rb⟩:=TT.row r1 (List.mem_of_getElem? hr')
  have s0:=SG2.trans sm
  refine ⟨_,rfl,_,rfl,(by omega),(by omega),comp_range (lo:=0) (n:=((tv.length:Nat):Int).toNat)
   (fun k zs σ H2=>zs=((List.range k).map fun k=>r1.getD k 0 * m.steer.getD k 0).map V.int/\(∃ o,σ=[o,some (.ref a1),some (.ref sa)])/\H2=H')
   ⟨rfl,⟨none,rfl⟩,rfl⟩ (fun k zs σ H2 ⟨e1,_⟩=>by rw [e1,List.length_map,List.length_map,List.length_range]; omega) (Nat.le_of_lt (small1000 (by omega))) ?_ ?_⟩
  ·rintro k zs σ H2 hk ⟨rfl,⟨o2,rfl⟩,rfl⟩
   have ak:atI (r1.map V.int) (0 + (k:Int))=some (.int (r1.getD k 0)):=by rw [Int.zero_add]; exact at_int (by omega)
   have av:atI (m.steer.map V.int) (0 + (k:Int))=some (.int (m.steer.getD k 0)):=by rw [Int.zero_add]; exact at_int (by omega)
   refine ⟨_,rfl,_,rfl,a1,_,_,_,rfl,rfl,SqL.of (s0 _ _ ea),ak,_,rfl,_,rfl,sa,_,_,_,rfl,rfl,SqL.of (s0 _ _ PD.hs),av,_,_,rfl,rfl,⟨(rb _ (getD_mem (by omega))).mono (by decide),(MNm.steer _ (getD_mem (by omega))).mono (by decide)⟩,?_,⟨_,rfl⟩,rfl⟩
   rw [List.range_succ,List.map_append,List.map_append]
   rfl
  rintro zs σ H2 ⟨rfl,⟨o2,rfl⟩,hZ⟩ c hc
  rw [hZ] at hc |-
  clear hZ
  rw [show ((tv.length:Nat):Int).toNat=n by omega]
  have zc:=same_new hc (HO.lst (((List.range n).map fun k=>r1.getD k 0 * m.steer.getD k 0).map V.int))
  refine ⟨c,_,rfl,SqL.of upd_same,?_,⟨_,rfl⟩,sm.trans zc⟩
  rw [dot_range rl (by omega),take_snoc hr',List.map_append (l₁:=List.take i _),List.map_append]
  rfl
 rintro ys σ J4 ⟨rfl,⟨o1,rfl⟩,yJ4⟩ s1 hs1
 rw [List.take_of_length_le (by omega)]
 have SG3:=SG2.trans yJ4
 replace eq1:=(yJ4 _ _ eq1)
 replace hq1:=(TabV.same yJ4 hq1)
 replace eq2:=(yJ4 _ _ eq2)
 replace hq2:=(TabV.same yJ4 hq2)
 have yG4:=same_new hs1 (HO.lst ((T.map fun q=>sumP q m.steer).map V.int))
 have es1:=upd_same (H:=J4) (a:=s1) (o:=HO.lst ((T.map fun q=>sumP q m.steer).map V.int))
 generalize hhG4:upd J4 s1 (HO.lst ((T.map fun q=>sumP q m.steer).map V.int))=G4 at yG4 es1 |-
 have SG4:=SG3.trans yG4
 replace eq1:=(yG4 _ _ eq1)
 replace hq1:=(TabV.same yG4 hq1)
 replace eq2:=(yG4 _ _ eq2)
 replace hq2:=(TabV.same yG4 hq2)
 show u_4 _ [some (.ref pl),some (.ref ta),some (.ref ba),some (.int (w2:Int)),some (.ref r0),some (.ref n0),some (.ref sa),some (.ref p0),some (.ref aa),some (.int m.div),some (.int ((tv.length:Nat):Int)),some (.ref q2),some (.ref s1),none,none] _
 rw [E_4]
 try dsimp only [cxOf,Cx.nox,Cx.wish]
 refine ⟨_,rfl,ta,rfl,⟨_,SqL.of (SG4 _ _ hta)⟩,comp_list (K:=K) (a:=ta) (xs:=tv) (fun i ys σ H'=>ys=((T.take i).map fun q=>sumP q m.add).map V.int/\(∃ o,σ=[o,some (.ref aa),some (.int ((tv.length:Nat):Int))])/\Same G4 H')
  ⟨rfl,⟨none,rfl⟩,Same.refl _⟩ (fun i ys σ H' hi ⟨e1,_,sm⟩=>⟨SqL.of (sm _ _ (SG4 _ _ hta)),by rw [e1,List.length_map,List.length_map,List.length_take]; exact Nat.min_le_left _ _⟩) (Nat.le_of_lt (small1000 (by omega))) ?_ ?_⟩
 ·rintro i x ys σ H' hi ⟨rfl,⟨o1,rfl⟩,sm⟩
  obtain ⟨r1,hr',a1,rfl,ea⟩:=paired_get htv hi
  obtain ⟨rl,rb⟩:=TT.row r1 (List.mem_of_getElem? hr')
  have s0:=SG4.trans sm
  refine ⟨_,rfl,_,rfl,(by omega),(by omega),comp_range (lo:=0) (n:=((tv.length:Nat):Int).toNat)
   (fun k zs σ H2=>zs=((List.range k).map fun k=>r1.getD k 0 * m.add.getD k 0).map V.int/\(∃ o,σ=[o,some (.ref a1),some (.ref aa)])/\H2=H')
   ⟨rfl,⟨none,rfl⟩,rfl⟩ (fun k zs σ H2 ⟨e1,_⟩=>by rw [e1,List.length_map,List.length_map,List.length_range]; omega) (Nat.le_of_lt (small1000 (by omega))) ?_ ?_⟩
  ·rintro k zs σ H2 hk ⟨rfl,⟨o2,rfl⟩,rfl⟩
   have ak:atI (r1.map V.int) (0 + (k:Int))=some (.int (r1.getD k 0)):=by rw [Int.zero_add]; exact at_int (by omega)
   have av:atI (m.add.map V.int) (0 + (k:Int))=some (.int (m.add.getD k 0)):=by rw [Int.zero_add]; exact at_int (by omega)
   refine ⟨_,rfl,_,rfl,a1,_,_,_,rfl,rfl,SqL.of (s0 _ _ ea),ak,_,rfl,_,rfl,aa,_,_,_,rfl,rfl,SqL.of (s0 _ _ PD.ha),av,_,_,rfl,rfl,⟨(rb _ (getD_mem (by omega))).mono (by decide),(MNm.add _ (getD_mem (by omega))).mono (by decide)⟩,?_,⟨_,rfl⟩,rfl⟩
   rw [List.range_succ,List.map_append,List.map_append]
   rfl
  rintro zs σ H2 ⟨rfl,⟨o2,rfl⟩,hZ⟩ c hc
  rw [hZ] at hc |-
  clear hZ
  rw [show ((tv.length:Nat):Int).toNat=n by omega]
  have zc:=same_new hc (HO.lst (((List.range n).map fun k=>r1.getD k 0 * m.add.getD k 0).map V.int))
  refine ⟨c,_,rfl,SqL.of upd_same,?_,⟨_,rfl⟩,sm.trans zc⟩
  rw [dot_range rl (by omega),take_snoc hr',List.map_append (l₁:=List.take i _),List.map_append]
  rfl
 rintro ys σ J6 ⟨rfl,⟨o1,rfl⟩,yJ6⟩ a1 ha1
 rw [List.take_of_length_le (by omega)]
 have SG5:=SG4.trans yJ6
 replace eq1:=(yJ6 _ _ eq1)
 replace hq1:=(TabV.same yJ6 hq1)
 replace eq2:=(yJ6 _ _ eq2)
 replace hq2:=(TabV.same yJ6 hq2)
 replace es1:=(yJ6 _ _ es1)
 have yG6:=same_new ha1 (HO.lst ((T.map fun q=>sumP q m.add).map V.int))
 have ea1:=upd_same (H:=J6) (a:=a1) (o:=HO.lst ((T.map fun q=>sumP q m.add).map V.int))
 generalize hhG6:upd J6 a1 (HO.lst ((T.map fun q=>sumP q m.add).map V.int))=G6 at yG6 ea1 |-
 have SG6:=SG5.trans yG6
 replace eq1:=(yG6 _ _ eq1)
 replace hq1:=(TabV.same yG6 hq1)
 replace eq2:=(yG6 _ _ eq2)
 replace hq2:=(TabV.same yG6 hq2)
 replace es1:=(yG6 _ _ es1)
 show u_5 _ [some (.ref pl),some (.ref ta),some (.ref ba),some (.int (w2:Int)),some (.ref r0),some (.ref n0),some (.ref sa),some (.ref p0),some (.ref aa),some (.int m.div),some (.int ((tv.length:Nat):Int)),some (.ref q2),some (.ref s1),some (.ref a1),none] _
 rw [E_5]
 try dsimp only [cxOf,Cx.nox,Cx.wish]
 refine ⟨_,rfl,r0,rfl,⟨_,SqL.of (SG6 _ _ PD.hr)⟩,comp_list (K:=K) (a:=r0) (xs:=rv) (fun i ys σ H'=>WaysV H' ys ((m.rows.take i).map (turnR n B2))/\(∃ o,σ=[o,some (.ref ba)])/\Same G6 H')
  ⟨.nil,⟨none,rfl⟩,Same.refl _⟩ (fun i ys σ H' hi ⟨e1,_,sm⟩=>⟨SqL.of (sm _ _ (SG6 _ _ PD.hr)),by have:=Paired.length e1; rw [List.length_map,List.length_take] at this; omega⟩) (Nat.le_of_lt (small1000 (by omega))) ?_ ?_⟩
 ·rintro i x ys σ H' hi ⟨hz,⟨o1,rfl⟩,sm⟩
  obtain ⟨r1,hr',a9,rfl,ea⟩:=paired_get PD.hrv hi
  have s0:=SG6.trans sm
  refine ⟨_,rfl,_,rfl,ba,a9,bv,B2,r1,n,rfl,s0 _ _ hba,TabV.same s0 hbv,s0 _ _ ea,MO.rows r1 (List.mem_of_getElem? hr'),BB.mono (by decide),(fun x hx=>(MNm.rows r1 (List.mem_of_getElem? hr') x hx).mono (by decide)),n1,n3,fun t1 H2 s2 et=>?_⟩
  refine ⟨?_,⟨_,rfl⟩,sm.trans s2⟩
  rw [take_snoc hr',List.map_append]
  exact paired_snoc (R:=fun v (k:List Int)=>Tp H2 v (k.map V.int)) ⟨t1,rfl,et⟩ (WaysV.same s2 hz)
 rintro wv σ J7 ⟨hwv,⟨o1,rfl⟩,y7⟩ w1 hw9
 rw [List.take_of_length_le (by omega)] at hwv
 have SG7:=SG6.trans y7
 replace eq1:=(y7 _ _ eq1)
 replace hq1:=(TabV.same y7 hq1)
 replace eq2:=(y7 _ _ eq2)
 replace hq2:=(TabV.same y7 hq2)
 replace es1:=(y7 _ _ es1)
 replace ea1:=(y7 _ _ ea1)
 have yG8:=same_new hw9 (HO.lst wv)
 have ew1:=upd_same (H:=J7) (a:=w1) (o:=HO.lst wv)
 generalize hhG8:upd J7 w1 (HO.lst wv)=G8 at yG8 ew1 |-
 have SG8:=SG7.trans yG8
 replace eq1:=(yG8 _ _ eq1)
 replace hq1:=(TabV.same yG8 hq1)
 replace eq2:=(yG8 _ _ eq2)
 replace hq2:=(TabV.same yG8 hq2)
 replace es1:=(yG8 _ _ es1)
 replace ea1:=(yG8 _ _ ea1)
 replace hwv:=(WaysV.same yG8 hwv)
 show u_6 _ [some (.ref pl),some (.ref ta),some (.ref ba),some (.int (w2:Int)),some (.ref r0),some (.ref n0),some (.ref sa),some (.ref p0),some (.ref aa),some (.int m.div),some (.int ((tv.length:Nat):Int)),some (.ref q2),some (.ref s1),some (.ref a1),some (.ref w1)] _
 rw [E_6]
 try dsimp only [cxOf,Cx.nox,Cx.wish]
 refine ⟨_,rfl,_,rfl,_,rfl,_,rfl,_,rfl,_,rfl,ta,p0,tv,pv,T,m.push,n,n,w2,rfl,(SG8 _ _ hta),(TabV.same SG8 htv),(SG8 _ _ PD.hp),(TabV.same SG8 PD.hpv),TT.mono (by decide),PX.mono (by decide),(by omega),(by omega),(by omega),fun q3 qv3 J8 y8 eq3 hq3=>?_⟩
 have SG9:=SG8.trans y8
 replace eq1:=(y8 _ _ eq1)
 replace hq1:=(TabV.same y8 hq1)
 replace eq2:=(y8 _ _ eq2)
 replace hq2:=(TabV.same y8 hq2)
 replace es1:=(y8 _ _ es1)
 replace ea1:=(y8 _ _ ea1)
 replace hwv:=(WaysV.same y8 hwv)
 replace ew1:=(y8 _ _ ew1)
 refine ⟨_,rfl,_,rfl,(by show 6<=sizeLine; decide),fun po hpo=>?_⟩
 have yG10:=same_new hpo (HO.lst [V.ref w1,V.ref q2,V.ref s1,V.ref q3,V.ref a1,V.int m.div])
 have epo:=upd_same (H:=J8) (a:=po) (o:=HO.lst [V.ref w1,V.ref q2,V.ref s1,V.ref q3,V.ref a1,V.int m.div])
 generalize hhG10:upd J8 po (HO.lst [V.ref w1,V.ref q2,V.ref s1,V.ref q3,V.ref a1,V.int m.div])=G10 at yG10 epo |-
 have SG10:=SG9.trans yG10
 replace eq1:=(yG10 _ _ eq1)
 replace hq1:=(TabV.same yG10 hq1)
 replace eq2:=(yG10 _ _ eq2)
 replace hq2:=(TabV.same yG10 hq2)
 replace es1:=(yG10 _ _ es1)
 replace ea1:=(yG10 _ _ ea1)
 replace hwv:=(WaysV.same yG10 hwv)
 replace ew1:=(yG10 _ _ ew1)
 replace eq3:=(yG10 _ _ eq3)
 replace hq3:=(TabV.same yG10 hq3)
 exact q (.ref po) G10 SG10 ⟨po,w1,q2,s1,q3,a1,wv,qv2,qv3,rfl,epo,⟨ew1,hwv,eq2,hq2,es1,eq3,hq3,ea1⟩⟩
theorem ok_l_told {k:Nat} {f:Addr} {fd:FuncData} (F:Fun K "_law_told" "_law_told" s_l_told f fd) (B:Bl mg) (c_Thing_modes:FnM P w K mg base aThing "modes" ["self"] k (spModes aThing aMode)):FnOk P w K mg base CX0 (k + 1) f fd ["_law_thing"] (spTold32 aThing aMode):=by
 refine F.ok sc_l_told (fun vs H Q E h=>?_) (fun cdv A outer s H vs Q E hr h=>?_)
 ·obtain ⟨o,kp,km,n,bs,ms,pv,mv,rfl,_⟩:=h
  rfl
 obtain ⟨o,kp,km,n,bs,ms,pv,mv,rfl,TA,m40,q⟩:=h
 have hrm:=hr
 refine ⟨_,(pss_cons (ps_set (i:=1) sc_l_told.nd rfl (Or.inl rfl) (pe_lst pa_nil))
  (pss_cons (ps_for PassesOwn.never rfl (pi_list (pe_methF0 c_Thing_modes TThing hrm (L2.pvj 0))) (pg_name (i:=2) sc_l_told.nd rfl (Or.inl rfl)) (pss_one (ps_expr (pe_bm PySem.F.plainAttrs_list PySem.F.slot_list_append PySem.F.type_list_append japp (L2.pvj 1) (pa_cons (pe_lst (pa_cons (pe_fld (L2.pvj 2) rfl) (pa_cons (pe_fld (L2.pvj 2) rfl) (pa_cons (pe_fld (L2.pvj 2) rfl) (pa_cons (pe_fld (L2.pvj 2) rfl) (pa_cons (pe_fld (L2.pvj 2) rfl) (pa_cons (pe_fld (L2.pvj 2) rfl) pa_nil))))))) pa_nil)))))
  (pss_one (ps_ret (L2.pvj 1))))),?_⟩
 try dsimp only [cxOf,Cx.nox,Cx.wish]
 obtain ⟨dx,ins⟩:=TA.ins
 have lmv:mv.length=ms.length:=Paired.length TA.hmv
 refine ⟨(by show 0<=sizeLine; decide),fun fl hfl=>?_⟩
 have y2:=same_new hfl (HO.lst [])
 have efl0:=upd_same (H:=H) (a:=fl) (o:=HO.lst [])
 generalize hhJ2:upd H fl (HO.lst [])=J2 at y2 efl0 |-
 refine ⟨_,rfl,o,dx,_,rfl,(y2 _ _ ins),rfl,o,kp,km,n,bs,ms,pv,mv,rfl,TA.same y2,fun l2 J3 y3 nl2 el2=>?_⟩
 have nel:l2≠fl:=(ne_of_none efl0 nl2).symm
 have s3:=hide_fresh (B:=[fl]) (fun x hx=>by rw [List.mem_singleton.mp hx]; exact hfl) (y2.trans y3)
 refine ⟨l2,rfl,⟨_,SqL.of el2⟩,for_list (K:=K) (a:=l2) (xs:=mv)
  (fun i σ H'=>∃ (xs:List V) (o2:Option V),σ=[some (.ref o),some (.ref fl),o2]/\Same H (hide [fl] H')/\H' l2=some (.lst mv)/\H' fl=some (.lst xs)/\Paired (PartsV (hide [fl] H')) xs (ms.take i))
  ⟨[],none,rfl,s3,el2,y3 _ _ efl0,.nil⟩ (fun i σ H' _ ⟨_,_,_,_,e,_⟩=>SqL.of e) ?_ ?_⟩
 ·rintro i x σ H' hix ⟨xs,o2,rfl,sm,e2,efl,hxs⟩
  obtain ⟨md,hmd,oo,M,rfl,k0⟩:=paired_get TA.hmv hix
  have sj:=sm.trans hide_sub
  have im:i < ms.length:=(List.getElem?_eq_some_iff.mp hmd).1
  have lx:=Paired.length hxs
  rw [List.length_take] at lx
  refine ⟨_,rfl,.inl ⟨rfl,_,SqL.of efl⟩,_,rfl,oo,aMode,M.dx,_,_,rfl,(sj _ _ k0.ins),TMode.cl,AMode.n_rows,rfl,_,rfl,oo,aMode,M.dx,_,_,rfl,(sj _ _ k0.ins),TMode.cl,AMode.n_nexts,rfl,_,rfl,oo,aMode,M.dx,_,_,rfl,(sj _ _ k0.ins),TMode.cl,AMode.n_steer,rfl,_,rfl,oo,aMode,M.dx,_,_,rfl,(sj _ _ k0.ins),TMode.cl,AMode.n_push,rfl,_,rfl,oo,aMode,M.dx,_,_,rfl,(sj _ _ k0.ins),TMode.cl,AMode.n_add,rfl,_,rfl,oo,aMode,M.dx,_,_,rfl,(sj _ _ k0.ins),TMode.cl,AMode.n_divisor,rfl,(by show 6<=sizeLine; decide),fun nl hnl=>?_⟩
  have nn:nl≠fl:=(ne_of_none efl hnl).symm
  have zn:=same_new hnl (HO.lst [V.ref M.r,V.ref M.n,V.ref M.s,V.ref M.p,V.ref M.a,V.int md.div])
  have enl:=upd_same (H:=H') (a:=nl) (o:=HO.lst [V.ref M.r,V.ref M.n,V.ref M.s,V.ref M.p,V.ref M.a,V.int md.div])
  generalize hhN:upd H' nl (HO.lst [V.ref M.r,V.ref M.n,V.ref M.s,V.ref M.p,V.ref M.a,V.int md.div])=N at zn enl |-
  refine ⟨fl,xs,_,rfl,rfl,zn _ _ efl,small1000 (by omega),?_⟩
  have h4:=(hide_same (B:=[fl]) zn).trans (hide_put (x:=fl) (HO.lst (xs++[V.ref nl])))
  have s4:=sm.trans h4
  refine ⟨xs++[V.ref nl],_,rfl,s4,(upd_ne nel).trans (zn _ _ e2),upd_same,?_⟩
  rw [take_snoc hmd]
  refine paired_snoc (R:=PartsV _) ⟨nl,M.r,M.n,M.s,M.p,M.a,M.rv,M.nv,M.pv,rfl,?_,⟨s4 _ _ k0.hr,WaysV.same s4 k0.hrv,s4 _ _ k0.hn,TabV.same s4 k0.hnv,s4 _ _ k0.hs,s4 _ _ k0.hp,TabV.same s4 k0.hpv,s4 _ _ k0.ha⟩⟩ (partss_same h4 hxs)
  rw [hide_at (fun z=>nn (List.mem_singleton.mp z)),upd_ne nn]
  exact enl
 rintro σ H4 ⟨xs,o2,rfl,sm,e2,efl,hxs⟩
 rw [take_all (by omega)] at hxs
 exact ⟨_,rfl,q fl xs H4 (sm.trans hide_sub) efl (partss_same hide_sub hxs)⟩
end
theorem Paired.mapM {α β:Type} {R S:α->β->Prop}:∀ {xs:List α} {ys:List β},Paired R xs ys->(∀ x y,x∈xs->R x y->S x y)->Paired S xs ys
 | _,_,.nil,_=>.nil
 | _,_,.cons h t,f=>.cons (f _ _ List.mem_cons_self h) (Paired.mapM t fun x y m=>f x y (List.mem_cons_of_mem _ m))
theorem int_is (i j:Nat):(if decide (V.int (0 + (i:Int))=V.int (0 + (j:Int)))=true then (1:Int) else 0)=if i=j then 1 else 0:=by
 by_cases e:i=j
 ·rw [if_pos e,e,decide_eq_true rfl,if_pos rfl]
 ·rw [if_neg e,decide_eq_false (fun z=>e (by injection z with z; omega)),if_neg (by decide)]
theorem set_range {f:Nat->Int} {n i:Nat} {v:Int}:((List.range n).map f).set i v=(List.range n).map fun c=>if c=i then v else f c:=by
 refine List.ext_getElem (by simp) fun k a b=>?_
 simp only [List.getElem_set,List.getElem_map,List.getElem_range]
 by_cases e:i=k
 ·rw [if_pos e,if_pos e.symm]
 ·rw [if_neg e,if_neg (fun z=>e z.symm)]
theorem tabF_set {n r:Nat} {f g:Nat->Nat->Int} {row:List Int} (h1:row=(List.range n).map (g r)) (h2:∀ k,k≠r->g k=f k):(tabF n f).set r row=tabF n g:=by
 unfold tabF
 refine List.ext_getElem (by simp) fun k a b=>?_
 simp only [List.getElem_set,List.getElem_map,List.getElem_range]
 by_cases e:r=k
 ·rw [if_pos e,h1,e]
 ·rw [if_neg e,h2 k (fun z=>e z.symm)]
theorem tabF_congr {n:Nat} {f g:Nat->Nat->Int} (h:∀ r,r < n->f r=g r):tabF n f=tabF n g:=List.map_congr_left fun r hr=>by rw [h r (List.mem_range.mp hr)]
theorem tabF_get {n i:Nat} {t:Nat->Nat->Int} (h:i < n):(tabF n t).getD i []=(List.range n).map (t i):=by
 unfold tabF
 rw [List.getD_eq_getElem?_getD,List.getElem?_map,List.getElem?_range h]
 rfl
noncomputable def mixF (r:Nat) (b b':Nat->Nat->Int) (k:Nat):Nat->Int:=if k < r then b' k else b k
noncomputable abbrev RowA (H:Hp) (a:Addr) (r:List Int):Prop:=H a=some (.lst (r.map V.int))
theorem hide_upd {M:List Addr} {H:Hp} {a:Addr} {o:HO} (h:a∈M):hide M (upd H a o)=hide M H:=funext fun b=>by
 unfold hide
 by_cases e:b∈M
 ·rw [if_pos e,if_pos e]
 ·rw [if_neg e,if_neg e,upd_ne (fun z=>e (by rw [z]; exact h))]
theorem paired_put {H:Hp} {a:Addr} {row:List Int}:∀ {as:List Addr} {tab:List (List Int)} {r:Nat},Paired (RowA H) as tab->as[r]? = some a->as.Nodup->Paired (RowA (upd H a (.lst (row.map V.int)))) as (tab.set r row)
 | _,_,_,.nil,e,_=>by simp at e
 | x :: as,_,0,.cons _ t,e,nd=>by
  have ex:x=a:=by simpa using e
  subst ex
  refine .cons upd_same (Paired.mapM t fun y _ hy k=>?_)
  show upd H x _ y=_
  rw [upd_ne (fun z=>by rw [z] at hy; exact (List.nodup_cons.mp nd).1 hy)]
  exact k
 | x :: as,_,r + 1,.cons h t,e,nd=>by
  have e2:as[r]? = some a:=by simpa using e
  refine .cons ?_ (paired_put t e2 (List.nodup_cons.mp nd).2)
  show upd H a _ x=_
  rw [upd_ne (fun z=>(List.nodup_cons.mp nd).1 (by rw [z]; exact List.mem_of_getElem? e2))]
  exact h
structure TbS (H0 H:Hp) (ta ba:Addr) (as:List Addr) (n:Nat) (t b:Nat->Nat->Int):Prop where
 same:Same H0 (hide (ta :: as) H)
 hta:∃ tv,H ta=some (.lst tv)/\TabV (hide (ta :: as) H) tv (tabF n t)
 hba:hide (ta :: as) H ba=some (.lst (as.map V.ref))
 hb:Paired (RowA H) as (tabF n b)
 nd:(ta :: as).Nodup
theorem rows_same {H H':Hp} {as:List Addr} {tab:List (List Int)} (s:Same H H') (h:Paired (RowA H) as tab):Paired (RowA H') as tab:=Paired.mapP h fun _ _ z=>s _ _ z
theorem TbS.grow {H0 H H':Hp} {ta ba:Addr} {as:List Addr} {n:Nat} {t b:Nat->Nat->Int} (x:TbS H0 H ta ba as n t b) (s:Same H H'):TbS H0 H' ta ba as n t b:=
 ⟨x.same.trans (hide_same s),let ⟨tv,h,k⟩:=x.hta; ⟨tv,s _ _ h,TabV.same (hide_same s) k⟩,hide_same s _ _ x.hba,rows_same s x.hb,x.nd⟩
theorem TbS.in_ {H0 H:Hp} {ta ba:Addr} {as:List Addr} {n:Nat} {t b:Nat->Nat->Int} (x:TbS H0 H ta ba as n t b):∀ a∈ta :: as,∃ o,H a=some o:=fun a h=>by
 rcases List.mem_cons.mp h with rfl | h
 ·obtain ⟨tv,h,_⟩:=x.hta
  exact ⟨_,h⟩
 ·obtain ⟨i,hi,e⟩:=List.mem_iff_getElem.mp h
  obtain ⟨r,_,k⟩:=paired_get x.hb (List.getElem?_eq_getElem hi)
  rw [e] at k
  exact ⟨_,k⟩
theorem TbS.putT {H0 H:Hp} {ta ba:Addr} {as:List Addr} {n:Nat} {t t' b:Nat->Nat->Int} {tv:List V} (x:TbS H0 H ta ba as n t b) (h:TabV (hide (ta :: as) H) tv (tabF n t')):TbS H0 (upd H ta (.lst tv)) ta ba as n t' b:=by
 have e:hide (ta :: as) (upd H ta (.lst tv))=hide (ta :: as) H:=hide_upd (by simp)
 refine ⟨by rw [e]; exact x.same,⟨tv,upd_same,by rw [e]; exact h⟩,by rw [e]; exact x.hba,Paired.mapM x.hb fun y _ hy k=>?_,x.nd⟩
 show upd H ta _ y=_
 rw [upd_ne (fun z=>(List.nodup_cons.mp x.nd).1 (by rw [<- z]; exact hy))]
 exact k
theorem TbS.putB {H0 H:Hp} {ta ba a:Addr} {as:List Addr} {n r:Nat} {t b b':Nat->Nat->Int} {row:List Int} (x:TbS H0 H ta ba as n t b) (ha:as[r]? = some a) (h1:row=(List.range n).map (b' r)) (h2:∀ k,k≠r->b' k=b k):TbS H0 (upd H a (.lst (row.map V.int))) ta ba as n t b':=by
 have hm:=List.mem_of_getElem? ha
 have e:hide (ta :: as) (upd H a (.lst (row.map V.int)))=hide (ta :: as) H:=hide_upd (List.mem_cons_of_mem _ hm)
 refine ⟨by rw [e]; exact x.same,?_,by rw [e]; exact x.hba,?_,x.nd⟩
 ·obtain ⟨tv,h,k⟩:=x.hta
  exact ⟨tv,by rw [upd_ne (fun z=>(List.nodup_cons.mp x.nd).1 (by rw [z]; exact hm))]; exact h,by rw [e]; exact k⟩
 ·rw [<- tabF_set h1 h2]
  exact paired_put x.hb ha (List.nodup_cons.mp x.nd).2
inductive spTables (vs:List V) (H:Hp) (Q:VK) (E:XK):Prop
 | mk (ca:Addr) (cs:List Int) (n:Nat) (_:vs=[.ref ca,.int (n:Int)]) (_:H ca=some (.lst (cs.map V.int))) (_:cs.length<=9) (_:1<=n) (_:n<=3) (_:∀ (tt ta ba:Addr) (tv bv:List V) (t b:Nat->Nat->Int) (H':Hp),Same H H'->H' tt=some (.tup [.ref ta,.ref ba])->H' ta=some (.lst tv)->TabV H' tv (tabF n t)->H' ba=some (.lst bv)->TabV H' bv (tabF n b)->IsInv n t b->IsInv n b t->(∀ r k,r < n->k < n->Bd 40 (t r k)/\Bd 40 (b r k))->Q (.ref tt) H'):spTables vs H Q E
theorem rows_tab {H:Hp}:∀ {as:List Addr} {tab:List (List Int)},Paired (RowA H) as tab->TabV H (as.map V.ref) tab
 | _,_,.nil=>.nil
 | _,_,.cons h t=>.cons ⟨_,rfl,h⟩ (rows_tab t)
theorem zip_self {f g:Nat->Int}:∀ l:List Nat,(l.map f).zip (l.map g)=l.map fun c=>(f c,g c)
 | []=>rfl
 | a :: l=>by rw [List.map_cons,List.map_cons,List.zip_cons_cons,zip_self l]; rfl
section
variable {P:Program} {w:World} {K:PySem.W.Frag} {mg:Str->Option Value} {base:Heap} {C:Addr}
noncomputable abbrev s_l_tables:Stmt:=top 47
theorem sc_l_tables:FnScope ["_law_cells","_law_many","_law_there","_law_back","_law_cell","_law_i","_law_j","_law_by","_law_row_here"] ["_law_cells","_law_many"] (defScope s_l_tables):=⟨rfl,rfl,rfl,by decide +kernel,rfl,by decide +kernel,by decide +kernel⟩
variable {aMode aThing:Addr} (TMode:ClsF K mg "Mode" aMode) (AMode:AtMode K aMode) (TThing:ClsF K mg "Thing" aThing) (AThing:AtThing K aThing)
include TMode AMode TThing AThing
theorem ok_l_tables {k:Nat} {f:Addr} {fd:FuncData} (F:Fun K "_law_tables" "_law_tables" s_l_tables f fd) (B:Bl mg):FnOk P w K mg base CX0 (k + 1) f fd ["_law_cells","_law_many"] spTables:=by
 refine F.ok sc_l_tables (fun vs H Q E h=>?_) (fun cdv A outer s H vs Q E hr h=>?_)
 ·obtain ⟨ca,cs,n,rfl,_⟩:=h
  rfl
 obtain ⟨ca,cs,n,rfl,hca,c9,n1,n3,q⟩:=h
 refine ⟨_,(pss_cons (ps_compN (i:=2) sc_l_tables.nd rfl rfl (own:=["_law_i"]) (caps:=[(1,"_law_many")]) (blkN_cap (S:=defScope s_l_tables) (N:=["_law_cells","_law_many","_law_there","_law_back","_law_cell","_law_i","_law_j","_law_by","_law_row_here"]) rfl (by decide +kernel) rfl ⟨_,rfl⟩ rfl (by decide +kernel) (by decide +kernel)) rfl (pi_range1 rfl B.range_ (pa_cons (L2.pvj 1) pa_nil)) (fun _ _ _ _=>pg_name (i:=0) (show (["_law_i","_law_many"]:List Str).Nodup by decide +kernel) rfl (Or.inr rfl)) (fun _ _ _ _=>(pe_compN (own:=["_law_j"]) (caps:=[(0,"_law_i")]) (blk_in rfl (by decide +kernel) (by decide +kernel) (by decide +kernel) (by decide +kernel)) rfl (pi_range1 rfl B.range_ (pa_cons (L2.pvj 1) pa_nil)) (fun _ _ _ _=>pg_name (i:=0) (show (["_law_j","_law_i"]:List Str).Nodup by decide +kernel) rfl (Or.inl rfl)) (fun _ _ _ _=>(pe_callTy call_int1 rfl B.int_ boot_int_ (pa_cons (pe_cmpR op_eq (L2.pvj 1) (L2.pvj 0) (nomark _)) pa_nil))))) rfl)
  (pss_cons (ps_compN (i:=3) sc_l_tables.nd rfl rfl (own:=["_law_i"]) (caps:=[(1,"_law_many")]) (blkN_cap (S:=defScope s_l_tables) (N:=["_law_cells","_law_many","_law_there","_law_back","_law_cell","_law_i","_law_j","_law_by","_law_row_here"]) rfl (by decide +kernel) rfl ⟨_,rfl⟩ rfl (by decide +kernel) (by decide +kernel)) rfl (pi_range1 rfl B.range_ (pa_cons (L2.pvj 1) pa_nil)) (fun _ _ _ _=>pg_name (i:=0) (show (["_law_i","_law_many"]:List Str).Nodup by decide +kernel) rfl (Or.inr rfl)) (fun _ _ _ _=>(pe_compN (own:=["_law_j"]) (caps:=[(0,"_law_i")]) (blk_in rfl (by decide +kernel) (by decide +kernel) (by decide +kernel) (by decide +kernel)) rfl (pi_range1 rfl B.range_ (pa_cons (L2.pvj 1) pa_nil)) (fun _ _ _ _=>pg_name (i:=0) (show (["_law_j","_law_i"]:List Str).Nodup by decide +kernel) rfl (Or.inl rfl)) (fun _ _ _ _=>(pe_callTy call_int1 rfl B.int_ boot_int_ (pa_cons (pe_cmpR op_eq (L2.pvj 1) (L2.pvj 0) (nomark _)) pa_nil))))) rfl)
  (pss_cons (ps_for PassesOwn.never rfl (pi_list (L2.pvj 0)) (pg_name (i:=4) sc_l_tables.nd rfl (Or.inl rfl)) (pss_cons (ps_set (i:=5) sc_l_tables.nd rfl (Or.inl rfl) (pe_op (ji op_modN) (L2.pvj 4) (L2.pvj 1)))
   (pss_cons (ps_set (i:=6) sc_l_tables.nd rfl (Or.inl rfl) (pe_op (ji op_modN) (pe_op (ji0 op_add) (pe_op (ji0 op_add) (L2.pvj 5) pe_int) (pe_op (ji op_modN) (pe_op (ji op_fdivW) (L2.pvj 4) pe_int) pe_int)) (L2.pvj 1)))
   (pss_cons (ps_set (i:=7) sc_l_tables.nd rfl (Or.inr rfl) (pe_op (ji0 op_sub) (pe_op (ji op_modN) (pe_op (ji op_fdivW) (L2.pvj 4) pe_int) pe_int) pe_int))
   (pss_one (ps_if (PW.pt (pw_or (pt_cmpR op_eq (L2.pvj 5) (L2.pvj 6) (nomark _)) (pw_or1 (pt_cmpR op_eq (pe_op (ji op_modN) (pe_op (ji op_fdivW) (L2.pvj 4) pe_int) pe_int) pe_int (nomark _))))) (pss_cons (ps_asg (pe_comp (own:=["_law_number_here"]) (caps:=[]) (blk_mk rfl) rfl (pi_list (pe_ix jix_list (L2.pvj 2) (L2.pvj 5) (fun _ _=>rfl))) (fun _ _ _ _=>pg_name (i:=0) (show (["_law_number_here"]:List Str).Nodup by decide +kernel) rfl (Or.inl rfl)) (fun _ _ _ _=>(pe_op (ji0 op_sub) pe_int (L2.pvj 0)))) (pg_sub (L2.pvj 2) (L2.pvj 5) jset))
    (pss_one (ps_for PassesOwn.never rfl (pi_list (L2.pvj 3)) (pg_name (i:=8) sc_l_tables.nd rfl (Or.inl rfl)) (pss_one (ps_asg (pe_op (ji0 op_sub) pe_int (pe_ix jix_list (L2.pvj 8) (L2.pvj 5) (fun _ _=>rfl))) (pg_sub (L2.pvj 8) (L2.pvj 5) jset)))))) (pss_cons (ps_asg (pe_comp (own:=["_law_number_here","_law_more"]) (caps:=[(7,"_law_by")]) (blk_cap (S:=defScope s_l_tables) (N:=["_law_cells","_law_many","_law_there","_law_back","_law_cell","_law_i","_law_j","_law_by","_law_row_here"]) rfl (by decide +kernel) rfl ⟨_,rfl⟩ rfl (by decide +kernel) (by decide +kernel)) rfl (pi_zipL rfl B.zip_ (pa_cons (pe_ix jix_list (L2.pvj 2) (L2.pvj 5) (fun _ _=>rfl)) (pa_cons (pe_ix jix_list (L2.pvj 2) (L2.pvj 6) (fun _ _=>rfl)) pa_nil))) (fun _ _ _ _=>show PG _ _ (gTup K 2 (gCons (gName 0) (gCons (gName 1) gNil))) from pg_tup (n:=2) rfl (pgs_cons (pg_name (i:=0) (show (["_law_number_here","_law_more","_law_by"]:List Str).Nodup by decide +kernel) rfl (Or.inl rfl)) (pgs_cons (pg_name (i:=1) (show (["_law_number_here","_law_more","_law_by"]:List Str).Nodup by decide +kernel) rfl (Or.inl rfl)) pgs_nil))) (fun _ _ _ _=>(pe_op (ji0 op_add) (L2.pvj 0) (pe_op (ji op_mulW) (L2.pvj 2) (L2.pvj 1))))) (pg_sub (L2.pvj 2) (L2.pvj 5) jset))
    (pss_one (ps_for PassesOwn.never rfl (pi_list (L2.pvj 3)) (pg_name (i:=8) sc_l_tables.nd rfl (Or.inl rfl)) (pss_one (ps_asg (pe_op (ji0 op_sub) (pe_ix jix_list (L2.pvj 8) (L2.pvj 6) (fun _ _=>rfl)) (pe_op (ji op_mulW) (L2.pvj 7) (pe_ix jix_list (L2.pvj 8) (L2.pvj 5) (fun _ _=>rfl)))) (pg_sub (L2.pvj 8) (L2.pvj 6) jset))))))))))))
  (pss_one (ps_ret (pe_tup (pa_cons (L2.pvj 2) (pa_cons (L2.pvj 3) pa_nil)))))))),?_⟩
 try dsimp only [cxOf,Cx.nox,Cx.wish]
 refine ⟨_,rfl,_,rfl,(by omega),(by omega),comp_range (lo:=0) (n:=((n:Nat):Int).toNat)
  (fun i ys σ H'=>TabV H' ys ((List.range i).map fun r=>(List.range n).map ((fun r k=>if r=k then (1:Int) else 0) r))/\(∃ o,σ=[o,some (.int (n:Int))])/\Same H H')
  ⟨.nil,⟨none,rfl⟩,Same.refl _⟩ (fun i ys σ H' hh=>by have:=Paired.length hh.1; rw [List.length_map,List.length_range] at this; omega) (Nat.le_of_lt (small1000 (by omega))) ?_ ?_⟩
 ·rintro i ys σ H' hi ⟨hz,⟨o1,rfl⟩,sm⟩
  refine ⟨_,rfl,_,rfl,(by omega),(by omega),comp_range (lo:=0) (n:=((n:Nat):Int).toNat)
   (fun j zs σ H2=>zs=((List.range j).map fun k=>if i=k then (1:Int) else 0).map V.int/\(∃ o,σ=[o,some (.int (0 + (i:Int)))])/\H2=H')
   ⟨rfl,⟨none,rfl⟩,rfl⟩ (fun j zs σ H2 ⟨e1,_⟩=>by rw [e1,List.length_map,List.length_map,List.length_range]; omega) (Nat.le_of_lt (small1000 (by omega))) ?_ ?_⟩
  ·rintro j zs σ H2 hj ⟨rfl,⟨o2,rfl⟩,rfl⟩
   refine ⟨_,rfl,_,rfl,rfl,.inr ⟨_,rfl,?_,⟨_,rfl⟩,rfl⟩⟩
   rw [List.range_succ,List.map_append,List.map_append,int_is]
   rfl
  rintro zs σ H2 ⟨rfl,⟨o2,rfl⟩,hZ⟩ c hc
  rw [hZ] at hc |-
  clear hZ
  rw [Int.toNat_natCast]
  have zc:=same_new hc (HO.lst (((List.range n).map fun k=>if i=k then (1:Int) else 0).map V.int))
  refine ⟨?_,⟨_,rfl⟩,sm.trans zc⟩
  rw [List.range_succ,List.map_append]
  exact paired_snoc (R:=LstI _) ⟨c,rfl,upd_same⟩ (TabV.same zc hz)
 rintro tv σ J1 ⟨htv,⟨o1,rfl⟩,y1⟩ ta hta
 rw [Int.toNat_natCast] at htv
 have SG1:=y1
 have htv1:=htv
 have yG2:=same_new hta (HO.lst tv)
 have eta:=upd_same (H:=J1) (a:=ta) (o:=HO.lst tv)
 generalize hhG2:upd J1 ta (HO.lst tv)=G2 at yG2 eta |-
 have eta2:=eta
 have SG2:=SG1.trans yG2
 replace htv:=(TabV.same yG2 htv)
 refine ⟨_,rfl,_,rfl,(by omega),(by omega),comp_range (lo:=0) (n:=((n:Nat):Int).toNat)
  (fun i ys σ H'=>(∃ as:List Addr,Paired (RowA H') as ((List.range i).map fun r=>(List.range n).map ((fun r k=>if r=k then (1:Int) else 0) r))/\ys=as.map V.ref/\as.Nodup/\∀ a∈as,G2 a=none)/\(∃ o,σ=[o,some (.int (n:Int))])/\Same G2 H')
  ⟨⟨[],.nil,rfl,List.nodup_nil,fun _ h=>nomatch h⟩,⟨none,rfl⟩,Same.refl _⟩ (fun i ys σ H' hh=>by obtain ⟨⟨as,h1,e1,_⟩,_⟩:=hh; have:=Paired.length h1; rw [List.length_map,List.length_range] at this; rw [e1,List.length_map]; omega) (Nat.le_of_lt (small1000 (by omega))) ?_ ?_⟩
 ·rintro i ys σ H' hi ⟨hz,⟨o1,rfl⟩,sm⟩
  refine ⟨_,rfl,_,rfl,(by omega),(by omega),comp_range (lo:=0) (n:=((n:Nat):Int).toNat)
   (fun j zs σ H2=>zs=((List.range j).map fun k=>if i=k then (1:Int) else 0).map V.int/\(∃ o,σ=[o,some (.int (0 + (i:Int)))])/\H2=H')
   ⟨rfl,⟨none,rfl⟩,rfl⟩ (fun j zs σ H2 ⟨e1,_⟩=>by rw [e1,List.length_map,List.length_map,List.length_range]; omega) (Nat.le_of_lt (small1000 (by omega))) ?_ ?_⟩
  ·rintro j zs σ H2 hj ⟨rfl,⟨o2,rfl⟩,rfl⟩
   refine ⟨_,rfl,_,rfl,rfl,.inr ⟨_,rfl,?_,⟨_,rfl⟩,rfl⟩⟩
   rw [List.range_succ,List.map_append,List.map_append,int_is]
   rfl
  rintro zs σ H2 ⟨rfl,⟨o2,rfl⟩,hZ⟩ c hc
  rw [hZ] at hc |-
  clear hZ
  rw [Int.toNat_natCast]
  have zc:=same_new hc (HO.lst (((List.range n).map fun k=>if i=k then (1:Int) else 0).map V.int))
  obtain ⟨as,hz,rfl,nd,fr⟩:=hz
  refine ⟨⟨as++[c],?_,?_,?_,?_⟩,⟨_,rfl⟩,sm.trans zc⟩
  ·rw [List.range_succ,List.map_append]
   exact paired_snoc (R:=RowA _) upd_same (rows_same zc hz)
  ·rw [List.map_append]
   rfl
  ·refine List.nodup_append.mpr ⟨nd,by simp,fun x hx y hy z=>?_⟩
   rw [List.mem_singleton.mp hy] at z
   obtain ⟨k,hk,e⟩:=List.mem_iff_getElem.mp hx
   obtain ⟨r,_,q⟩:=paired_get hz (List.getElem?_eq_getElem hk)
   rw [e,z] at q
   have q2:H' c=some (.lst (r.map V.int)):=q
   rw [hc] at q2
   cases q2
  ·intro a ha
   rcases List.mem_append.mp ha with ha | ha
   ·exact fr a ha
   ·rw [List.mem_singleton.mp ha]
    exact sm.free hc
 rintro bv σ J3 ⟨⟨as,has,rfl,nd,fr⟩,⟨o1,rfl⟩,y3⟩ ba hba
 rw [Int.toNat_natCast] at has
 have SG3:=SG2.trans y3
 replace htv:=(TabV.same y3 htv)
 replace eta:=(y3 _ _ eta)
 have y4:=same_new hba (HO.lst (as.map V.ref))
 have eba:=upd_same (H:=J3) (a:=ba) (o:=HO.lst (as.map V.ref))
 generalize hhJ4:upd J3 ba (HO.lst (as.map V.ref))=J4 at y4 eba |-
 have nba:ba∉ta :: as:=fun z=>by
  rcases List.mem_cons.mp z with z | z
  ·rw [z,eta] at hba; cases hba
  ·obtain ⟨k,hk,e⟩:=List.mem_iff_getElem.mp z
   obtain ⟨r,_,q⟩:=paired_get has (List.getElem?_eq_getElem hk)
   rw [e] at q
   have q:J3 ba=_:=q
   rw [hba] at q
   cases q
 have nta:ta∉as:=fun z=>by
  have:=fr ta z
  rw [eta2] at this
  cases this
 have TS0:TbS H J4 ta ba as n (fun r k=>if r=k then (1:Int) else 0) (fun r k=>if r=k then (1:Int) else 0):=by
  refine ⟨fun x o e=>?_,⟨tv,y4 _ _ eta,?_⟩,(hide_at nba).trans eba,rows_same y4 has,List.nodup_cons.mpr ⟨nta,nd⟩⟩
  ·rw [hide_at (fun z=>by
    rcases List.mem_cons.mp z with z | z
    ·have:=y1 _ _ e
     rw [z,hta] at this
     cases this
    ·have:=fr x z
     rw [SG2 _ _ e] at this
     cases this)]
   exact y4 _ _ (SG3 _ _ e)
  ·refine Paired.mapP htv1 fun v r ⟨a,e1,e2⟩=>⟨a,e1,?_⟩
   have n1:a≠ta:=fun z=>by rw [z,hta] at e2; cases e2
   rw [hide_at (fun z=>by
    rcases List.mem_cons.mp z with z | z
    ·exact n1 z
    ·have:=fr a z
     rw [yG2 _ _ e2] at this
     cases this)]
   exact y4 _ _ (y3 _ _ (yG2 _ _ e2))
 refine ⟨_,rfl,ca,rfl,⟨_,SqL.of (hide_sub _ _ (TS0.same _ _ hca))⟩,for_list (K:=K) (a:=ca) (xs:=cs.map V.int)
  (fun k σ H'=>∃ (t b:Nat->Nat->Int) (o4 o5 o6 o7 o8:Option V),σ=[some (.ref ca),some (.int (n:Int)),some (.ref ta),some (.ref ba),o4,o5,o6,o7,o8]/\TbS H H' ta ba as n t b/\IsInv n t b/\IsInv n b t/\∀ r c,r < n->c < n->Bd (1 + 4 * k) (t r c)/\Bd (1 + 4 * k) (b r c))
  ⟨_,_,none,none,none,none,none,rfl,TS0,inv_unit n,inv_unit n,fun r c _ _=>?b0⟩ (fun k σ H' _ ⟨_,_,_,_,_,_,_,_,x,_⟩=>SqL.of (hide_sub _ _ (x.same _ _ hca))) ?_ ?_⟩
 case b0=>
  have:Bd 1 (if r=c then (1:Int) else 0):=by
   by_cases e:r=c
   ·rw [if_pos e]; exact Bd.lit
   ·rw [if_neg e]; exact Bd.lit
  exact ⟨this,this⟩
 ·rintro k x σ H1 hkx ⟨t,b,o4,o5,o6,o7,o8,rfl,TS,I1,I2,BD⟩
  obtain ⟨z,hz,rfl⟩:=ints_get hkx
  have k9:k < cs.length:=(List.getElem?_eq_some_iff.mp hz).1
  have nz:(n:Int)≠0:=by omega
  have b3:Bd 10 (3:Int):=Bd.lit
  have b6:Bd 10 (6:Int):=Bd.lit
  have b42:Bd 10 (42:Int):=Bd.lit
  have i0:=Int.fmod_nonneg_of_pos z (show (0:Int) < (n:Int) by omega)
  have i1:=Int.fmod_lt_of_pos z (show (0:Int) < (n:Int) by omega)
  refine ⟨_,rfl,_,rfl,_,_,rfl,rfl,nz,?_⟩
  refine ⟨_,rfl,_,_,rfl,rfl,_,rfl,_,_,rfl,rfl,⟨by decide,b3.mono (by decide)⟩,_,_,rfl,rfl,(show (2:Int)≠0 by decide),_,_,rfl,rfl,_,rfl,_,_,rfl,rfl,nz,?_⟩
  refine ⟨_,rfl,_,_,rfl,rfl,⟨by decide,b6.mono (by decide)⟩,_,_,rfl,rfl,(show (7:Int)≠0 by decide),_,_,rfl,rfl,?_⟩
  have j0:=Int.fmod_nonneg_of_pos (z.fmod (n:Int) + 1 + (z.fdiv 3).fmod 2) (show (0:Int) < (n:Int) by omega)
  have j1:=Int.fmod_lt_of_pos (z.fmod (n:Int) + 1 + (z.fdiv 3).fmod 2) (show (0:Int) < (n:Int) by omega)
  have y0:=Int.fmod_nonneg_of_pos (z.fdiv 6) (show (0:Int) < 7 by decide)
  have y1':=Int.fmod_lt_of_pos (z.fdiv 6) (show (0:Int) < 7 by decide)
  generalize (z.fmod (n:Int) + 1 + (z.fdiv 3).fmod 2).fmod (n:Int)=jv at j0 j1 |-
  generalize z.fmod (n:Int)=iv at i0 i1 |-
  generalize hby:(z.fdiv 6).fmod 7 - 3=by' at |-
  have bby:Bd 2 by':=by
   show by'.natAbs < 2 ^ 2
   omega
  obtain ⟨i,rfl⟩:=Int.eq_ofNat_of_zero_le i0
  obtain ⟨j,rfl⟩:=Int.eq_ofNat_of_zero_le j0
  have hi:i < n:=by omega
  have hj:j < n:=by omega
  obtain ⟨tv1,et1,ht1⟩:=TS.hta
  have ltv1:tv1.length=n:=(Paired.length ht1).trans (tabF_len _ _)
  have las:as.length=n:=(Paired.length TS.hb).trans (tabF_len _ _)
  obtain ⟨ri,ai,eri,_⟩:=tab_at (i:=i) ht1 (by rw [tabF_len]; exact hi)
  obtain ⟨rj,aj,erj,_⟩:=tab_at (i:=j) ht1 (by rw [tabF_len]; exact hj)
  rw [tabF_get hi] at eri
  rw [tabF_get hj] at erj
  have eri':=hide_sub _ _ eri
  have erj':=hide_sub _ _ erj
  refine ⟨_,rfl,_,rfl,rfl,_,rfl,?_⟩
  by_cases ce:(i:Int)=(j:Int)
  ·refine iteB1 (dec_yes ce) ?_
   refine ⟨_,rfl,_,rfl,ta,_,_,_,rfl,rfl,SqL.of et1,ai,ri,rfl,⟨_,SqL.of eri'⟩,comp_list (K:=K) (a:=ri) (xs:=((List.range n).map (t i)).map V.int) (fun k ys σ H'=>ys=((((List.range n).map (t i)).take k).map fun x=>0 - x).map V.int/\(∃ o,σ=[o])/\H'=H1)
    ⟨rfl,⟨none,rfl⟩,rfl⟩ (fun k ys σ H' hk ⟨e1,_,e3⟩=>⟨by rw [e3]; exact SqL.of eri',by rw [e1,List.length_map,List.length_map,List.length_take]; exact Nat.min_le_left _ _⟩) (by rw [List.length_map,List.length_map,List.length_range]; exact Nat.le_of_lt (small1000 (by omega))) ?_ ?_⟩
   ·rintro k2 x ys σ H' hk ⟨rfl,⟨o1,rfl⟩,rfl⟩
    obtain ⟨x0,hx0,rfl⟩:=ints_get hk
    refine ⟨_,rfl,_,_,rfl,rfl,?_,⟨_,rfl⟩,rfl⟩
    rw [take_snoc hx0,List.map_append,List.map_append]
    rfl
   rintro ys σ H3 ⟨rfl,⟨o1,rfl⟩,hZ⟩ nl hnl
   subst hZ
   rw [show ((((List.range n).map (t i)).take (((List.range n).map (t i)).map V.int).length).map fun x=>0 - x).map V.int=((List.range n).map (negT i t i)).map V.int from (by rw [List.length_map,List.take_length]; refine congrArg (List.map V.int) ?_; rw [List.map_map]; refine map_range_congr fun c _=>?_; show 0 - t i c=negT i t i c; unfold negT; rw [if_pos rfl])]
   have zn:=same_new hnl (HO.lst (((List.range n).map (negT i t i)).map V.int))
   have TS1:=TS.grow (zn)
   have enl:=upd_same (H:=H3) (a:=nl) (o:=HO.lst (((List.range n).map (negT i t i)).map V.int))
   have eta1:=zn _ _ ((Same.refl _) _ _ et1)
   have ht2:=TabV.same (hide_same (B:=ta :: as) (zn)) ht1
   have nnl:nl∉ta :: as:=fun w=>by
    obtain ⟨o,e⟩:=TS.in_ nl w
    rw [(Same.refl _) _ _ e] at hnl
    cases hnl
   generalize hhN:upd H3 nl (HO.lst (((List.range n).map (negT i t i)).map V.int))=N at zn TS1 enl eta1 ht2 |-
   refine ⟨_,rfl,_,rfl,ta,_,_,i,rfl,rfl,eta1,ixN_nat (by omega),?_⟩
   have TS2:=TS1.putT (t':=negT i t) (tv:=tv1.set i (.ref nl)) (by
    rw [<- tabF_set (f:=t) (g:=negT i t) (r:=i) rfl (fun k hk=>funext fun c=>by unfold negT; rw [if_neg hk])]
    exact paired_set (R:=LstI _) ⟨nl,rfl,(hide_at nnl).trans enl⟩ i ht2)
   generalize hhN2:upd N ta (HO.lst (tv1.set i (V.ref nl)))=N2 at TS2 |-
   refine ⟨_,rfl,ba,rfl,⟨_,SqL.of (hide_sub _ _ TS2.hba)⟩,for_list (K:=K) (a:=ba) (xs:=as.map V.ref)
    (fun r σ H'=>∃ o8:Option V,σ=[some (.ref ca),some (.int (n:Int)),some (.ref ta),some (.ref ba),some (.int z),some (.int (i:Int)),some (.int (j:Int)),some (.int by'),o8]/\TbS H H' ta ba as n (negT i t) (mixF r b (negB i b)))
    ⟨o8,rfl,by
     rw [show mixF 0 b (negB i b)=b from funext fun k=>if_neg (by omega)]
     exact TS2⟩ (fun r σ H' _ ⟨_,_,x⟩=>SqL.of (hide_sub _ _ x.hba)) ?_ ?_⟩
   ·rintro r x σ H4 hrx ⟨o8,rfl,TS4⟩
    rw [List.getElem?_map] at hrx
    cases hr:as[r]? with
    | none=>rw [hr] at hrx; cases hrx
    | some ra=>
     rw [hr] at hrx
     cases hrx
     have rn:r < n:=by
      have:=(List.getElem?_eq_some_iff.mp hr).1
      omega
     obtain ⟨row,hrow,era⟩:=paired_get TS4.hb hr
     have erow:row=(List.range n).map (b r):=by
      have e:=tabF_get (t:=mixF r b (negB i b)) rn
      rw [List.getD_eq_getElem?_getD,hrow] at e
      rw [show mixF r b (negB i b) r=b r from if_neg (by omega)] at e
      exact e
     subst erow
     have era:H4 ra=some (.lst (((List.range n).map (b r)).map V.int)):=era
     have ari:atI (((List.range n).map (b r)).map V.int) (i:Int)=some (.int (b r i)):=by
      rw [at_int (by rw [List.length_map,List.length_range]; exact hi),getD_range hi]
     have arj:atI (((List.range n).map (b r)).map V.int) (j:Int)=some (.int (b r j)):=by
      rw [at_int (by rw [List.length_map,List.length_range]; exact hj),getD_range hj]
     refine ⟨_,rfl,_,rfl,ra,_,_,_,rfl,rfl,SqL.of era,ari,_,_,rfl,rfl,?_⟩
     refine ⟨_,rfl,_,rfl,ra,_,_,i,rfl,rfl,era,ixN_nat (by rw [List.length_map,List.length_map,List.length_range]; exact hi),?_⟩
     refine ⟨some (.ref ra),rfl,?_⟩
     rw [show (((List.range n).map (b r)).map V.int).set i (V.int (0 - b r i))=(((List.range n).map (negB i b r))).map V.int from by
      rw [<- List.map_set,set_range]
      rfl]
     refine TS4.putB hr (b':=mixF (r + 1) b (negB i b)) ?_ (fun k hk=>?_)
     ·rw [show mixF (r + 1) b (negB i b) r=negB i b r from if_pos (by omega)]
     ·unfold mixF
      by_cases e:k < r
      ·rw [if_pos e,if_pos (by omega)]
      ·rw [if_neg e,if_neg (by omega)]
   rintro σ H5 ⟨o8,rfl,TS5⟩
   refine ⟨_,_,_,_,_,_,_,rfl,⟨TS5.same,TS5.hta,TS5.hba,?_,TS5.nd⟩,inv_neg I1 hi,inv_neg' I2,fun r c hr hc=>?_⟩
   ·rw [<- tabF_congr (f:=mixF (as.map V.ref).length b (negB i b)) (g:=negB i b) (fun r hr=>if_pos (by rw [List.length_map]; omega))]
    exact TS5.hb
   obtain ⟨p1,p2⟩:=BD r c hr hc
   obtain ⟨q1,_⟩:=BD i c hi hc
   obtain ⟨_,q2⟩:=BD r i hr hi
   constructor
   ·unfold negT
    by_cases e:r=i
    ·rw [if_pos e,Int.zero_sub]; exact q1.neg.mono (by omega)
    ·rw [if_neg e]; exact p1.mono (by omega)
   ·unfold negB
    by_cases e:c=i
    ·rw [if_pos e,Int.zero_sub]; exact q2.neg.mono (by omega)
    ·rw [if_neg e]; exact p2.mono (by omega)
  have ne:i≠j:=fun e=>ce (by rw [e])
  refine iteB0 (dec_no ce) ?_
  refine ⟨_,rfl,_,_,rfl,rfl,⟨by decide,b42.mono (by decide)⟩,_,_,rfl,rfl,(show (4:Int)≠0 by decide),rfl,_,rfl,?_⟩
  refine ite2 (fun cc=>?_) (fun cc=>?_)
  ·clear cc
   refine ⟨_,rfl,_,rfl,ta,_,_,_,rfl,rfl,SqL.of et1,ai,ri,rfl,⟨_,SqL.of eri'⟩,comp_list (K:=K) (a:=ri) (xs:=((List.range n).map (t i)).map V.int) (fun k ys σ H'=>ys=((((List.range n).map (t i)).take k).map fun x=>0 - x).map V.int/\(∃ o,σ=[o])/\H'=H1)
    ⟨rfl,⟨none,rfl⟩,rfl⟩ (fun k ys σ H' hk ⟨e1,_,e3⟩=>⟨by rw [e3]; exact SqL.of eri',by rw [e1,List.length_map,List.length_map,List.length_take]; exact Nat.min_le_left _ _⟩) (by rw [List.length_map,List.length_map,List.length_range]; exact Nat.le_of_lt (small1000 (by omega))) ?_ ?_⟩
   ·rintro k2 x ys σ H' hk ⟨rfl,⟨o1,rfl⟩,rfl⟩
    obtain ⟨x0,hx0,rfl⟩:=ints_get hk
    refine ⟨_,rfl,_,_,rfl,rfl,?_,⟨_,rfl⟩,rfl⟩
    rw [take_snoc hx0,List.map_append,List.map_append]
    rfl
   rintro ys σ H3 ⟨rfl,⟨o1,rfl⟩,hZ⟩ nl hnl
   subst hZ
   rw [show ((((List.range n).map (t i)).take (((List.range n).map (t i)).map V.int).length).map fun x=>0 - x).map V.int=((List.range n).map (negT i t i)).map V.int from (by rw [List.length_map,List.take_length]; refine congrArg (List.map V.int) ?_; rw [List.map_map]; refine map_range_congr fun c _=>?_; show 0 - t i c=negT i t i c; unfold negT; rw [if_pos rfl])]
   have zn:=same_new hnl (HO.lst (((List.range n).map (negT i t i)).map V.int))
   have TS1:=TS.grow (zn)
   have enl:=upd_same (H:=H3) (a:=nl) (o:=HO.lst (((List.range n).map (negT i t i)).map V.int))
   have eta1:=zn _ _ ((Same.refl _) _ _ et1)
   have ht2:=TabV.same (hide_same (B:=ta :: as) (zn)) ht1
   have nnl:nl∉ta :: as:=fun w=>by
    obtain ⟨o,e⟩:=TS.in_ nl w
    rw [(Same.refl _) _ _ e] at hnl
    cases hnl
   generalize hhN:upd H3 nl (HO.lst (((List.range n).map (negT i t i)).map V.int))=N at zn TS1 enl eta1 ht2 |-
   refine ⟨_,rfl,_,rfl,ta,_,_,i,rfl,rfl,eta1,ixN_nat (by omega),?_⟩
   have TS2:=TS1.putT (t':=negT i t) (tv:=tv1.set i (.ref nl)) (by
    rw [<- tabF_set (f:=t) (g:=negT i t) (r:=i) rfl (fun k hk=>funext fun c=>by unfold negT; rw [if_neg hk])]
    exact paired_set (R:=LstI _) ⟨nl,rfl,(hide_at nnl).trans enl⟩ i ht2)
   generalize hhN2:upd N ta (HO.lst (tv1.set i (V.ref nl)))=N2 at TS2 |-
   refine ⟨_,rfl,ba,rfl,⟨_,SqL.of (hide_sub _ _ TS2.hba)⟩,for_list (K:=K) (a:=ba) (xs:=as.map V.ref)
    (fun r σ H'=>∃ o8:Option V,σ=[some (.ref ca),some (.int (n:Int)),some (.ref ta),some (.ref ba),some (.int z),some (.int (i:Int)),some (.int (j:Int)),some (.int by'),o8]/\TbS H H' ta ba as n (negT i t) (mixF r b (negB i b)))
    ⟨o8,rfl,by
     rw [show mixF 0 b (negB i b)=b from funext fun k=>if_neg (by omega)]
     exact TS2⟩ (fun r σ H' _ ⟨_,_,x⟩=>SqL.of (hide_sub _ _ x.hba)) ?_ ?_⟩
   ·rintro r x σ H4 hrx ⟨o8,rfl,TS4⟩
    rw [List.getElem?_map] at hrx
    cases hr:as[r]? with
    | none=>rw [hr] at hrx; cases hrx
    | some ra=>
     rw [hr] at hrx
     cases hrx
     have rn:r < n:=by
      have:=(List.getElem?_eq_some_iff.mp hr).1
      omega
     obtain ⟨row,hrow,era⟩:=paired_get TS4.hb hr
     have erow:row=(List.range n).map (b r):=by
      have e:=tabF_get (t:=mixF r b (negB i b)) rn
      rw [List.getD_eq_getElem?_getD,hrow] at e
      rw [show mixF r b (negB i b) r=b r from if_neg (by omega)] at e
      exact e
     subst erow
     have era:H4 ra=some (.lst (((List.range n).map (b r)).map V.int)):=era
     have ari:atI (((List.range n).map (b r)).map V.int) (i:Int)=some (.int (b r i)):=by
      rw [at_int (by rw [List.length_map,List.length_range]; exact hi),getD_range hi]
     have arj:atI (((List.range n).map (b r)).map V.int) (j:Int)=some (.int (b r j)):=by
      rw [at_int (by rw [List.length_map,List.length_range]; exact hj),getD_range hj]
     refine ⟨_,rfl,_,rfl,ra,_,_,_,rfl,rfl,SqL.of era,ari,_,_,rfl,rfl,?_⟩
     refine ⟨_,rfl,_,rfl,ra,_,_,i,rfl,rfl,era,ixN_nat (by rw [List.length_map,List.length_map,List.length_range]; exact hi),?_⟩
     refine ⟨some (.ref ra),rfl,?_⟩
     rw [show (((List.range n).map (b r)).map V.int).set i (V.int (0 - b r i))=(((List.range n).map (negB i b r))).map V.int from by
      rw [<- List.map_set,set_range]
      rfl]
     refine TS4.putB hr (b':=mixF (r + 1) b (negB i b)) ?_ (fun k hk=>?_)
     ·rw [show mixF (r + 1) b (negB i b) r=negB i b r from if_pos (by omega)]
     ·unfold mixF
      by_cases e:k < r
      ·rw [if_pos e,if_pos (by omega)]
      ·rw [if_neg e,if_neg (by omega)]
   rintro σ H5 ⟨o8,rfl,TS5⟩
   refine ⟨_,_,_,_,_,_,_,rfl,⟨TS5.same,TS5.hta,TS5.hba,?_,TS5.nd⟩,inv_neg I1 hi,inv_neg' I2,fun r c hr hc=>?_⟩
   ·rw [<- tabF_congr (f:=mixF (as.map V.ref).length b (negB i b)) (g:=negB i b) (fun r hr=>if_pos (by rw [List.length_map]; omega))]
    exact TS5.hb
   obtain ⟨p1,p2⟩:=BD r c hr hc
   obtain ⟨q1,_⟩:=BD i c hi hc
   obtain ⟨_,q2⟩:=BD r i hr hi
   constructor
   ·unfold negT
    by_cases e:r=i
    ·rw [if_pos e,Int.zero_sub]; exact q1.neg.mono (by omega)
    ·rw [if_neg e]; exact p1.mono (by omega)
   ·unfold negB
    by_cases e:c=i
    ·rw [if_pos e,Int.zero_sub]; exact q2.neg.mono (by omega)
    ·rw [if_neg e]; exact p2.mono (by omega)
  ·clear cc
   have bi:∀ x∈(List.range n).map (t j),Bd 40 x:=fun x hx=>by
    obtain ⟨c,hc,rfl⟩:=List.mem_map.mp hx
    exact (BD j c hj (List.mem_range.mp hc)).1.mono (by omega)
   refine ⟨_,rfl,_,rfl,ta,_,_,_,rfl,rfl,SqL.of et1,ai,_,rfl,_,rfl,ta,_,_,_,rfl,rfl,SqL.of et1,aj,ri,rj,rfl,⟨_,SqL.of eri'⟩,⟨_,SqL.of erj'⟩,comp_zipL (K:=K) (a:=ri) (b:=rj) (xs:=((List.range n).map (t i)).map V.int) (ys:=((List.range n).map (t j)).map V.int)
    (fun k zs σ H'=>zs=(((((List.range n).map (t i)).zip ((List.range n).map (t j))).take k).map fun q=>q.1 + by' * q.2).map V.int/\(∃ o1 o2,σ=[o1,o2,some (.int by')])/\Same H1 H')
    ⟨rfl,⟨none,none,rfl⟩,Same.refl _⟩ (fun k zs σ H' hk ⟨e1,_,sm⟩=>⟨SqL.of (sm _ _ eri'),SqL.of (sm _ _ erj'),by rw [e1,List.length_map,List.length_map,List.length_take]; exact Nat.min_le_left _ _⟩) (by rw [List.length_map,List.length_map,List.length_map,List.length_map]; exact Nat.le_refl _) (by rw [List.length_map,List.length_map,List.length_range]; exact Nat.le_of_lt (small1000 (by omega))) ?_ ?_⟩
   ·rintro k2 x y TT zs σ H' hx hy hT ⟨rfl,⟨o1,o2,rfl⟩,sm⟩
    obtain ⟨x0,hx0,rfl⟩:=ints_get hx
    obtain ⟨y0,hy0,rfl⟩:=ints_get hy
    have s2:=sm.trans (same_new hT (HO.tup [V.int x0,V.int y0]))
    refine ⟨TT,_,rfl,SqT.of upd_same,rfl,_,_,rfl,_,_,rfl,rfl,?_⟩
    refine ⟨_,rfl,_,rfl,_,rfl,_,_,rfl,rfl,⟨bby.mono (by decide),(bi _ (List.mem_of_getElem? hy0)).mono (by decide)⟩,_,_,rfl,rfl,?_,⟨_,_,rfl⟩,s2⟩
    have hz2:(((List.range n).map (t i)).zip ((List.range n).map (t j)))[k2]? = some (x0,y0):=by rw [List.getElem?_zip_eq_some]; exact ⟨hx0,hy0⟩
    rw [take_snoc hz2,List.map_append,List.map_append]
    rfl
   rintro zs σ H3 ⟨rfl,⟨o1,o2,rfl⟩,smz⟩ nl hnl
   rw [show (((((List.range n).map (t i)).zip ((List.range n).map (t j))).take (((List.range n).map (t i)).map V.int).length).map fun q=>q.1 + by' * q.2).map V.int=((List.range n).map (addT i j by' t i)).map V.int from (by refine congrArg (List.map V.int) ?_; rw [zip_self,take_all (by rw [List.length_map,List.length_map,List.length_map]; exact Nat.le_refl _),List.map_map]; refine map_range_congr fun c _=>?_; show t i c + by' * t j c=addT i j by' t i c; unfold addT; rw [if_pos rfl])]
   have zn:=same_new hnl (HO.lst (((List.range n).map (addT i j by' t i)).map V.int))
   have TS1:=TS.grow (smz.trans zn)
   have enl:=upd_same (H:=H3) (a:=nl) (o:=HO.lst (((List.range n).map (addT i j by' t i)).map V.int))
   have eta1:=zn _ _ (smz _ _ et1)
   have ht2:=TabV.same (hide_same (B:=ta :: as) (smz.trans zn)) ht1
   have nnl:nl∉ta :: as:=fun w=>by
    obtain ⟨o,e⟩:=TS.in_ nl w
    rw [smz _ _ e] at hnl
    cases hnl
   generalize hhN:upd H3 nl (HO.lst (((List.range n).map (addT i j by' t i)).map V.int))=N at zn TS1 enl eta1 ht2 |-
   refine ⟨_,rfl,_,rfl,ta,_,_,i,rfl,rfl,eta1,ixN_nat (by omega),?_⟩
   have TS2:=TS1.putT (t':=addT i j by' t) (tv:=tv1.set i (.ref nl)) (by
    rw [<- tabF_set (f:=t) (g:=addT i j by' t) (r:=i) rfl (fun k hk=>funext fun c=>by unfold addT; rw [if_neg hk])]
    exact paired_set (R:=LstI _) ⟨nl,rfl,(hide_at nnl).trans enl⟩ i ht2)
   generalize hhN2:upd N ta (HO.lst (tv1.set i (V.ref nl)))=N2 at TS2 |-
   refine ⟨_,rfl,ba,rfl,⟨_,SqL.of (hide_sub _ _ TS2.hba)⟩,for_list (K:=K) (a:=ba) (xs:=as.map V.ref)
    (fun r σ H'=>∃ o8:Option V,σ=[some (.ref ca),some (.int (n:Int)),some (.ref ta),some (.ref ba),some (.int z),some (.int (i:Int)),some (.int (j:Int)),some (.int by'),o8]/\TbS H H' ta ba as n (addT i j by' t) (mixF r b (addB i j by' b)))
    ⟨o8,rfl,by
     rw [show mixF 0 b (addB i j by' b)=b from funext fun k=>if_neg (by omega)]
     exact TS2⟩ (fun r σ H' _ ⟨_,_,x⟩=>SqL.of (hide_sub _ _ x.hba)) ?_ ?_⟩
   ·rintro r x σ H4 hrx ⟨o8,rfl,TS4⟩
    rw [List.getElem?_map] at hrx
    cases hr:as[r]? with
    | none=>rw [hr] at hrx; cases hrx
    | some ra=>
     rw [hr] at hrx
     cases hrx
     have rn:r < n:=by
      have:=(List.getElem?_eq_some_iff.mp hr).1
      omega
     obtain ⟨row,hrow,era⟩:=paired_get TS4.hb hr
     have erow:row=(List.range n).map (b r):=by
      have e:=tabF_get (t:=mixF r b (addB i j by' b)) rn
      rw [List.getD_eq_getElem?_getD,hrow] at e
      rw [show mixF r b (addB i j by' b) r=b r from if_neg (by omega)] at e
      exact e
     subst erow
     have era:H4 ra=some (.lst (((List.range n).map (b r)).map V.int)):=era
     have ari:atI (((List.range n).map (b r)).map V.int) (i:Int)=some (.int (b r i)):=by
      rw [at_int (by rw [List.length_map,List.length_range]; exact hi),getD_range hi]
     have arj:atI (((List.range n).map (b r)).map V.int) (j:Int)=some (.int (b r j)):=by
      rw [at_int (by rw [List.length_map,List.length_range]; exact hj),getD_range hj]
     have bi:=(BD r i rn hi).2
     refine ⟨_,rfl,_,rfl,ra,_,_,_,rfl,rfl,SqL.of era,arj,_,rfl,_,rfl,_,rfl,ra,_,_,_,rfl,rfl,SqL.of era,ari,_,_,rfl,rfl,⟨bby.mono (by decide),bi.mono (by omega)⟩,_,_,rfl,rfl,?_⟩
     refine ⟨_,rfl,_,rfl,ra,_,_,j,rfl,rfl,era,ixN_nat (by rw [List.length_map,List.length_map,List.length_range]; exact hj),?_⟩
     refine ⟨some (.ref ra),rfl,?_⟩
     rw [show (((List.range n).map (b r)).map V.int).set j (V.int (b r j - by' * b r i))=(((List.range n).map (addB i j by' b r))).map V.int from by
      rw [<- List.map_set,set_range]
      rfl]
     refine TS4.putB hr (b':=mixF (r + 1) b (addB i j by' b)) ?_ (fun k hk=>?_)
     ·rw [show mixF (r + 1) b (addB i j by' b) r=addB i j by' b r from if_pos (by omega)]
     ·unfold mixF
      by_cases e:k < r
      ·rw [if_pos e,if_pos (by omega)]
      ·rw [if_neg e,if_neg (by omega)]
   rintro σ H5 ⟨o8,rfl,TS5⟩
   refine ⟨_,_,_,_,_,_,_,rfl,⟨TS5.same,TS5.hta,TS5.hba,?_,TS5.nd⟩,inv_add I1 hi hj ne,inv_add' I2 hi hj ne,fun r c hr hc=>?_⟩
   ·rw [<- tabF_congr (f:=mixF (as.map V.ref).length b (addB i j by' b)) (g:=addB i j by' b) (fun r hr=>if_pos (by rw [List.length_map]; omega))]
    exact TS5.hb
   obtain ⟨p1,p2⟩:=BD r c hr hc
   obtain ⟨q1,_⟩:=BD i c hi hc
   obtain ⟨q3,_⟩:=BD j c hj hc
   obtain ⟨_,q2⟩:=BD r j hr hj
   obtain ⟨_,q4⟩:=BD r i hr hi
   constructor
   ·unfold addT
    by_cases e:r=i
    ·rw [if_pos e]; exact ((q1.mono (show _<=2 + (1 + 4 * k) by omega)).add (bby.mul q3)).mono (by omega)
    ·rw [if_neg e]; exact p1.mono (by omega)
   ·unfold addB
    by_cases e:c=j
    ·rw [if_pos e]; exact ((q2.mono (show _<=2 + (1 + 4 * k) by omega)).sub (bby.mul q4)).mono (by omega)
    ·rw [if_neg e]; exact p2.mono (by omega)
 rintro σ H9 ⟨t,b,o4,o5,o6,o7,o8,rfl,TS,I1,I2,BD⟩
 obtain ⟨tv9,et9,ht9⟩:=TS.hta
 refine ⟨_,rfl,_,rfl,(by show 2<=sizeLine; decide),fun tt htt=>?_⟩
 have z9:=same_new htt (HO.tup [V.ref ta,V.ref ba])
 have bt9:TabV H9 (as.map V.ref) (tabF n b):=rows_tab TS.hb
 refine q tt ta ba tv9 (as.map V.ref) t b _ ((TS.same.trans hide_sub).trans z9) upd_same (z9 _ _ et9) (TabV.same (hide_sub.trans z9) ht9) (z9 _ _ (hide_sub _ _ TS.hba)) (TabV.same z9 bt9) I1 I2 fun r c hr hc=>?_
 obtain ⟨p1,p2⟩:=BD r c hr hc
 rw [List.length_map] at p1 p2
 exact ⟨p1.mono (by omega),p2.mono (by omega)⟩
end
theorem split_last {α β:Type} {R:α->β->Prop} {xs:List α} {ys:List β} (h:Paired R xs ys):1<=xs.length->∃ xs0 x ys0 y,xs=xs0++[x]/\ys=ys0++[y]/\Paired R xs0 ys0/\R x y:=by
 induction h with
 | nil=>intro h; simp at h
 | @cons a b as bs h t ih=>
  intro _
  cases t with
  | nil=>exact ⟨[],a,[],b,rfl,rfl,.nil,h⟩
  | cons h2 t2=>
   obtain ⟨x0,x,y0,y,e1,e2,p,r⟩:=ih (by simp)
   exact ⟨a :: x0,x,b :: y0,y,by rw [e1]; rfl,by rw [e2]; rfl,.cons h p,r⟩
theorem cut_one (x:V) (xs:List V):cutV (x :: xs) (some 1) none=xs:=by
 have e:HT.sIx (x :: xs).length 0 (some 1)=1:=by
  unfold HT.sIx
  simp
 unfold cutV
 rw [e]
 show (List.take (HT.sIx (x :: xs).length (x :: xs).length none) (x :: xs)).drop 1=xs
 rw [show HT.sIx (x :: xs).length (x :: xs).length none=(x :: xs).length from rfl,List.take_length]
 rfl
noncomputable def WrV (n:Nat) (H:Hp) (x:V):Prop:=∃ (r:Addr) (v1 v2:V),x=.ref r/\H r=some (.tup [v1,v2])/\WrongV H v1 v2 n
noncomputable def AllW (n:Nat) (H:Hp) (xs:List V):Prop:=∀ x∈xs,WrV n H x
theorem WrV.same {n:Nat} {H H':Hp} {x:V} (s:Same H H') (h:WrV n H x):WrV n H' x:=
 let ⟨r,v1,v2,e,h1,h2⟩:=h
 ⟨r,v1,v2,e,s _ _ h1,h2.same s⟩
theorem AllW.same {n:Nat} {H H':Hp} {xs:List V} (s:Same H H') (h:AllW n H xs):AllW n H' xs:=fun x m=>(h x m).same s
theorem AllW.nil {n:Nat} {H:Hp}:AllW n H []:=fun _ h=>nomatch h
theorem AllW.cons {n:Nat} {H:Hp} {x:V} {xs:List V} (h:WrV n H x) (t:AllW n H xs):AllW n H (x :: xs):=fun y m=>by
 rcases List.mem_cons.mp m with rfl | m
 ·exact h
 ·exact t y m
theorem AllW.app {n:Nat} {H:Hp} {xs ys:List V} (h:AllW n H xs) (t:AllW n H ys):AllW n H (xs++ys):=fun y m=>by
 rcases List.mem_append.mp m with m | m
 ·exact h y m
 ·exact t y m
theorem wr1 {n:Nat} {H:Hp} {r:Addr} {v1 v2:V} {d1 d2:DK} (e:H r=some (.tup [v1,v2])) (h1:DV H v1 d1) (h2:DV H v2 d2) (f1:fewD2 d1) (f2:fewD2 d2) (no:tabD (n:Int) (n:Int) d1=false):WrV n H (.ref r):=⟨r,v1,v2,rfl,e,.inl ⟨d1,d2,h1,h2,f1,f2,by rw [no]; rfl⟩⟩
theorem wr2 {n:Nat} {H:Hp} {r:Addr} {v1 v2:V} {d1 d2:DK} (e:H r=some (.tup [v1,v2])) (h1:DV H v1 d1) (h2:DV H v2 d2) (f1:fewD2 d1) (f2:fewD2 d2) (no:tabD (n:Int) (n:Int) d2=false):WrV n H (.ref r):=⟨r,v1,v2,rfl,e,.inl ⟨d1,d2,h1,h2,f1,f2,by rw [no,Bool.and_false]⟩⟩
theorem tabD_len {ds:List DK} {h w:Int} (e:(ds.length:Int)≠h):tabD h w (.lst ds)=false:=by
 show (decide ((ds.length:Int)=h) && _)=false
 rw [decide_eq_false e]
 rfl
theorem tabD_row {ds:List DK} {h w:Int} {d:DK} (m:d∈ds) (e:numsD w d=false):tabD h w (.lst ds)=false:=by
 show (_ && ds.all (numsD w))=false
 rw [List.all_eq_false.mpr ⟨d,m,by rw [e]; exact Bool.false_ne_true⟩,Bool.and_false]
theorem numsD_len {ds:List DK} {w:Int} (e:(ds.length:Int)≠w):numsD w (.lst ds)=false:=by
 show (decide ((ds.length:Int)=w) && _)=false
 rw [decide_eq_false e]
 rfl
theorem numsD_one {ds:List DK} {w:Int} {d:DK} (m:d∈ds) (e:wholeD d=false):numsD w (.lst ds)=false:=by
 show (_ && ds.all wholeD)=false
 rw [List.all_eq_false.mpr ⟨d,m,by rw [e]; exact Bool.false_ne_true⟩,Bool.and_false]
theorem few_app {xs ys:List DK} (h:fewD2 (.lst xs)) (k:fewD2 (.lst ys)) (l:xs.length + ys.length<=900):fewD2 (.lst (xs++ys)):=⟨by rw [List.length_append]; exact l,fun d m=>by
 rcases List.mem_append.mp m with m | m
 ·exact h.2 d m
 ·exact k.2 d m⟩
theorem few_rep {n:Nat} {d:DK} (h:fewD d) (l:n<=900):fewD2 (.lst (List.replicate n d)):=⟨by rw [List.length_replicate]; exact l,fun x m=>by rw [(List.mem_replicate.mp m).2]; exact h⟩
theorem mem_rep {α:Type} {n:Nat} {d:α} (h:1<=n):d∈List.replicate n d:=List.mem_replicate.mpr ⟨by omega,rfl⟩
theorem rep_ints (n:Nat) (z:Int):(List.replicate n [V.int z]).flatten=(List.replicate n z).map V.int:=by simp
theorem at_mem {xs:List V} {z:Int} (h0:0<=z) (h1:z < (xs.length:Int)):∃ x∈xs,atI xs z=some x:=by
 obtain ⟨k,rfl⟩:=Int.eq_ofNat_of_zero_le h0
 have hk:k < xs.length:=by omega
 exact ⟨xs[k],List.getElem_mem hk,atI_nat (List.getElem?_eq_getElem hk)⟩
theorem nd_snoc {H:Hp} {as:List Addr} {tab:List (List Int)} {c:Addr} (hz:Paired (RowA H) as tab) (nd:as.Nodup) (hc:H c=none):(as++[c]).Nodup:=by
 refine List.nodup_append.mpr ⟨nd,by simp,fun x hx y hy z=>?_⟩
 rw [List.mem_singleton.mp hy] at z
 obtain ⟨k,hk,e⟩:=List.mem_iff_getElem.mp hx
 obtain ⟨r,_,q⟩:=paired_get hz (List.getElem?_eq_getElem hk)
 rw [e,z] at q
 have q2:H c=some (.lst (r.map V.int)):=q
 rw [hc] at q2
 cases q2
theorem prod_00 {T O:List (List Int)} {n:Nat} (h:prodM T O n=unitsM n) (n1:1<=n):plcL (T.getD 0 []) O 0=1:=by
 obtain ⟨m,rfl⟩:∃ m,n=m + 1:=⟨n - 1,by omega⟩
 have e:=congrArg (fun l=>(List.getD l 0 []).getD 0 0) h
 have e2:((unitsM (m + 1)).getD 0 []).getD 0 0=1:=by
  rw [show (unitsM (m + 1)).getD 0 []=unitM ((0:Nat):Int) (m + 1) 1 from by
   unfold unitsM
   rw [List.getD_eq_getElem?_getD,List.getElem?_map,List.getElem?_range (by omega)]
   rfl]
  unfold unitM
  rw [getD_range (by omega)]
  rfl
 have e1:((prodM T O (m + 1)).getD 0 []).getD 0 0=plcL (T.getD 0 []) O 0:=by
  cases T with
  | nil=>
   have l:=congrArg List.length h
   unfold prodM unitsM at l
   simp at l
  | cons r T=>
   show ((List.range (m + 1)).map (plcL r O)).getD 0 0=plcL r O 0
   exact getD_range (by omega)
 rw [<- e1]
 exact e.trans e2
theorem uniq_inv {T' T B:List (List Int)} {n:Nat} (h1:∀ r∈T',r.length=n) (hB:∀ r∈B,r.length=n) (hT:T.length=n/\∀ r∈T,r.length=n) (e1:prodM T' B n=unitsM n) (e2:prodM B T n=unitsM n):T'=T:=by
 have a:=prod_assoc (X:=T') (A:=B) (B:=T) (w:=n) hB
 rw [e1,e2,prod_units h1,units_prod hT.1 hT.2] at a
 exact a.symm
theorem set_row {n i j:Nat} {t:Nat->Nat->Int} {x:Int}:∀ r∈(tabF n t).set i (((List.range n).map (t i)).set j x),r∈tabF n t\/r=((List.range n).map (t i)).set j x:=fun r hr=>List.mem_or_eq_of_mem_set hr
theorem set_len {n i j:Nat} {t:Nat->Nat->Int} {x:Int}:∀ r∈(tabF n t).set i (((List.range n).map (t i)).set j x),r.length=n:=fun r hr=>by
 rcases set_row r hr with h | rfl
 ·exact tabF_row h
 ·rw [List.length_set,List.length_map,List.length_range]
theorem more_ne {n i j:Nat} {t b:Nat->Nat->Int} {x:Int} (hi:i < n) (hj:j < n) (I:IsInv n b t) (ne:x≠t i j):prodM ((tabF n t).set i (((List.range n).map (t i)).set j x)) (tabF n b) n≠unitsM n:=fun e=>by
 have u:=uniq_inv set_len (fun r=>tabF_row) ⟨tabF_len n t,fun r=>tabF_row⟩ e (inv_prod I)
 have g:=congrArg (fun l=>(List.getD l i []).getD j 0) u
 have g1:((tabF n t).getD i []).getD j 0=t i j:=by rw [tabF_get hi,getD_range hj]
 have g2:(((tabF n t).set i (((List.range n).map (t i)).set j x)).getD i []).getD j 0=x:=by
  rw [List.getD_eq_getElem?_getD (l:=List.set _ _ _),List.getElem?_set_self (by rw [tabF_len]; exact hi)]
  show (((List.range n).map (t i)).set j x).getD j 0=x
  rw [List.getD_eq_getElem?_getD,List.getElem?_set_self (by rw [List.length_map,List.length_range]; exact hj)]
  rfl
 exact ne (g2.symm.trans (g.trans g1))
theorem zero_ne {n:Nat} {B:List (List Int)} (n1:1<=n):prodM (List.replicate n (List.replicate n (0:Int))) B n≠unitsM n:=fun e=>by
 have h:=prod_00 e n1
 obtain ⟨m,rfl⟩:∃ m,n=m + 1:=⟨n - 1,by omega⟩
 rw [show (List.replicate (m + 1) (List.replicate (m + 1) (0:Int))).getD 0 []=List.replicate (m + 1) 0 from rfl,plcL_sumP,sumP_rep0] at h
 cases h
theorem sumP_two:∀ (ns:List Int) (vs:List Int),sumP ns (vs.map fun x=>2 * x)=2 * sumP ns vs
 | [],_=>by simp [sumP]
 | _ :: _,[]=>by simp [sumP]
 | n :: ns,v :: vs=>by
  simp only [List.map_cons,sumP,sumP_two ns vs]
  grind
theorem two_ne {n:Nat} {T B:List (List Int)} (n1:1<=n):prodM T (B.map fun r=>r.map fun x=>2 * x) n≠unitsM n:=fun e=>by
 have h:=prod_00 e n1
 rw [plcL_sumP,List.map_map,show ((fun r:List Int=>r.getD 0 0) ∘ fun r=>r.map fun x=>2 * x)=(fun x=>2 * x) ∘ fun r:List Int=>r.getD 0 0 from funext fun r=>by cases r <;> rfl,<- List.map_map,sumP_two] at h
 omega
inductive spNoTables (vs:List V) (H:Hp) (Q:VK) (E:XK):Prop
 | mk (ta ba:Addr) (tv bv:List V) (n:Nat) (t b:Nat->Nat->Int) (c:Int) (_:vs=[.ref ta,.ref ba,.int c]) (_:H ta=some (.lst tv)) (_:TabV H tv (tabF n t)) (_:H ba=some (.lst bv)) (_:TabV H bv (tabF n b)) (_:1<=n) (_:n<=3) (_:IsInv n b t) (_:(∀ r k,r < n->k < n->Bd 40 (t r k)/\Bd 40 (b r k))) (_:∀ (r:Addr) (v1 v2:V) (H':Hp),Same H H'->H' r=some (.tup [v1,v2])->WrongV H' v1 v2 n->Q (.ref r) H'):spNoTables vs H Q E
section
variable {P:Program} {w:World} {K:PySem.W.Frag} {mg:Str->Option Value} {base:Heap} {C:Addr}
noncomputable abbrev s_l_no_tables:Stmt:=top 48
theorem sc_l_no_tables:FnScope ["_law_there","_law_back","_law_cell","_law_many","_law_more","_law_changed","_law_wide","_law_some"] ["_law_there","_law_back","_law_cell"] (defScope s_l_no_tables):=⟨rfl,rfl,rfl,by decide +kernel,rfl,by decide +kernel,by decide +kernel⟩
variable {aMode aThing:Addr} (TMode:ClsF K mg "Mode" aMode) (AMode:AtMode K aMode) (TThing:ClsF K mg "Thing" aThing) (AThing:AtThing K aThing)
include TMode AMode TThing AThing
theorem ok_l_no_tables {k:Nat} {f:Addr} {fd:FuncData} (F:Fun K "_law_no_tables" "_law_no_tables" s_l_no_tables f fd) (B:Bl mg):FnOk P w K mg base CX0 (k + 1) f fd ["_law_there","_law_back","_law_cell"] spNoTables:=by
 refine F.ok sc_l_no_tables (fun vs H Q E h=>?_) (fun cdv A outer s H vs Q E hr h=>?_)
 ·obtain ⟨ta,ba,tv,bv,n,t,b,c,rfl,_⟩:=h
  rfl
 obtain ⟨ta,ba,tv,bv,n,t,b,c,rfl,hta,htv,hba,hbv,n1,n3,I2,BD,q⟩:=h
 obtain ⟨u_9,E_9,U_9⟩:=L2.hide_it (p:=fun t=>PSs (cxOf CX0 P w K mg base ["_law_there","_law_back","_law_cell","_law_many","_law_more","_law_changed","_law_wide","_law_some"] "_law_no_tables" (defScope s_l_no_tables) f cdv A outer s H E).nox ((defBody s_l_no_tables).drop 9) t) (pss_one (ps_ret (pe_ix jix_list (pe_op jcat (L2.pvj 7) (pe_lst (pa_cons (pe_tup (pa_cons (L2.pvj 0) (pa_cons (pe_compN (own:=["_law_row_here"]) (caps:=[]) (blkN_cap (S:=defScope s_l_no_tables) (N:=["_law_there","_law_back","_law_cell","_law_many","_law_more","_law_changed","_law_wide","_law_some"]) rfl (by decide +kernel) rfl ⟨0,rfl⟩ rfl (by decide +kernel) (by decide +kernel)) rfl (pi_list (L2.pvj 1)) (fun _ _ _ _=>pg_name (i:=0) (show (["_law_row_here"]:List Str).Nodup by decide +kernel) rfl (Or.inl rfl)) (fun _ _ _ _=>(pe_compN (own:=["_law_number_here"]) (caps:=[]) (blk_in rfl (by decide +kernel) (by decide +kernel) (by decide +kernel) (by decide +kernel)) rfl (show PI _ _ _ (iList K _) from pi_list (L2.pvj 0)) (fun _ _ _ _=>pg_name (i:=0) (show (["_law_number_here"]:List Str).Nodup by decide +kernel) rfl (Or.inl rfl)) (fun _ _ _ _=>(pe_op (ji op_mulW) pe_int (L2.pvj 0)))))) pa_nil))) (pa_cons (pe_tup (pa_cons pe_int (pa_cons pe_str pa_nil))) pa_nil)))) (pe_op (ji op_modN) (pe_op (ji op_fdivW) (L2.pvj 2) pe_int) pe_int) (fun _ _=>rfl))))
 obtain ⟨u_8,E_8,U_8⟩:=L2.hide_it (p:=fun t=>PSs (cxOf CX0 P w K mg base ["_law_there","_law_back","_law_cell","_law_many","_law_more","_law_changed","_law_wide","_law_some"] "_law_no_tables" (defScope s_l_no_tables) f cdv A outer s H E).nox ((defBody s_l_no_tables).drop 8) t) (pss_cons (ps_set (i:=7) sc_l_no_tables.nd rfl (Or.inl rfl) (pe_op jcat (L2.pvj 7) (pe_lst (pa_cons (pe_tup (pa_cons (pe_op jrep (pe_lst (pa_cons (pe_op jrep (pe_lst (pa_cons pe_int pa_nil)) (L2.pvj 3)) pa_nil)) (L2.pvj 3)) (pa_cons (L2.pvj 1) pa_nil))) (pa_cons (pe_tup (pa_cons (L2.pvj 0) (pa_cons (pe_op jrep (pe_lst (pa_cons (pe_op jrep (pe_lst (pa_cons pe_non pa_nil)) (L2.pvj 3)) pa_nil)) (L2.pvj 3)) pa_nil))) (pa_cons (pe_tup (pa_cons (pe_op jrep (pe_lst (pa_cons (pe_op jrep (pe_lst (pa_cons pe_str pa_nil)) (L2.pvj 3)) pa_nil)) (L2.pvj 3)) (pa_cons (L2.pvj 1) pa_nil))) pa_nil))))))
 U_9)
 obtain ⟨u_7,E_7,U_7⟩:=L2.hide_it (p:=fun t=>PSs (cxOf CX0 P w K mg base ["_law_there","_law_back","_law_cell","_law_many","_law_more","_law_changed","_law_wide","_law_some"] "_law_no_tables" (defScope s_l_no_tables) f cdv A outer s H E).nox ((defBody s_l_no_tables).drop 7) t) (pss_cons (ps_set (i:=7) sc_l_no_tables.nd rfl (Or.inl rfl) (pe_op jcat (L2.pvj 7) (pe_lst (pa_cons (pe_tup (pa_cons pe_non (pa_cons (L2.pvj 1) pa_nil))) (pa_cons (pe_tup (pa_cons (pe_op jcat (pe_slice jsl_list (L2.pvj 0) po_none (po_some (pe_un un_neg pe_int))) (pe_lst (pa_cons (pe_callTy jtup rfl B.tuple_ boot_tuple_ (pa_cons (pe_ix jix_list (L2.pvj 0) (pe_un un_neg pe_int) (fun _ _=>rfl)) pa_nil)) pa_nil))) (pa_cons (L2.pvj 1) pa_nil))) (pa_cons (pe_tup (pa_cons (pe_lst pa_nil) (pa_cons (pe_lst pa_nil) pa_nil))) (pa_cons (pe_tup (pa_cons (pe_op jcat (L2.pvj 0) (pe_lst (pa_cons (pe_ix jix_list (L2.pvj 0) pe_int (fun _ _=>rfl)) pa_nil))) (pa_cons (L2.pvj 1) pa_nil))) pa_nil)))))))
 U_8)
 obtain ⟨u_6,E_6,U_6⟩:=L2.hide_it (p:=fun t=>PSs (cxOf CX0 P w K mg base ["_law_there","_law_back","_law_cell","_law_many","_law_more","_law_changed","_law_wide","_law_some"] "_law_no_tables" (defScope s_l_no_tables) f cdv A outer s H E).nox ((defBody s_l_no_tables).drop 6) t) (pss_cons (ps_set (i:=7) sc_l_no_tables.nd rfl (Or.inl rfl) (pe_op jcat (L2.pvj 7) (pe_lst (pa_cons (pe_tup (pa_cons (L2.pvj 6) (pa_cons (L2.pvj 1) pa_nil))) (pa_cons (pe_tup (pa_cons (pe_callTy jtup rfl B.tuple_ boot_tuple_ (pa_cons (L2.pvj 0) pa_nil)) (pa_cons (L2.pvj 1) pa_nil))) (pa_cons (pe_tup (pa_cons (L2.pvj 0) (pa_cons pe_non pa_nil))) pa_nil))))))
 U_7)
 obtain ⟨u_5,E_5,U_5⟩:=L2.hide_it (p:=fun t=>PSs (cxOf CX0 P w K mg base ["_law_there","_law_back","_law_cell","_law_many","_law_more","_law_changed","_law_wide","_law_some"] "_law_no_tables" (defScope s_l_no_tables) f cdv A outer s H E).nox ((defBody s_l_no_tables).drop 5) t) (pss_cons (ps_set (i:=7) sc_l_no_tables.nd rfl (Or.inl rfl) (pe_lst (pa_cons (pe_tup (pa_cons (L2.pvj 4) (pa_cons (L2.pvj 1) pa_nil))) (pa_cons (pe_tup (pa_cons (L2.pvj 0) (pa_cons (pe_op jcat (L2.pvj 0) (L2.pvj 0)) pa_nil))) (pa_cons (pe_tup (pa_cons (L2.pvj 0) (pa_cons (pe_slice jsl_list (L2.pvj 1) (po_some pe_int) po_none) pa_nil))) pa_nil)))))
 U_6)
 obtain ⟨u_4,E_4,U_4⟩:=L2.hide_it (p:=fun t=>PSs (cxOf CX0 P w K mg base ["_law_there","_law_back","_law_cell","_law_many","_law_more","_law_changed","_law_wide","_law_some"] "_law_no_tables" (defScope s_l_no_tables) f cdv A outer s H E).nox ((defBody s_l_no_tables).drop 4) t) (pss_cons (ps_comp (i:=6) sc_l_no_tables.nd rfl rfl (own:=["_law_row_here"]) (caps:=[]) (blk_mk rfl) rfl (pi_list (L2.pvj 0)) (fun _ _ _ _=>pg_name (i:=0) (show (["_law_row_here"]:List Str).Nodup by decide +kernel) rfl (Or.inl rfl)) (fun _ _ _ _=>(pe_op jcat (L2.pvj 0) (pe_lst (pa_cons pe_int pa_nil)))) rfl)
 U_5)
 obtain ⟨u_3,E_3,U_3⟩:=L2.hide_it (p:=fun t=>PSs (cxOf CX0 P w K mg base ["_law_there","_law_back","_law_cell","_law_many","_law_more","_law_changed","_law_wide","_law_some"] "_law_no_tables" (defScope s_l_no_tables) f cdv A outer s H E).nox ((defBody s_l_no_tables).drop 3) t) (pss_cons (ps_asg (pe_op (ji0 op_add) (pe_op (ji0 op_add) (pe_ix jix_list (L2.pvj 5) (pe_op (ji op_modN) (pe_op (ji op_fdivW) (L2.pvj 2) pe_int) (L2.pvj 3)) (fun _ _=>rfl)) pe_int) (pe_op (ji op_modN) (L2.pvj 2) pe_int)) (pg_sub (L2.pvj 5) (pe_op (ji op_modN) (pe_op (ji op_fdivW) (L2.pvj 2) pe_int) (L2.pvj 3)) jset))
 U_4)
 obtain ⟨u_2,E_2,U_2⟩:=L2.hide_it (p:=fun t=>PSs (cxOf CX0 P w K mg base ["_law_there","_law_back","_law_cell","_law_many","_law_more","_law_changed","_law_wide","_law_some"] "_law_no_tables" (defScope s_l_no_tables) f cdv A outer s H E).nox ((defBody s_l_no_tables).drop 2) t) (pss_cons (ps_set (i:=5) sc_l_no_tables.nd rfl (Or.inl rfl) (pe_ix jix_list (L2.pvj 4) (pe_op (ji op_modN) (L2.pvj 2) (L2.pvj 3)) (fun _ _=>rfl)))
 U_3)
 obtain ⟨u_1,E_1,U_1⟩:=L2.hide_it (p:=fun t=>PSs (cxOf CX0 P w K mg base ["_law_there","_law_back","_law_cell","_law_many","_law_more","_law_changed","_law_wide","_law_some"] "_law_no_tables" (defScope s_l_no_tables) f cdv A outer s H E).nox ((defBody s_l_no_tables).drop 1) t) (pss_cons (ps_comp (i:=4) sc_l_no_tables.nd rfl rfl (own:=["_law_row_here"]) (caps:=[]) (blk_mk rfl) rfl (pi_list (L2.pvj 0)) (fun _ _ _ _=>pg_name (i:=0) (show (["_law_row_here"]:List Str).Nodup by decide +kernel) rfl (Or.inl rfl)) (fun _ _ _ _=>(pe_callTy (show CallR _ _ (fun xs H Q=>∃ p ys,xs=[V.ref p]/\(SqL K H p ys\/SqT K H p ys)/\∀ l,H l=none->Q (V.ref l) (upd H l (HO.lst ys))) from call_list_of) rfl B.list_ boot_list_ (pa_cons (L2.pvj 0) pa_nil))) rfl)
 U_2)
 refine ⟨_,(pss_cons (ps_set (i:=3) sc_l_no_tables.nd rfl (Or.inl rfl) (pe_callB jlen rfl B.len_ boot_len_ (pa_cons (L2.pvj 0) pa_nil)))
 U_1),?_⟩
 try dsimp only [cxOf,Cx.nox,Cx.wish]
 have ltv:tv.length=n:=(Paired.length htv).trans (tabF_len _ _)
 have lbv:bv.length=n:=(Paired.length hbv).trans (tabF_len _ _)
 have nz:(n:Int)≠0:=by omega
 have b3:Bd 10 (3:Int):=Bd.lit
 have b9:Bd 10 (9:Int):=Bd.lit
 have b2:Bd 10 (2:Int):=Bd.lit
 have fT:fewD2 (.lst ((tabF n t).map fun r=>.lst (r.map DK.int))):=few_tab (by rw [tabF_len]; omega) (fun r=>tabF_row) (show n<=900 by omega)
 have fB:fewD2 (.lst ((tabF n b).map fun r=>.lst (r.map DK.int))):=few_tab (by rw [tabF_len]; omega) (fun r=>tabF_row) (show n<=900 by omega)
 have dT0:DV H (.ref ta) (.lst ((tabF n t).map fun r=>.lst (r.map DK.int))):=.lst hta (dv_tab htv)
 have dB0:DV H (.ref ba) (.lst ((tabF n b).map fun r=>.lst (r.map DK.int))):=.lst hba (dv_tab hbv)
 have lK:∀ f:Nat->Nat->Int,((tabF n f).map fun r=>DK.lst (r.map DK.int)).length=n:=fun f=>by rw [List.length_map,tabF_len]
 have TT:TbB (tabF n t) n n 900:=⟨tabF_len _ _,fun r hr=>⟨tabF_row hr,fun x hx=>by
  obtain ⟨i,hi,rfl⟩:=List.mem_map.mp hr
  obtain ⟨j,hj,rfl⟩:=List.mem_map.mp hx
  exact (BD i j (List.mem_range.mp hi) (List.mem_range.mp hj)).1.mono (by decide)⟩⟩
 have BB:TbB (tabF n b) n n 900:=⟨tabF_len _ _,fun r hr=>⟨tabF_row hr,fun x hx=>by
  obtain ⟨i,hi,rfl⟩:=List.mem_map.mp hr
  obtain ⟨j,hj,rfl⟩:=List.mem_map.mp hx
  exact (BD i j (List.mem_range.mp hi) (List.mem_range.mp hj)).2.mono (by decide)⟩⟩
 have i0:=Int.fmod_nonneg_of_pos c (show (0:Int) < (n:Int) by omega)
 have i1:=Int.fmod_lt_of_pos c (show (0:Int) < (n:Int) by omega)
 have j0:=Int.fmod_nonneg_of_pos (c.fdiv 3) (show (0:Int) < (n:Int) by omega)
 have j1:=Int.fmod_lt_of_pos (c.fdiv 3) (show (0:Int) < (n:Int) by omega)
 have d0:=Int.fmod_nonneg_of_pos c (show (0:Int) < 5 by decide)
 have d1:=Int.fmod_lt_of_pos c (show (0:Int) < 5 by decide)
 have k0:=Int.fmod_nonneg_of_pos (c.fdiv 9) (show (0:Int) < 15 by decide)
 have k1:=Int.fmod_lt_of_pos (c.fdiv 9) (show (0:Int) < 15 by decide)
 refine ⟨_,rfl,ta,_,rfl,.inl (SqL.of hta),?_⟩
 show u_1 _ [some (.ref ta),some (.ref ba),some (.int c),some (.int ((tv.length:Nat):Int)),none,none,none,none] _
 rw [ltv]
 show u_1 _ [some (.ref ta),some (.ref ba),some (.int c),some (.int (n:Int)),none,none,none,none] _
 rw [E_1]
 try dsimp only [cxOf,Cx.nox,Cx.wish]
 refine ⟨_,rfl,ta,rfl,⟨_,SqL.of hta⟩,comp_list (K:=K) (a:=ta) (xs:=tv) (fun i ys σ H'=>(∃ as:List Addr,Paired (RowA H') as ((tabF n t).take i)/\ys=as.map V.ref/\as.Nodup/\∀ a∈as,H a=none)/\(∃ o,σ=[o])/\Same H H')
  ⟨⟨[],.nil,rfl,List.nodup_nil,fun _ h=>nomatch h⟩,⟨none,rfl⟩,Same.refl _⟩ (fun i ys σ H' hi ⟨⟨as,h1,e1,_⟩,_,sm⟩=>⟨SqL.of (sm _ _ hta),by have:=Paired.length h1; rw [List.length_take] at this; rw [e1,List.length_map]; omega⟩) (Nat.le_of_lt (small1000 (by omega))) ?_ ?_⟩
 ·rintro i x ys σ H' hi ⟨⟨as,hz,rfl,nd,fr⟩,⟨o,rfl⟩,sm⟩
  obtain ⟨r,hr',a,rfl,ea⟩:=paired_get htv hi
  refine ⟨_,rfl,a,_,rfl,.inl (SqL.of (sm _ _ ea)),fun c hc=>?_⟩
  have zc:=same_new hc (HO.lst (r.map V.int))
  refine ⟨⟨as++[c],?_,?_,nd_snoc hz nd hc,?_⟩,⟨_,rfl⟩,sm.trans zc⟩
  ·rw [take_snoc hr']
   exact paired_snoc (R:=RowA _) upd_same (rows_same zc hz)
  ·rw [List.map_append]
   rfl
  ·intro a ha
   rcases List.mem_append.mp ha with ha | ha
   ·exact fr a ha
   ·rw [List.mem_singleton.mp ha]
    exact sm.free hc
 rintro mv σ J1 ⟨⟨as,has,rfl,nd,fr⟩,⟨o1,rfl⟩,y1⟩ ml hml
 rw [take_all (by rw [tabF_len]; omega)] at has
 have las:as.length=n:=(Paired.length has).trans (tabF_len _ _)
 have y2:=same_new hml (HO.lst (as.map V.ref))
 have eml:=upd_same (H:=J1) (a:=ml) (o:=HO.lst (as.map V.ref))
 have has2:=rows_same y2 has
 have nml:∀ a∈as,a≠ml:=fun a ha z=>by
  obtain ⟨k,hk,e⟩:=List.mem_iff_getElem.mp ha
  obtain ⟨r,_,q⟩:=paired_get has (List.getElem?_eq_getElem hk)
  rw [e,z] at q
  have q2:J1 ml=some (.lst (r.map V.int)):=q
  rw [hml] at q2
  cases q2
 generalize hhG1:upd J1 ml (HO.lst (as.map V.ref))=G1 at y2 eml has2 |-
 have S1:=y1.trans y2
 show u_2 _ [some (.ref ta),some (.ref ba),some (.int c),some (.int (n:Int)),some (.ref ml),none,none,none] _
 rw [E_2]
 try dsimp only [cxOf,Cx.nox,Cx.wish]
 obtain ⟨i,ei⟩:=Int.eq_ofNat_of_zero_le i0
 obtain ⟨j,ej⟩:=Int.eq_ofNat_of_zero_le j0
 have hi:i < n:=by omega
 have hj:j < n:=by omega
 have hai:as[i]? = some (as[i]'(by omega)):=List.getElem?_eq_getElem _
 obtain ⟨row,hrow,eca⟩:=paired_get has2 hai
 have erow:row=(List.range n).map (t i):=by
  have e:=tabF_get (t:=t) hi
  rw [List.getD_eq_getElem?_getD,hrow] at e
  exact e
 subst erow
 have mca:as[i]'(by omega)∈as:=List.getElem_mem _
 generalize as[i]'(by omega)=ca at hai eca mca
 have eca:G1 ca=some (.lst (((List.range n).map (t i)).map V.int)):=eca
 have aml:atI (as.map V.ref) (c.fmod (n:Int))=some (.ref ca):=by
  rw [ei]
  exact atI_nat (by rw [List.getElem?_map,hai]; rfl)
 refine ⟨_,rfl,_,rfl,_,rfl,_,_,rfl,rfl,nz,ml,_,_,_,rfl,rfl,SqL.of eml,aml,?_⟩
 show u_3 _ [some (.ref ta),some (.ref ba),some (.int c),some (.int (n:Int)),some (.ref ml),some (.ref ca),none,none] _
 rw [E_3]
 try dsimp only [cxOf,Cx.nox,Cx.wish]
 have acj:atI (((List.range n).map (t i)).map V.int) ((c.fdiv 3).fmod (n:Int))=some (.int (t i j)):=by
  rw [ej,at_int (by rw [List.length_map,List.length_range]; exact hj),getD_range hj]
 have ixj:ixN (((List.range n).map (t i)).map V.int).length ((c.fdiv 3).fmod (n:Int))=some j:=by
  rw [ej]
  exact ixN_nat (by rw [List.length_map,List.length_map,List.length_range]; exact hj)
 refine ⟨_,rfl,_,rfl,_,_,rfl,rfl,⟨by decide,b3.mono (by decide)⟩,_,rfl,_,_,rfl,rfl,nz,ca,_,_,_,rfl,rfl,SqL.of eca,acj,_,_,rfl,rfl,_,rfl,_,_,rfl,rfl,(show (5:Int)≠0 by decide),_,_,rfl,rfl,?_⟩
 refine ⟨_,rfl,_,rfl,_,_,rfl,rfl,⟨by decide,b3.mono (by decide)⟩,_,rfl,_,_,rfl,rfl,nz,ca,_,_,j,rfl,rfl,eca,ixj,?_⟩
 rw [show (((List.range n).map (t i)).map V.int).set j (V.int (t i j + 1 + c.fmod 5))=(((List.range n).map (t i)).set j (t i j + 1 + c.fmod 5)).map V.int from by rw [List.map_set]]
 have SM:Same H (upd G1 ca (HO.lst ((((List.range n).map (t i)).set j (t i j + 1 + c.fmod 5)).map V.int))):=fun x o e=>by
  rw [upd_ne (fun z=>by
   have q:=fr ca mca
   rw [<- z,e] at q
   cases q)]
  exact S1 _ _ e
 have eml2:upd G1 ca (HO.lst ((((List.range n).map (t i)).set j (t i j + 1 + c.fmod 5)).map V.int)) ml=some (.lst (as.map V.ref)):=(upd_ne (fun z=>nml ca mca z.symm)).trans eml
 have hmt:=rows_tab (paired_put (row:=((List.range n).map (t i)).set j (t i j + 1 + c.fmod 5)) has2 hai nd)
 generalize hhG2:upd G1 ca (HO.lst ((((List.range n).map (t i)).set j (t i j + 1 + c.fmod 5)).map V.int))=G2 at SM eml2 hmt |-
 have MM:TbB ((tabF n t).set i (((List.range n).map (t i)).set j (t i j + 1 + c.fmod 5))) n n 900:=⟨by rw [List.length_set,tabF_len],fun r hr=>⟨set_len r hr,fun x hx=>by
  rcases set_row r hr with h | rfl
  ·exact (TT.row r h).2 x hx
  ·rcases List.mem_or_eq_of_mem_set hx with h | rfl
   ·obtain ⟨j',hj',rfl⟩:=List.mem_map.mp h
    exact (BD i j' hi (List.mem_range.mp hj')).1.mono (by decide)
   ·have q1:=(BD i j hi hj).1
    have q2:Bd 40 (1:Int):=Bd.lit
    have q3:Bd 41 (c.fmod 5):=by
     show (c.fmod 5).natAbs < 2 ^ 41
     omega
    exact ((q1.add q2).add q3).mono (by decide)⟩⟩
 have mne:prodM ((tabF n t).set i (((List.range n).map (t i)).set j (t i j + 1 + c.fmod 5))) (tabF n b) n≠unitsM n:=more_ne hi hj I2 (by omega)
 clear eml has2 has eca y2 y1 S1
 show u_4 _ [some (.ref ta),some (.ref ba),some (.int c),some (.int (n:Int)),some (.ref ml),some (.ref ca),none,none] _
 rw [E_4]
 try dsimp only [cxOf,Cx.nox,Cx.wish]
 refine ⟨_,rfl,ta,rfl,⟨_,SqL.of (SM _ _ hta)⟩,comp_list (K:=K) (a:=ta) (xs:=tv) (fun i ys σ H'=>TabV H' ys (((tabF n t).take i).map fun r=>r++[0])/\(∃ o,σ=[o])/\Same G2 H')
  ⟨.nil,⟨none,rfl⟩,Same.refl _⟩ (fun i ys σ H' hi ⟨e1,_,sm⟩=>⟨SqL.of (sm _ _ (SM _ _ hta)),by have:=Paired.length e1; rw [List.length_map,List.length_take] at this; omega⟩) (Nat.le_of_lt (small1000 (by omega))) ?_ ?_⟩
 ·rintro i x ys σ H' hi ⟨hz,⟨o,rfl⟩,sm⟩
  obtain ⟨r,hr',a,rfl,ea⟩:=paired_get htv hi
  have lr:r.length=n:=tabF_row (List.mem_of_getElem? hr')
  have s0:=SM.trans sm
  refine ⟨_,rfl,(by show 1<=sizeLine; decide),fun l1 hl1=>?_⟩
  have z1:=same_new hl1 (HO.lst [V.int 0])
  refine ⟨a,l1,_,_,rfl,rfl,z1 _ _ (s0 _ _ ea),upd_same,(by rw [List.length_map]; exact Nat.le_of_lt (small1000 (by show r.length + 1<=1000; omega))),fun c2 hc2=>?_⟩
  have z2:=same_new hc2 (HO.lst (r.map V.int++[V.int 0]))
  refine ⟨?_,⟨_,rfl⟩,sm.trans (z1.trans z2)⟩
  rw [take_snoc hr',List.map_append]
  exact paired_snoc (R:=LstI _) ⟨c2,rfl,upd_same.trans (by rw [List.map_append]; rfl)⟩ (TabV.same (z1.trans z2) hz)
 rintro wv σ J3 ⟨hwv,⟨o1,rfl⟩,y3⟩ wl hwl
 rw [take_all (by rw [tabF_len]; omega)] at hwv
 have SG1:=SM.trans y3
 replace eml2:=(y3 _ _ eml2)
 replace hmt:=(TabV.same y3 hmt)
 have yG2:=same_new hwl (HO.lst wv)
 have ewl:=upd_same (H:=J3) (a:=wl) (o:=HO.lst wv)
 generalize hhG2:upd J3 wl (HO.lst wv)=G2 at yG2 ewl |-
 have SG2:=SG1.trans yG2
 replace eml2:=(yG2 _ _ eml2)
 replace hmt:=(TabV.same yG2 hmt)
 replace hwv:=(TabV.same yG2 hwv)
 show u_5 _ [some (.ref ta),some (.ref ba),some (.int c),some (.int (n:Int)),some (.ref ml),some (.ref ca),some (.ref wl),none] _
 rw [E_5]
 try dsimp only [cxOf,Cx.nox,Cx.wish]
 refine ⟨_,rfl,_,rfl,(by show 2<=sizeLine; decide),fun p0 hp0=>?_⟩
 have yG3:=same_new hp0 (HO.tup [V.ref ml,V.ref ba])
 have ep0:=upd_same (H:=G2) (a:=p0) (o:=HO.tup [V.ref ml,V.ref ba])
 generalize hhG3:upd G2 p0 (HO.tup [V.ref ml,V.ref ba])=G3 at yG3 ep0 |-
 have SG3:=SG2.trans yG3
 replace eml2:=(yG3 _ _ eml2)
 replace hmt:=(TabV.same yG3 hmt)
 replace hwv:=(TabV.same yG3 hwv)
 replace ewl:=(yG3 _ _ ewl)
 have wp0:WrV n G3 (.ref p0):=⟨p0,_,_,rfl,ep0,.inr ⟨ml,ba,_,bv,_,_,rfl,rfl,eml2,hmt,(SG3 _ _ hba),(TabV.same SG3 hbv),MM,BB,mne⟩⟩
 refine ⟨_,rfl,_,rfl,_,rfl,ta,ta,_,_,rfl,rfl,(SG3 _ _ hta),(SG3 _ _ hta),Nat.le_of_lt (small1000 (by omega)),fun q1 hq1=>?_⟩
 have yG4:=same_new hq1 (HO.lst (tv++tv))
 have eq1:=upd_same (H:=G3) (a:=q1) (o:=HO.lst (tv++tv))
 generalize hhG4:upd G3 q1 (HO.lst (tv++tv))=G4 at yG4 eq1 |-
 have SG4:=SG3.trans yG4
 replace hwv:=(TabV.same yG4 hwv)
 replace ewl:=(yG4 _ _ ewl)
 replace wp0:=(WrV.same yG4 wp0)
 refine ⟨(by show 2<=sizeLine; decide),fun p1 hp1=>?_⟩
 have yG5:=same_new hp1 (HO.tup [V.ref ta,V.ref q1])
 have ep1:=upd_same (H:=G4) (a:=p1) (o:=HO.tup [V.ref ta,V.ref q1])
 generalize hhG5:upd G4 p1 (HO.tup [V.ref ta,V.ref q1])=G5 at yG5 ep1 |-
 have SG5:=SG4.trans yG5
 replace hwv:=(TabV.same yG5 hwv)
 replace ewl:=(yG5 _ _ ewl)
 replace wp0:=(WrV.same yG5 wp0)
 replace eq1:=(yG5 _ _ eq1)
 have wp1:WrV n G5 (.ref p1):=wr2 ep1 (DV.same SG5 dT0) (.lst eq1 (paired_app (dv_tab (TabV.same SG5 htv)) (dv_tab (TabV.same SG5 htv)))) fT (few_app fT fT (by rw [lK]; omega)) (tabD_len (by rw [List.length_append,lK]; omega))
 refine ⟨_,rfl,_,rfl,_,rfl,ba,_,rfl,SqL.of (SG5 _ _ hba),fun q2 hq2=>?_⟩
 obtain ⟨bx,bv',ebv⟩:∃ x xs,bv=x :: xs:=by
  cases bv with
  | nil=>simp at lbv; omega
  | cons x xs=>exact ⟨x,xs,rfl⟩
 obtain ⟨by0,bt',hb1,hb2⟩:∃ y ys,tabF n b=y :: ys/\TabV H bv' ys:=by
  have hb:=hbv
  rw [ebv] at hb
  generalize tabF n b=tb at hb
  cases hb with
  | cons h t=>exact ⟨_,_,rfl,t⟩
 rw [show cutV bv (some 1) none=bv' by rw [ebv]; exact cut_one _ _]
 have lbt:bt'.length + 1=n:=by
  have:=tabF_len n b
  rw [hb1] at this
  exact this
 have yG6:=same_new hq2 (HO.lst bv')
 have eq2:=upd_same (H:=G5) (a:=q2) (o:=HO.lst bv')
 generalize hhG6:upd G5 q2 (HO.lst bv')=G6 at yG6 eq2 |-
 have SG6:=SG5.trans yG6
 replace hwv:=(TabV.same yG6 hwv)
 replace ewl:=(yG6 _ _ ewl)
 replace wp0:=(WrV.same yG6 wp0)
 replace wp1:=(WrV.same yG6 wp1)
 refine ⟨(by show 2<=sizeLine; decide),fun p2 hp2=>?_⟩
 have yG7:=same_new hp2 (HO.tup [V.ref ta,V.ref q2])
 have ep2:=upd_same (H:=G6) (a:=p2) (o:=HO.tup [V.ref ta,V.ref q2])
 generalize hhG7:upd G6 p2 (HO.tup [V.ref ta,V.ref q2])=G7 at yG7 ep2 |-
 have SG7:=SG6.trans yG7
 replace hwv:=(TabV.same yG7 hwv)
 replace ewl:=(yG7 _ _ ewl)
 replace wp0:=(WrV.same yG7 wp0)
 replace wp1:=(WrV.same yG7 wp1)
 replace eq2:=(yG7 _ _ eq2)
 have wp2:WrV n G7 (.ref p2):=wr2 ep2 (DV.same SG7 dT0) (.lst eq2 (dv_tab (TabV.same SG7 hb2))) fT (few_tab (by omega) (fun r hr=>tabF_row (t:=b) (by rw [hb1]; exact List.mem_cons_of_mem _ hr)) (show n<=900 by omega)) (tabD_len (by rw [List.length_map]; omega))
 refine ⟨(by show 3<=sizeLine; decide),fun s1 hs1=>?_⟩
 have yG8:=same_new hs1 (HO.lst [V.ref p0,V.ref p1,V.ref p2])
 have es1:=upd_same (H:=G7) (a:=s1) (o:=HO.lst [V.ref p0,V.ref p1,V.ref p2])
 generalize hhG8:upd G7 s1 (HO.lst [V.ref p0,V.ref p1,V.ref p2])=G8 at yG8 es1 |-
 have SG8:=SG7.trans yG8
 replace hwv:=(TabV.same yG8 hwv)
 replace ewl:=(yG8 _ _ ewl)
 replace wp0:=(WrV.same yG8 wp0)
 replace wp1:=(WrV.same yG8 wp1)
 replace wp2:=(WrV.same yG8 wp2)
 have as1:AllW n G8 [V.ref p0,V.ref p1,V.ref p2]:=.cons wp0 (.cons wp1 (.cons wp2 (AllW.nil)))
 show u_6 _ [some (.ref ta),some (.ref ba),some (.int c),some (.int (n:Int)),some (.ref ml),some (.ref ca),some (.ref wl),some (.ref s1)] _
 rw [E_6]
 try dsimp only [cxOf,Cx.nox,Cx.wish]
 refine ⟨_,rfl,_,rfl,_,rfl,(by show 2<=sizeLine; decide),fun p3 hp3=>?_⟩
 have yG9:=same_new hp3 (HO.tup [V.ref wl,V.ref ba])
 have ep3:=upd_same (H:=G8) (a:=p3) (o:=HO.tup [V.ref wl,V.ref ba])
 generalize hhG9:upd G8 p3 (HO.tup [V.ref wl,V.ref ba])=G9 at yG9 ep3 |-
 have SG9:=SG8.trans yG9
 replace hwv:=(TabV.same yG9 hwv)
 replace ewl:=(yG9 _ _ ewl)
 replace es1:=(yG9 _ _ es1)
 replace as1:=(AllW.same yG9 as1)
 have wp3:WrV n G9 (.ref p3):=wr1 ep3 (.lst ewl (dv_tab hwv)) (DV.same SG9 dB0) (few_tab (w:=n + 1) (by rw [List.length_map,tabF_len]; omega) (fun r hr=>by
  obtain ⟨r0,h0,rfl⟩:=List.mem_map.mp hr
  rw [List.length_append,tabF_row h0]
  rfl) (by omega)) fB (by
  obtain ⟨m,rfl⟩:∃ m,n=m + 1:=⟨n - 1,by omega⟩
  refine tabD_row (d:=.lst ((((List.range (m + 1)).map (t 0))++[0]).map DK.int)) ?_ (numsD_len ?_)
  ·rw [List.map_map]
   exact List.mem_map.mpr ⟨(List.range (m + 1)).map (t 0),List.mem_map.mpr ⟨0,List.mem_range.mpr (by omega),rfl⟩,rfl⟩
  ·rw [List.length_map,List.length_append,List.length_map,List.length_range]
   show ((m + 1 + 1:Nat):Int)≠_
   omega)
 refine ⟨_,rfl,ta,_,rfl,.inl ⟨SqL.of (SG9 _ _ hta),fun q4 hq4=>?_⟩⟩
 have yG10:=same_new hq4 (HO.tup tv)
 have eq4:=upd_same (H:=G9) (a:=q4) (o:=HO.tup tv)
 generalize hhG10:upd G9 q4 (HO.tup tv)=G10 at yG10 eq4 |-
 have SG10:=SG9.trans yG10
 replace es1:=(yG10 _ _ es1)
 replace as1:=(AllW.same yG10 as1)
 replace wp3:=(WrV.same yG10 wp3)
 refine ⟨_,rfl,(by show 2<=sizeLine; decide),fun p4 hp4=>?_⟩
 have yG11:=same_new hp4 (HO.tup [V.ref q4,V.ref ba])
 have ep4:=upd_same (H:=G10) (a:=p4) (o:=HO.tup [V.ref q4,V.ref ba])
 generalize hhG11:upd G10 p4 (HO.tup [V.ref q4,V.ref ba])=G11 at yG11 ep4 |-
 have SG11:=SG10.trans yG11
 replace es1:=(yG11 _ _ es1)
 replace as1:=(AllW.same yG11 as1)
 replace wp3:=(WrV.same yG11 wp3)
 replace eq4:=(yG11 _ _ eq4)
 have wp4:WrV n G11 (.ref p4):=wr1 ep4 (.tup eq4 (dv_tab (TabV.same SG11 htv))) (DV.same SG11 dB0) fT fB rfl
 refine ⟨_,rfl,(by show 2<=sizeLine; decide),fun p5 hp5=>?_⟩
 have yG12:=same_new hp5 (HO.tup [V.ref ta,V.non])
 have ep5:=upd_same (H:=G11) (a:=p5) (o:=HO.tup [V.ref ta,V.non])
 generalize hhG12:upd G11 p5 (HO.tup [V.ref ta,V.non])=G12 at yG12 ep5 |-
 have SG12:=SG11.trans yG12
 replace es1:=(yG12 _ _ es1)
 replace as1:=(AllW.same yG12 as1)
 replace wp3:=(WrV.same yG12 wp3)
 replace wp4:=(WrV.same yG12 wp4)
 have wp5:WrV n G12 (.ref p5):=wr2 ep5 (DV.same SG12 dT0) .non fT trivial rfl
 refine ⟨(by show 3<=sizeLine; decide),fun s2 hs2=>?_⟩
 have yG13:=same_new hs2 (HO.lst [V.ref p3,V.ref p4,V.ref p5])
 have es2:=upd_same (H:=G12) (a:=s2) (o:=HO.lst [V.ref p3,V.ref p4,V.ref p5])
 generalize hhG13:upd G12 s2 (HO.lst [V.ref p3,V.ref p4,V.ref p5])=G13 at yG13 es2 |-
 have SG13:=SG12.trans yG13
 replace es1:=(yG13 _ _ es1)
 replace as1:=(AllW.same yG13 as1)
 replace wp3:=(WrV.same yG13 wp3)
 replace wp4:=(WrV.same yG13 wp4)
 replace wp5:=(WrV.same yG13 wp5)
 have as2:AllW n G13 [V.ref p3,V.ref p4,V.ref p5]:=.cons wp3 (.cons wp4 (.cons wp5 (AllW.nil)))
 refine ⟨s1,s2,_,_,rfl,rfl,es1,es2,(by show 3 + 3<=sizeLine; decide),fun s3 hs3=>?_⟩
 have yG14:=same_new hs3 (HO.lst ([V.ref p0,V.ref p1,V.ref p2]++[V.ref p3,V.ref p4,V.ref p5]))
 have es3:=upd_same (H:=G13) (a:=s3) (o:=HO.lst ([V.ref p0,V.ref p1,V.ref p2]++[V.ref p3,V.ref p4,V.ref p5]))
 generalize hhG14:upd G13 s3 (HO.lst ([V.ref p0,V.ref p1,V.ref p2]++[V.ref p3,V.ref p4,V.ref p5]))=G14 at yG14 es3 |-
 have SG14:=SG13.trans yG14
 replace es1:=(yG14 _ _ es1)
 replace as1:=(AllW.same yG14 as1)
 replace es2:=(yG14 _ _ es2)
 replace as2:=(AllW.same yG14 as2)
 replace es3:G14 s3=some (.lst [V.ref p0,V.ref p1,V.ref p2,V.ref p3,V.ref p4,V.ref p5]):=es3
 have as3:AllW n G14 [V.ref p0,V.ref p1,V.ref p2,V.ref p3,V.ref p4,V.ref p5]:=AllW.app as1 as2
 show u_7 _ [some (.ref ta),some (.ref ba),some (.int c),some (.int (n:Int)),some (.ref ml),some (.ref ca),some (.ref wl),some (.ref s3)] _
 rw [E_7]
 try dsimp only [cxOf,Cx.nox,Cx.wish]
 refine ⟨_,rfl,_,rfl,(by show 2<=sizeLine; decide),fun p6 hp6=>?_⟩
 have yG15:=same_new hp6 (HO.tup [V.non,V.ref ba])
 have ep6:=upd_same (H:=G14) (a:=p6) (o:=HO.tup [V.non,V.ref ba])
 generalize hhG15:upd G14 p6 (HO.tup [V.non,V.ref ba])=G15 at yG15 ep6 |-
 have SG15:=SG14.trans yG15
 replace es3:=(yG15 _ _ es3)
 replace as3:=(AllW.same yG15 as3)
 have wp6:WrV n G15 (.ref p6):=wr1 ep6 .non (DV.same SG15 dB0) trivial fB rfl
 obtain ⟨tv0,tl,T0,rl,etv,eT0,hT0,hrl⟩:=split_last htv (by omega)
 obtain ⟨la,rfl,ela⟩:=hrl
 have hcut:cutV tv none (some (-1))=tv0:=by rw [etv]; exact cut_last _ _
 have hlast:atI tv (-1)=some (.ref la):=by rw [etv]; exact atI_last _ _
 have lT0:T0.length + 1=n:=by
  have:=tabF_len n t
  rw [eT0,List.length_append] at this
  exact this
 have ltv0:tv0.length + 1=n:=by
  rw [etv,List.length_append] at ltv
  exact ltv
 have rT0:∀ r∈T0,r.length=n:=fun r hr=>tabF_row (t:=t) (by rw [eT0]; exact List.mem_append_left _ hr)
 refine ⟨_,rfl,_,rfl,_,rfl,ta,_,rfl,SqL.of (SG15 _ _ hta),fun q5 hq5=>?_⟩
 rw [hcut]
 have yG16:=same_new hq5 (HO.lst tv0)
 have eq5:=upd_same (H:=G15) (a:=q5) (o:=HO.lst tv0)
 generalize hhG16:upd G15 q5 (HO.lst tv0)=G16 at yG16 eq5 |-
 have SG16:=SG15.trans yG16
 replace es3:=(yG16 _ _ es3)
 replace as3:=(AllW.same yG16 as3)
 replace wp6:=(WrV.same yG16 wp6)
 refine ⟨_,rfl,_,rfl,ta,_,_,_,rfl,rfl,SqL.of (SG16 _ _ hta),hlast,la,_,rfl,.inl ⟨SqL.of (SG16 _ _ ela),fun q6 hq6=>?_⟩⟩
 have yG17:=same_new hq6 (HO.tup (rl.map V.int))
 have eq6:=upd_same (H:=G16) (a:=q6) (o:=HO.tup (rl.map V.int))
 generalize hhG17:upd G16 q6 (HO.tup (rl.map V.int))=G17 at yG17 eq6 |-
 have SG17:=SG16.trans yG17
 replace es3:=(yG17 _ _ es3)
 replace as3:=(AllW.same yG17 as3)
 replace wp6:=(WrV.same yG17 wp6)
 replace eq5:=(yG17 _ _ eq5)
 refine ⟨(by show 1<=sizeLine; decide),fun q7 hq7=>?_⟩
 have yG18:=same_new hq7 (HO.lst [V.ref q6])
 have eq7:=upd_same (H:=G17) (a:=q7) (o:=HO.lst [V.ref q6])
 generalize hhG18:upd G17 q7 (HO.lst [V.ref q6])=G18 at yG18 eq7 |-
 have SG18:=SG17.trans yG18
 replace es3:=(yG18 _ _ es3)
 replace as3:=(AllW.same yG18 as3)
 replace wp6:=(WrV.same yG18 wp6)
 replace eq5:=(yG18 _ _ eq5)
 replace eq6:=(yG18 _ _ eq6)
 refine ⟨q5,q7,_,_,rfl,rfl,eq5,eq7,Nat.le_of_lt (small1000 (by show tv0.length + 1<=1000; omega)),fun q8 hq8=>?_⟩
 have yG19:=same_new hq8 (HO.lst (tv0++[V.ref q6]))
 have eq8:=upd_same (H:=G18) (a:=q8) (o:=HO.lst (tv0++[V.ref q6]))
 generalize hhG19:upd G18 q8 (HO.lst (tv0++[V.ref q6]))=G19 at yG19 eq8 |-
 have SG19:=SG18.trans yG19
 replace es3:=(yG19 _ _ es3)
 replace as3:=(AllW.same yG19 as3)
 replace wp6:=(WrV.same yG19 wp6)
 replace eq5:=(yG19 _ _ eq5)
 replace eq6:=(yG19 _ _ eq6)
 replace eq7:=(yG19 _ _ eq7)
 refine ⟨_,rfl,(by show 2<=sizeLine; decide),fun p7 hp7=>?_⟩
 have yG20:=same_new hp7 (HO.tup [V.ref q8,V.ref ba])
 have ep7:=upd_same (H:=G19) (a:=p7) (o:=HO.tup [V.ref q8,V.ref ba])
 generalize hhG20:upd G19 p7 (HO.tup [V.ref q8,V.ref ba])=G20 at yG20 ep7 |-
 have SG20:=SG19.trans yG20
 replace es3:=(yG20 _ _ es3)
 replace as3:=(AllW.same yG20 as3)
 replace wp6:=(WrV.same yG20 wp6)
 replace eq6:=(yG20 _ _ eq6)
 replace eq8:=(yG20 _ _ eq8)
 have wp7:WrV n G20 (.ref p7):=wr1 ep7 (.lst eq8 (paired_snoc (R:=DV _) (.tup eq6 (dv_ints rl)) (dv_tab (TabV.same SG20 hT0)))) (DV.same SG20 dB0) (few_app (few_tab (by omega) rT0 (show n<=900 by omega)) ⟨(by show 1<=900; decide),fun d hd=>by
  rw [List.mem_singleton.mp hd]
  show (rl.map DK.int).length<=900
  rw [List.length_map,tabF_row (t:=t) (n:=n) (r:=rl) (by rw [eT0]; simp)]
  omega⟩ (by rw [List.length_map]; show T0.length + 1<=900; omega)) fB (tabD_row (d:=.tup (rl.map DK.int)) (by simp) rfl)
 refine ⟨(by show 0<=sizeLine; decide),fun q9 hq9=>?_⟩
 have yG21:=same_new hq9 (HO.lst [])
 have eq9:=upd_same (H:=G20) (a:=q9) (o:=HO.lst [])
 generalize hhG21:upd G20 q9 (HO.lst [])=G21 at yG21 eq9 |-
 have SG21:=SG20.trans yG21
 replace es3:=(yG21 _ _ es3)
 replace as3:=(AllW.same yG21 as3)
 replace wp6:=(WrV.same yG21 wp6)
 replace wp7:=(WrV.same yG21 wp7)
 refine ⟨(by show 0<=sizeLine; decide),fun qa hqa=>?_⟩
 have yG22:=same_new hqa (HO.lst [])
 have eqa:=upd_same (H:=G21) (a:=qa) (o:=HO.lst [])
 generalize hhG22:upd G21 qa (HO.lst [])=G22 at yG22 eqa |-
 have SG22:=SG21.trans yG22
 replace es3:=(yG22 _ _ es3)
 replace as3:=(AllW.same yG22 as3)
 replace wp6:=(WrV.same yG22 wp6)
 replace wp7:=(WrV.same yG22 wp7)
 replace eq9:=(yG22 _ _ eq9)
 refine ⟨(by show 2<=sizeLine; decide),fun p8 hp8=>?_⟩
 have yG23:=same_new hp8 (HO.tup [V.ref q9,V.ref qa])
 have ep8:=upd_same (H:=G22) (a:=p8) (o:=HO.tup [V.ref q9,V.ref qa])
 generalize hhG23:upd G22 p8 (HO.tup [V.ref q9,V.ref qa])=G23 at yG23 ep8 |-
 have SG23:=SG22.trans yG23
 replace es3:=(yG23 _ _ es3)
 replace as3:=(AllW.same yG23 as3)
 replace wp6:=(WrV.same yG23 wp6)
 replace wp7:=(WrV.same yG23 wp7)
 replace eq9:=(yG23 _ _ eq9)
 replace eqa:=(yG23 _ _ eqa)
 have wp8:WrV n G23 (.ref p8):=wr1 ep8 (.lst eq9 .nil) (.lst eqa .nil) ⟨by decide,fun _ h=>nomatch h⟩ ⟨by decide,fun _ h=>nomatch h⟩ (tabD_len (by show ((0:Nat):Int)≠_; omega))
 obtain ⟨fa,afa,efa,mfa⟩:=tab_at (i:=0) htv (by rw [tabF_len]; omega)
 refine ⟨_,rfl,_,rfl,ta,_,_,_,rfl,rfl,SqL.of (SG23 _ _ hta),afa,(by show 1<=sizeLine; decide),fun qb hqb=>?_⟩
 have yG24:=same_new hqb (HO.lst [V.ref fa])
 have eqb:=upd_same (H:=G23) (a:=qb) (o:=HO.lst [V.ref fa])
 generalize hhG24:upd G23 qb (HO.lst [V.ref fa])=G24 at yG24 eqb |-
 have SG24:=SG23.trans yG24
 replace es3:=(yG24 _ _ es3)
 replace as3:=(AllW.same yG24 as3)
 replace wp6:=(WrV.same yG24 wp6)
 replace wp7:=(WrV.same yG24 wp7)
 replace wp8:=(WrV.same yG24 wp8)
 refine ⟨ta,qb,_,_,rfl,rfl,(SG24 _ _ hta),eqb,Nat.le_of_lt (small1000 (by show tv.length + 1<=1000; omega)),fun qc hqc=>?_⟩
 have yG25:=same_new hqc (HO.lst (tv++[V.ref fa]))
 have eqc:=upd_same (H:=G24) (a:=qc) (o:=HO.lst (tv++[V.ref fa]))
 generalize hhG25:upd G24 qc (HO.lst (tv++[V.ref fa]))=G25 at yG25 eqc |-
 have SG25:=SG24.trans yG25
 replace es3:=(yG25 _ _ es3)
 replace as3:=(AllW.same yG25 as3)
 replace wp6:=(WrV.same yG25 wp6)
 replace wp7:=(WrV.same yG25 wp7)
 replace wp8:=(WrV.same yG25 wp8)
 replace eqb:=(yG25 _ _ eqb)
 refine ⟨_,rfl,(by show 2<=sizeLine; decide),fun p9 hp9=>?_⟩
 have yG26:=same_new hp9 (HO.tup [V.ref qc,V.ref ba])
 have ep9:=upd_same (H:=G25) (a:=p9) (o:=HO.tup [V.ref qc,V.ref ba])
 generalize hhG26:upd G25 p9 (HO.tup [V.ref qc,V.ref ba])=G26 at yG26 ep9 |-
 have SG26:=SG25.trans yG26
 replace es3:=(yG26 _ _ es3)
 replace as3:=(AllW.same yG26 as3)
 replace wp6:=(WrV.same yG26 wp6)
 replace wp7:=(WrV.same yG26 wp7)
 replace wp8:=(WrV.same yG26 wp8)
 replace eqc:=(yG26 _ _ eqc)
 have wp9:WrV n G26 (.ref p9):=wr1 ep9 (.lst eqc (paired_snoc (R:=DV _) (.lst (SG26 _ _ efa) (dv_ints _)) (dv_tab (TabV.same SG26 htv)))) (DV.same SG26 dB0) (few_app fT ⟨(by show 1<=900; decide),fun d hd=>by
  rw [List.mem_singleton.mp hd]
  show (List.map DK.int _).length<=900
  rw [List.length_map,tabF_row mfa]
  omega⟩ (by rw [lK]; show n + 1<=900; omega)) fB (tabD_len (by rw [List.length_append,lK]; show ((n + 1:Nat):Int)≠_; omega))
 refine ⟨(by show 4<=sizeLine; decide),fun s4 hs4=>?_⟩
 have yG27:=same_new hs4 (HO.lst [V.ref p6,V.ref p7,V.ref p8,V.ref p9])
 have es4:=upd_same (H:=G26) (a:=s4) (o:=HO.lst [V.ref p6,V.ref p7,V.ref p8,V.ref p9])
 generalize hhG27:upd G26 s4 (HO.lst [V.ref p6,V.ref p7,V.ref p8,V.ref p9])=G27 at yG27 es4 |-
 have SG27:=SG26.trans yG27
 replace es3:=(yG27 _ _ es3)
 replace as3:=(AllW.same yG27 as3)
 replace wp6:=(WrV.same yG27 wp6)
 replace wp7:=(WrV.same yG27 wp7)
 replace wp8:=(WrV.same yG27 wp8)
 replace wp9:=(WrV.same yG27 wp9)
 have as4:AllW n G27 [V.ref p6,V.ref p7,V.ref p8,V.ref p9]:=.cons wp6 (.cons wp7 (.cons wp8 (.cons wp9 (AllW.nil))))
 refine ⟨s3,s4,_,_,rfl,rfl,es3,es4,(by show 6 + 4<=sizeLine; decide),fun s5 hs5=>?_⟩
 have yG28:=same_new hs5 (HO.lst ([V.ref p0,V.ref p1,V.ref p2,V.ref p3,V.ref p4,V.ref p5]++[V.ref p6,V.ref p7,V.ref p8,V.ref p9]))
 have es5:=upd_same (H:=G27) (a:=s5) (o:=HO.lst ([V.ref p0,V.ref p1,V.ref p2,V.ref p3,V.ref p4,V.ref p5]++[V.ref p6,V.ref p7,V.ref p8,V.ref p9]))
 generalize hhG28:upd G27 s5 (HO.lst ([V.ref p0,V.ref p1,V.ref p2,V.ref p3,V.ref p4,V.ref p5]++[V.ref p6,V.ref p7,V.ref p8,V.ref p9]))=G28 at yG28 es5 |-
 have SG28:=SG27.trans yG28
 replace es3:=(yG28 _ _ es3)
 replace as3:=(AllW.same yG28 as3)
 replace es4:=(yG28 _ _ es4)
 replace as4:=(AllW.same yG28 as4)
 replace es5:G28 s5=some (.lst [V.ref p0,V.ref p1,V.ref p2,V.ref p3,V.ref p4,V.ref p5,V.ref p6,V.ref p7,V.ref p8,V.ref p9]):=es5
 have as5:AllW n G28 [V.ref p0,V.ref p1,V.ref p2,V.ref p3,V.ref p4,V.ref p5,V.ref p6,V.ref p7,V.ref p8,V.ref p9]:=AllW.app as3 as4
 show u_8 _ [some (.ref ta),some (.ref ba),some (.int c),some (.int (n:Int)),some (.ref ml),some (.ref ca),some (.ref wl),some (.ref s5)] _
 rw [E_8]
 try dsimp only [cxOf,Cx.nox,Cx.wish]
 refine ⟨_,rfl,?_⟩
 refine ⟨(by show 1<=sizeLine; decide),fun zaa hzaa=>?_⟩
 have yG29:=same_new hzaa (HO.lst [V.int 0])
 have ezaa:=upd_same (H:=G28) (a:=zaa) (o:=HO.lst [V.int 0])
 generalize hhG29:upd G28 zaa (HO.lst [V.int 0])=G29 at yG29 ezaa |-
 have SG29:=SG28.trans yG29
 replace es5:=(yG29 _ _ es5)
 replace as5:=(AllW.same yG29 as5)
 refine ⟨_,rfl,zaa,(n:Int),_,rfl,rfl,ezaa,(by omega),(by omega),(by show 1 * ((n:Nat):Int).toNat<=_; exact Nat.le_of_lt (small1000 (by omega))),fun zab hzab=>?_⟩
 rw [Int.toNat_natCast]
 have yG30:=same_new hzab (HO.lst (List.replicate n [V.int 0]).flatten)
 have ezab:=upd_same (H:=G29) (a:=zab) (o:=HO.lst (List.replicate n [V.int 0]).flatten)
 generalize hhG30:upd G29 zab (HO.lst (List.replicate n [V.int 0]).flatten)=G30 at yG30 ezab |-
 have SG30:=SG29.trans yG30
 replace es5:=(yG30 _ _ es5)
 replace as5:=(AllW.same yG30 as5)
 replace ezaa:=(yG30 _ _ ezaa)
 refine ⟨(by show 1<=sizeLine; decide),fun zac hzac=>?_⟩
 have yG31:=same_new hzac (HO.lst [V.ref zab])
 have ezac:=upd_same (H:=G30) (a:=zac) (o:=HO.lst [V.ref zab])
 generalize hhG31:upd G30 zac (HO.lst [V.ref zab])=G31 at yG31 ezac |-
 have SG31:=SG30.trans yG31
 replace es5:=(yG31 _ _ es5)
 replace as5:=(AllW.same yG31 as5)
 replace ezab:=(yG31 _ _ ezab)
 refine ⟨_,rfl,zac,(n:Int),_,rfl,rfl,ezac,(by omega),(by omega),(by show 1 * ((n:Nat):Int).toNat<=_; exact Nat.le_of_lt (small1000 (by omega))),fun zad hzad=>?_⟩
 rw [Int.toNat_natCast]
 have yG32:=same_new hzad (HO.lst (List.replicate n [V.ref zab]).flatten)
 have ezad:=upd_same (H:=G31) (a:=zad) (o:=HO.lst (List.replicate n [V.ref zab]).flatten)
 generalize hhG32:upd G31 zad (HO.lst (List.replicate n [V.ref zab]).flatten)=G32 at yG32 ezad |-
 have SG32:=SG31.trans yG32
 replace es5:=(yG32 _ _ es5)
 replace as5:=(AllW.same yG32 as5)
 replace ezab:=(yG32 _ _ ezab)
 replace ezac:=(yG32 _ _ ezac)
 refine ⟨_,rfl,(by show 2<=sizeLine; decide),fun pa hpa=>?_⟩
 have yG33:=same_new hpa (HO.tup [V.ref zad,V.ref ba])
 have epa:=upd_same (H:=G32) (a:=pa) (o:=HO.tup [V.ref zad,V.ref ba])
 generalize hhG33:upd G32 pa (HO.tup [V.ref zad,V.ref ba])=G33 at yG33 epa |-
 have SG33:=SG32.trans yG33
 replace es5:=(yG33 _ _ es5)
 replace as5:=(AllW.same yG33 as5)
 replace ezab:=(yG33 _ _ ezab)
 replace ezad:=(yG33 _ _ ezad)
 have wpa:WrV n G33 (.ref pa):=⟨pa,_,_,rfl,epa,.inr ⟨zad,ba,_,bv,_,_,rfl,rfl,ezad,paired_rep (R:=LstI _) ⟨zab,rfl,ezab.trans (by rw [rep_ints])⟩ n,(SG33 _ _ hba),(TabV.same SG33 hbv),⟨List.length_replicate,fun r hr=>by
  rw [(List.mem_replicate.mp hr).2]
  refine ⟨List.length_replicate,fun x hx=>?_⟩
  rw [(List.mem_replicate.mp hx).2]
  have:Bd 10 (0:Int):=Bd.lit
  exact this.mono (by decide)⟩,BB,zero_ne n1⟩⟩
 refine ⟨_,rfl,?_⟩
 refine ⟨(by show 1<=sizeLine; decide),fun zba hzba=>?_⟩
 have yG34:=same_new hzba (HO.lst [V.non])
 have ezba:=upd_same (H:=G33) (a:=zba) (o:=HO.lst [V.non])
 generalize hhG34:upd G33 zba (HO.lst [V.non])=G34 at yG34 ezba |-
 have SG34:=SG33.trans yG34
 replace es5:=(yG34 _ _ es5)
 replace as5:=(AllW.same yG34 as5)
 replace wpa:=(WrV.same yG34 wpa)
 refine ⟨_,rfl,zba,(n:Int),_,rfl,rfl,ezba,(by omega),(by omega),(by show 1 * ((n:Nat):Int).toNat<=_; exact Nat.le_of_lt (small1000 (by omega))),fun zbb hzbb=>?_⟩
 rw [Int.toNat_natCast]
 have yG35:=same_new hzbb (HO.lst (List.replicate n [V.non]).flatten)
 have ezbb:=upd_same (H:=G34) (a:=zbb) (o:=HO.lst (List.replicate n [V.non]).flatten)
 generalize hhG35:upd G34 zbb (HO.lst (List.replicate n [V.non]).flatten)=G35 at yG35 ezbb |-
 have SG35:=SG34.trans yG35
 replace es5:=(yG35 _ _ es5)
 replace as5:=(AllW.same yG35 as5)
 replace wpa:=(WrV.same yG35 wpa)
 replace ezba:=(yG35 _ _ ezba)
 refine ⟨(by show 1<=sizeLine; decide),fun zbc hzbc=>?_⟩
 have yG36:=same_new hzbc (HO.lst [V.ref zbb])
 have ezbc:=upd_same (H:=G35) (a:=zbc) (o:=HO.lst [V.ref zbb])
 generalize hhG36:upd G35 zbc (HO.lst [V.ref zbb])=G36 at yG36 ezbc |-
 have SG36:=SG35.trans yG36
 replace es5:=(yG36 _ _ es5)
 replace as5:=(AllW.same yG36 as5)
 replace wpa:=(WrV.same yG36 wpa)
 replace ezbb:=(yG36 _ _ ezbb)
 refine ⟨_,rfl,zbc,(n:Int),_,rfl,rfl,ezbc,(by omega),(by omega),(by show 1 * ((n:Nat):Int).toNat<=_; exact Nat.le_of_lt (small1000 (by omega))),fun zbd hzbd=>?_⟩
 rw [Int.toNat_natCast]
 have yG37:=same_new hzbd (HO.lst (List.replicate n [V.ref zbb]).flatten)
 have ezbd:=upd_same (H:=G36) (a:=zbd) (o:=HO.lst (List.replicate n [V.ref zbb]).flatten)
 generalize hhG37:upd G36 zbd (HO.lst (List.replicate n [V.ref zbb]).flatten)=G37 at yG37 ezbd |-
 have SG37:=SG36.trans yG37
 replace es5:=(yG37 _ _ es5)
 replace as5:=(AllW.same yG37 as5)
 replace wpa:=(WrV.same yG37 wpa)
 replace ezbb:=(yG37 _ _ ezbb)
 replace ezbc:=(yG37 _ _ ezbc)
 refine ⟨(by show 2<=sizeLine; decide),fun pb hpb=>?_⟩
 have yG38:=same_new hpb (HO.tup [V.ref ta,V.ref zbd])
 have epb:=upd_same (H:=G37) (a:=pb) (o:=HO.tup [V.ref ta,V.ref zbd])
 generalize hhG38:upd G37 pb (HO.tup [V.ref ta,V.ref zbd])=G38 at yG38 epb |-
 have SG38:=SG37.trans yG38
 replace es5:=(yG38 _ _ es5)
 replace as5:=(AllW.same yG38 as5)
 replace wpa:=(WrV.same yG38 wpa)
 replace ezbb:=(yG38 _ _ ezbb)
 replace ezbd:=(yG38 _ _ ezbd)
 have wpb:WrV n G38 (.ref pb):=wr2 epb (DV.same SG38 dT0) (.lst ezbd (paired_rep (R:=DV _) (.lst ezbb (paired_rep (R:=DV _) .non n)) n)) fT (few_rep (show fewD (.lst (List.replicate n DK.non)) by show (List.replicate n _).length<=900; rw [List.length_replicate]; omega) (by omega)) (tabD_row (mem_rep n1) (numsD_one (mem_rep n1) rfl))
 refine ⟨(by show 1<=sizeLine; decide),fun zca hzca=>?_⟩
 have yG39:=same_new hzca (HO.lst [V.str "1"])
 have ezca:=upd_same (H:=G38) (a:=zca) (o:=HO.lst [V.str "1"])
 generalize hhG39:upd G38 zca (HO.lst [V.str "1"])=G39 at yG39 ezca |-
 have SG39:=SG38.trans yG39
 replace es5:=(yG39 _ _ es5)
 replace as5:=(AllW.same yG39 as5)
 replace wpa:=(WrV.same yG39 wpa)
 replace wpb:=(WrV.same yG39 wpb)
 refine ⟨_,rfl,zca,(n:Int),_,rfl,rfl,ezca,(by omega),(by omega),(by show 1 * ((n:Nat):Int).toNat<=_; exact Nat.le_of_lt (small1000 (by omega))),fun zcb hzcb=>?_⟩
 rw [Int.toNat_natCast]
 have yG40:=same_new hzcb (HO.lst (List.replicate n [V.str "1"]).flatten)
 have ezcb:=upd_same (H:=G39) (a:=zcb) (o:=HO.lst (List.replicate n [V.str "1"]).flatten)
 generalize hhG40:upd G39 zcb (HO.lst (List.replicate n [V.str "1"]).flatten)=G40 at yG40 ezcb |-
 have SG40:=SG39.trans yG40
 replace es5:=(yG40 _ _ es5)
 replace as5:=(AllW.same yG40 as5)
 replace wpa:=(WrV.same yG40 wpa)
 replace wpb:=(WrV.same yG40 wpb)
 replace ezca:=(yG40 _ _ ezca)
 refine ⟨(by show 1<=sizeLine; decide),fun zcc hzcc=>?_⟩
 have yG41:=same_new hzcc (HO.lst [V.ref zcb])
 have ezcc:=upd_same (H:=G40) (a:=zcc) (o:=HO.lst [V.ref zcb])
 generalize hhG41:upd G40 zcc (HO.lst [V.ref zcb])=G41 at yG41 ezcc |-
 have SG41:=SG40.trans yG41
 replace es5:=(yG41 _ _ es5)
 replace as5:=(AllW.same yG41 as5)
 replace wpa:=(WrV.same yG41 wpa)
 replace wpb:=(WrV.same yG41 wpb)
 replace ezcb:=(yG41 _ _ ezcb)
 refine ⟨_,rfl,zcc,(n:Int),_,rfl,rfl,ezcc,(by omega),(by omega),(by show 1 * ((n:Nat):Int).toNat<=_; exact Nat.le_of_lt (small1000 (by omega))),fun zcd hzcd=>?_⟩
 rw [Int.toNat_natCast]
 have yG42:=same_new hzcd (HO.lst (List.replicate n [V.ref zcb]).flatten)
 have ezcd:=upd_same (H:=G41) (a:=zcd) (o:=HO.lst (List.replicate n [V.ref zcb]).flatten)
 generalize hhG42:upd G41 zcd (HO.lst (List.replicate n [V.ref zcb]).flatten)=G42 at yG42 ezcd |-
 have SG42:=SG41.trans yG42
 replace es5:=(yG42 _ _ es5)
 replace as5:=(AllW.same yG42 as5)
 replace wpa:=(WrV.same yG42 wpa)
 replace wpb:=(WrV.same yG42 wpb)
 replace ezcb:=(yG42 _ _ ezcb)
 replace ezcc:=(yG42 _ _ ezcc)
 refine ⟨_,rfl,(by show 2<=sizeLine; decide),fun pc hpc=>?_⟩
 have yG43:=same_new hpc (HO.tup [V.ref zcd,V.ref ba])
 have epc:=upd_same (H:=G42) (a:=pc) (o:=HO.tup [V.ref zcd,V.ref ba])
 generalize hhG43:upd G42 pc (HO.tup [V.ref zcd,V.ref ba])=G43 at yG43 epc |-
 have SG43:=SG42.trans yG43
 replace es5:=(yG43 _ _ es5)
 replace as5:=(AllW.same yG43 as5)
 replace wpa:=(WrV.same yG43 wpa)
 replace wpb:=(WrV.same yG43 wpb)
 replace ezcb:=(yG43 _ _ ezcb)
 replace ezcd:=(yG43 _ _ ezcd)
 have wpc:WrV n G43 (.ref pc):=wr1 epc (.lst ezcd (paired_rep (R:=DV _) (.lst ezcb (paired_rep (R:=DV _) (.str "1") n)) n)) (DV.same SG43 dB0) (few_rep (show fewD (.lst (List.replicate n (DK.str "1"))) by show (List.replicate n _).length<=900; rw [List.length_replicate]; omega) (by omega)) fB (tabD_row (mem_rep n1) (numsD_one (mem_rep n1) rfl))
 refine ⟨(by show 3<=sizeLine; decide),fun s6 hs6=>?_⟩
 have yG44:=same_new hs6 (HO.lst [V.ref pa,V.ref pb,V.ref pc])
 have es6:=upd_same (H:=G43) (a:=s6) (o:=HO.lst [V.ref pa,V.ref pb,V.ref pc])
 generalize hhG44:upd G43 s6 (HO.lst [V.ref pa,V.ref pb,V.ref pc])=G44 at yG44 es6 |-
 have SG44:=SG43.trans yG44
 replace es5:=(yG44 _ _ es5)
 replace as5:=(AllW.same yG44 as5)
 replace wpa:=(WrV.same yG44 wpa)
 replace wpb:=(WrV.same yG44 wpb)
 replace wpc:=(WrV.same yG44 wpc)
 have as6:AllW n G44 [V.ref pa,V.ref pb,V.ref pc]:=.cons wpa (.cons wpb (.cons wpc (AllW.nil)))
 refine ⟨s5,s6,_,_,rfl,rfl,es5,es6,(by show 10 + 3<=sizeLine; decide),fun s7 hs7=>?_⟩
 have yG45:=same_new hs7 (HO.lst ([V.ref p0,V.ref p1,V.ref p2,V.ref p3,V.ref p4,V.ref p5,V.ref p6,V.ref p7,V.ref p8,V.ref p9]++[V.ref pa,V.ref pb,V.ref pc]))
 have es7:=upd_same (H:=G44) (a:=s7) (o:=HO.lst ([V.ref p0,V.ref p1,V.ref p2,V.ref p3,V.ref p4,V.ref p5,V.ref p6,V.ref p7,V.ref p8,V.ref p9]++[V.ref pa,V.ref pb,V.ref pc]))
 generalize hhG45:upd G44 s7 (HO.lst ([V.ref p0,V.ref p1,V.ref p2,V.ref p3,V.ref p4,V.ref p5,V.ref p6,V.ref p7,V.ref p8,V.ref p9]++[V.ref pa,V.ref pb,V.ref pc]))=G45 at yG45 es7 |-
 have SG45:=SG44.trans yG45
 replace es5:=(yG45 _ _ es5)
 replace as5:=(AllW.same yG45 as5)
 replace es6:=(yG45 _ _ es6)
 replace as6:=(AllW.same yG45 as6)
 replace es7:G45 s7=some (.lst [V.ref p0,V.ref p1,V.ref p2,V.ref p3,V.ref p4,V.ref p5,V.ref p6,V.ref p7,V.ref p8,V.ref p9,V.ref pa,V.ref pb,V.ref pc]):=es7
 have as7:AllW n G45 [V.ref p0,V.ref p1,V.ref p2,V.ref p3,V.ref p4,V.ref p5,V.ref p6,V.ref p7,V.ref p8,V.ref p9,V.ref pa,V.ref pb,V.ref pc]:=AllW.app as5 as6
 show u_9 _ [some (.ref ta),some (.ref ba),some (.int c),some (.int (n:Int)),some (.ref ml),some (.ref ca),some (.ref wl),some (.ref s7)] _
 rw [E_9]
 try dsimp only [cxOf,Cx.nox,Cx.wish]
 refine ⟨_,rfl,_,rfl,_,rfl,ba,rfl,⟨_,SqL.of (SG45 _ _ hba)⟩,comp_list (K:=K) (a:=ba) (xs:=bv) (fun i ys σ H'=>TabV H' ys (((tabF n b).take i).map fun r=>r.map fun x=>2 * x)/\(∃ o,σ=[o])/\Same G45 H')
  ⟨.nil,⟨none,rfl⟩,Same.refl _⟩ (fun i ys σ H' hi ⟨e1,_,sm⟩=>⟨SqL.of (sm _ _ (SG45 _ _ hba)),by have:=Paired.length e1; rw [List.length_map,List.length_take] at this; omega⟩) (Nat.le_of_lt (small1000 (by omega))) ?_ ?_⟩
 ·rintro i x ys σ H' hi ⟨hz,⟨o,rfl⟩,sm⟩
  obtain ⟨r,hr',a,rfl,ea⟩:=paired_get hbv hi
  have lr:r.length=n:=tabF_row (List.mem_of_getElem? hr')
  have s0:=SG45.trans sm
  refine ⟨_,rfl,a,rfl,⟨_,SqL.of (s0 _ _ ea)⟩,comp_list (K:=K) (a:=a) (xs:=r.map V.int) (fun k zs σ H2=>zs=((r.take k).map fun x=>2 * x).map V.int/\(∃ o,σ=[o])/\H2=H')
   ⟨rfl,⟨none,rfl⟩,rfl⟩ (fun k zs σ H2 hk ⟨e1,_,e3⟩=>⟨by rw [e3]; exact SqL.of (s0 _ _ ea),by rw [e1,List.length_map,List.length_map,List.length_take]; exact Nat.min_le_left _ _⟩) (by rw [List.length_map]; exact Nat.le_of_lt (small1000 (by omega))) ?_ ?_⟩
  ·rintro k x zs σ H2 hk ⟨rfl,⟨o2,rfl⟩,rfl⟩
   obtain ⟨x0,hx0,rfl⟩:=ints_get hk
   refine ⟨_,rfl,_,_,rfl,rfl,⟨b2.mono (by decide),((BB.row r (List.mem_of_getElem? hr')).2 x0 (List.mem_of_getElem? hx0)).mono (by decide)⟩,?_,⟨_,rfl⟩,rfl⟩
   rw [take_snoc hx0,List.map_append,List.map_append]
   rfl
  rintro zs σ H2 ⟨rfl,⟨o2,rfl⟩,hZ⟩ c2 hc2
  rw [hZ] at hc2 |-
  clear hZ
  rw [take_all (by rw [List.length_map]; exact Nat.le_refl _)]
  have z2:=same_new hc2 (HO.lst ((r.map fun x=>2 * x).map V.int))
  refine ⟨?_,⟨_,rfl⟩,sm.trans z2⟩
  rw [take_snoc hr',List.map_append]
  exact paired_snoc (R:=LstI _) ⟨c2,rfl,upd_same⟩ (TabV.same z2 hz)
 rintro dv σ J4 ⟨hdv,⟨o1,rfl⟩,y4⟩ dl hdl
 rw [take_all (by rw [tabF_len]; omega)] at hdv
 have SG46:=SG45.trans y4
 replace es7:=(y4 _ _ es7)
 replace as7:=(AllW.same y4 as7)
 have yG47:=same_new hdl (HO.lst dv)
 have edl:=upd_same (H:=J4) (a:=dl) (o:=HO.lst dv)
 generalize hhG47:upd J4 dl (HO.lst dv)=G47 at yG47 edl |-
 have SG47:=SG46.trans yG47
 replace es7:=(yG47 _ _ es7)
 replace as7:=(AllW.same yG47 as7)
 replace hdv:=(TabV.same yG47 hdv)
 refine ⟨(by show 2<=sizeLine; decide),fun pd hpd=>?_⟩
 have yG48:=same_new hpd (HO.tup [V.ref ta,V.ref dl])
 have epd:=upd_same (H:=G47) (a:=pd) (o:=HO.tup [V.ref ta,V.ref dl])
 generalize hhG48:upd G47 pd (HO.tup [V.ref ta,V.ref dl])=G48 at yG48 epd |-
 have SG48:=SG47.trans yG48
 replace es7:=(yG48 _ _ es7)
 replace as7:=(AllW.same yG48 as7)
 replace hdv:=(TabV.same yG48 hdv)
 replace edl:=(yG48 _ _ edl)
 have wpd:WrV n G48 (.ref pd):=⟨pd,_,_,rfl,epd,.inr ⟨ta,dl,tv,dv,_,_,rfl,rfl,(SG48 _ _ hta),(TabV.same SG48 htv),edl,hdv,TT,⟨by rw [List.length_map,tabF_len],fun r hr=>by
  obtain ⟨r0,h0,rfl⟩:=List.mem_map.mp hr
  refine ⟨by rw [List.length_map,tabF_row h0],fun x hx=>?_⟩
  obtain ⟨x0,hx0,rfl⟩:=List.mem_map.mp hx
  obtain ⟨i9,hi9,rfl⟩:=List.mem_map.mp h0
  obtain ⟨j9,hj9,rfl⟩:=List.mem_map.mp hx0
  exact (b2.mul (BD i9 j9 (List.mem_range.mp hi9) (List.mem_range.mp hj9)).2).mono (by decide)⟩,two_ne n1⟩⟩
 refine ⟨(by show 2<=sizeLine; decide),fun pe hpe=>?_⟩
 have yG49:=same_new hpe (HO.tup [V.int 5,V.str "back"])
 have epe:=upd_same (H:=G48) (a:=pe) (o:=HO.tup [V.int 5,V.str "back"])
 generalize hhG49:upd G48 pe (HO.tup [V.int 5,V.str "back"])=G49 at yG49 epe |-
 have SG49:=SG48.trans yG49
 replace es7:=(yG49 _ _ es7)
 replace as7:=(AllW.same yG49 as7)
 replace wpd:=(WrV.same yG49 wpd)
 have wpe:WrV n G49 (.ref pe):=wr1 epe (.int 5) (.str "back") trivial trivial rfl
 refine ⟨(by show 2<=sizeLine; decide),fun s8 hs8=>?_⟩
 have yG50:=same_new hs8 (HO.lst [V.ref pd,V.ref pe])
 have es8:=upd_same (H:=G49) (a:=s8) (o:=HO.lst [V.ref pd,V.ref pe])
 generalize hhG50:upd G49 s8 (HO.lst [V.ref pd,V.ref pe])=G50 at yG50 es8 |-
 have SG50:=SG49.trans yG50
 replace es7:=(yG50 _ _ es7)
 replace as7:=(AllW.same yG50 as7)
 replace wpd:=(WrV.same yG50 wpd)
 replace wpe:=(WrV.same yG50 wpe)
 have as8:AllW n G50 [V.ref pd,V.ref pe]:=.cons wpd (.cons wpe (AllW.nil))
 refine ⟨s7,s8,_,_,rfl,rfl,es7,es8,(by show 13 + 2<=sizeLine; decide),fun s9 hs9=>?_⟩
 have yG51:=same_new hs9 (HO.lst ([V.ref p0,V.ref p1,V.ref p2,V.ref p3,V.ref p4,V.ref p5,V.ref p6,V.ref p7,V.ref p8,V.ref p9,V.ref pa,V.ref pb,V.ref pc]++[V.ref pd,V.ref pe]))
 have es9:=upd_same (H:=G50) (a:=s9) (o:=HO.lst ([V.ref p0,V.ref p1,V.ref p2,V.ref p3,V.ref p4,V.ref p5,V.ref p6,V.ref p7,V.ref p8,V.ref p9,V.ref pa,V.ref pb,V.ref pc]++[V.ref pd,V.ref pe]))
 generalize hhG51:upd G50 s9 (HO.lst ([V.ref p0,V.ref p1,V.ref p2,V.ref p3,V.ref p4,V.ref p5,V.ref p6,V.ref p7,V.ref p8,V.ref p9,V.ref pa,V.ref pb,V.ref pc]++[V.ref pd,V.ref pe]))=G51 at yG51 es9 |-
 have SG51:=SG50.trans yG51
 replace es7:=(yG51 _ _ es7)
 replace as7:=(AllW.same yG51 as7)
 replace es8:=(yG51 _ _ es8)
 replace as8:=(AllW.same yG51 as8)
 replace es9:G51 s9=some (.lst [V.ref p0,V.ref p1,V.ref p2,V.ref p3,V.ref p4,V.ref p5,V.ref p6,V.ref p7,V.ref p8,V.ref p9,V.ref pa,V.ref pb,V.ref pc,V.ref pd,V.ref pe]):=es9
 have as9:AllW n G51 [V.ref p0,V.ref p1,V.ref p2,V.ref p3,V.ref p4,V.ref p5,V.ref p6,V.ref p7,V.ref p8,V.ref p9,V.ref pa,V.ref pb,V.ref pc,V.ref pd,V.ref pe]:=AllW.app as7 as8
 obtain ⟨xz,hxz,axz⟩:=at_mem (xs:=[V.ref p0,V.ref p1,V.ref p2,V.ref p3,V.ref p4,V.ref p5,V.ref p6,V.ref p7,V.ref p8,V.ref p9,V.ref pa,V.ref pb,V.ref pc,V.ref pd,V.ref pe]) k0 (by show _ < ((15:Nat):Int); omega)
 obtain ⟨rz,v1,v2,rfl,erz,wrz⟩:=as9 xz hxz
 exact ⟨_,rfl,_,_,rfl,rfl,⟨by decide,b9.mono (by decide)⟩,_,_,rfl,rfl,(show (15:Int)≠0 by decide),s9,_,_,_,rfl,rfl,SqL.of es9,axz,q rz v1 v2 _ SG51 erz wrz⟩
end
theorem take_last {r:List Int} {n:Nat} (hr:r.length=n + 1):r.take n++[r.getD n 0]=r:=by
 conv=>rhs; rw [<- List.take_append_drop n r]
 congr 1
 rw [List.drop_eq_getElem_cons (by omega),List.drop_of_length_le (by omega),List.getD_eq_getElem?_getD,List.getElem?_eq_getElem (by omega)]
 rfl
theorem turnR_back {n:Nat} {T B:List (List Int)} {r:List Int} (hr:r.length=n + 1) (hB:∀ x∈B,x.length=n) (e:prodM B T n=unitsM n):turnR n T (turnR n B r)=r:=by
 have h1:(turnR n B r).take n=(List.range n).map (plcL (r.take n) B):=by
  unfold turnR
  rw [List.take_append_of_le_length (by rw [List.length_map,List.length_range]; exact Nat.le_refl _),take_all (by rw [List.length_map,List.length_range]; exact Nat.le_refl _)]
 have h2:(turnR n B r).getD n 0=r.getD n 0:=by
  unfold turnR
  rw [List.getD_eq_getElem?_getD,List.getElem?_append_right (by rw [List.length_map,List.length_range]; exact Nat.le_refl _),List.length_map,List.length_range,Nat.sub_self]
  rfl
 rw [show turnR n T (turnR n B r)=(List.range n).map (plcL ((turnR n B r).take n) T)++[(turnR n B r).getD n 0] from rfl,h1,h2,rm_rm hB,e,rm_units (by rw [List.length_take]; omega)]
 exact take_last hr
theorem prod_row {X Y:List (List Int)} {w:Nat}:∀ r∈prodM X Y w,r.length=w:=fun r hr=>by
 obtain ⟨q,_,rfl⟩:=List.mem_map.mp hr
 rw [List.length_map,List.length_range]
theorem tmM_back {n w:Nat} {T B:List (List Int)} {m:MD} (h:MDOk m n w) (hT:∀ r∈T,r.length=n) (hB:∀ r∈B,r.length=n) (e:prodM B T n=unitsM n):tmM n w B T (tmM n w T B m)=m:=by
 have a1:(m.rows.map (turnR n B)).map (turnR n T)=m.rows:=by
  rw [List.map_map]
  exact (List.map_congr_left fun r hr=>turnR_back (h.rows r hr) hB e).trans (List.map_id'' (fun _=>rfl) _)
 have a2:prodM (prodM B (prodM (prodM T m.nexts n) B n) n) T n=m.nexts:=by
  rw [prod_assoc prod_row,prod_assoc hB,e,prod_units prod_row,<- prod_assoc hT,e,units_prod h.nexts.1 h.nexts.2]
 have a3:=dot_back (v:=m.steer) hT e h.steer
 have a4:prodM B (prodM T m.push w) w=m.push:=by
  rw [<- prod_assoc hT,e,units_prod h.push.1 h.push.2]
 have a5:=dot_back (v:=m.add) hT e h.add
 show (⟨(m.rows.map (turnR n B)).map (turnR n T),prodM (prodM B (prodM (prodM T m.nexts n) B n) n) T n,B.map (fun ns=>sumP ns (T.map fun q=>sumP q m.steer)),prodM B (prodM T m.push w) w,B.map (fun ns=>sumP ns (T.map fun q=>sumP q m.add)),m.div⟩:MD)=m
 rw [a1,a2,a3,a4,a5]
theorem tms_back {n w:Nat} {T B:List (List Int)} {ms:List MD} (h:∀ m∈ms,MDOk m n w) (hT:∀ r∈T,r.length=n) (hB:∀ r∈B,r.length=n) (e:prodM B T n=unitsM n):(ms.map (tmM n w T B)).map (tmM n w B T)=ms:=by
 rw [List.map_map]
 exact (List.map_congr_left fun m hm=>tmM_back (h m hm) hT hB e).trans (List.map_id'' (fun _=>rfl) _)
theorem turnR_bd {n:Nat} {B:List (List Int)} {r:List Int} {a b:Nat} (hr:r.length=n + 1) (br:∀ x∈r,Bd a x) (hB:TbB B n n b):∀ x∈turnR n B r,Bd (a + b + n + 1) x:=fun x hx=>by
 rcases List.mem_append.mp hx with hx | hx
 ·have P:TbB [r.take n] 1 n a:=⟨rfl,fun q hq=>by
   rw [List.mem_singleton.mp hq]
   exact ⟨by rw [List.length_take]; omega,fun y hy=>br y (List.mem_of_mem_take hy)⟩⟩
  exact ((prodM_b P hB).row _ (List.mem_singleton.mpr rfl)).2 x hx
 ·rw [List.mem_singleton.mp hx]
  exact (br _ (getD_mem (by omega))).mono (by omega)
theorem tmM_bd {n w:Nat} {T B:List (List Int)} {m:MD} (h:MDOk m n w) (N:MN m 101) (hT:TbB T n n 40) (hB:TbB B n n 40):MN (tmM n w T B m) 400:=by
 have n3:=h.n3
 have NX:TbB m.nexts n n 101:=⟨h.nexts.1,fun r hr=>⟨h.nexts.2 r hr,N.nexts r hr⟩⟩
 have PX:TbB m.push n w 101:=⟨h.push.1,fun r hr=>⟨h.push.2 r hr,N.push r hr⟩⟩
 refine ⟨fun r hr x hx=>?_,fun r hr x hx=>?_,fun x hx=>?_,fun r hr x hx=>?_,fun x hx=>?_⟩
 ·obtain ⟨q,hq,rfl⟩:=List.mem_map.mp hr
  exact (turnR_bd (h.rows q hq) (N.rows q hq) hB x hx).mono (by omega)
 ·exact (((prodM_b (prodM_b hT NX) hB).row r hr).2 x hx).mono (by omega)
 ·obtain ⟨q,hq,rfl⟩:=List.mem_map.mp hx
  obtain ⟨lq,bq⟩:=hT.row q hq
  exact (sumP_bd bq N.steer).mono (by omega)
 ·exact (((prodM_b hT PX).row r hr).2 x hx).mono (by omega)
 ·obtain ⟨q,hq,rfl⟩:=List.mem_map.mp hx
  obtain ⟨lq,bq⟩:=hT.row q hq
  exact (sumP_bd bq N.add).mono (by omega)
theorem tabF_bd {n e:Nat} {t:Nat->Nat->Int} (h:∀ r k,r < n->k < n->Bd e (t r k)):TbB (tabF n t) n n e:=⟨tabF_len _ _,fun r hr=>⟨tabF_row hr,fun x hx=>by
 obtain ⟨i,hi,rfl⟩:=List.mem_map.mp hr
 obtain ⟨j,hj,rfl⟩:=List.mem_map.mp hx
 exact h i j (List.mem_range.mp hi) (List.mem_range.mp hj)⟩⟩
noncomputable def ptsM:List Int->List (Int × Int)
 | []=>[]
 | a :: as=>(2 * a + 1,2) :: as.map fun x=>(x,1)
theorem ptsM_len (as:List Int):(ptsM as).length=as.length:=by
 cases as with
 | nil=>rfl
 | cons a t=>show (t.map _).length + 1=t.length + 1; rw [List.length_map]
theorem half_ones:∀ as:List Int,Half (as.map fun x=>(x,(1:Int))) (as.map fun x=>2 * x)
 | []=>trivial
 | a :: t=>⟨by show a * 2=2 * a * 1; omega,by show (0:Int) < 1; decide,half_ones t⟩
theorem half_pts:∀ as:List Int,∃ xs,Half (ptsM as) xs
 | []=>⟨[],trivial⟩
 | a :: t=>⟨(2 * a + 1) :: t.map fun x=>2 * x,by show (2 * a + 1) * 2=(2 * a + 1) * 2; rfl,by show (0:Int) < 2; decide,half_ones t⟩
theorem low_is1 (a:Int):lowT a 1=a/\lowB a 1=1:=by
 have g:cm a 1=1:=by
  rw [cm_pos_eq (by decide)]
  simp
 unfold lowT lowB
 rw [g]
 exact ⟨Int.fdiv_one _,Int.fdiv_one _⟩
theorem pts_low:∀ (as:List Int),∀ p∈ptsM as,lowT p.1 p.2=p.1/\lowB p.1 p.2=p.2
 | [],_,h=>nomatch h
 | a :: t,p,h=>by
  rcases List.mem_cons.mp h with rfl | h
  ·exact low_odd a
  ·obtain ⟨x,_,rfl⟩:=List.mem_map.mp h
   exact low_is1 x
theorem pts_bd:∀ {as:List Int},(∀ a∈as,Bd 101 a)->∀ p∈ptsM as,0 < p.2/\Bd 110 p.1/\Bd 2 p.2
 | [],_,_,h=>nomatch h
 | a :: t,b,p,h=>by
  rcases List.mem_cons.mp h with rfl | h
  ·have b2:Bd 2 (2:Int):=Bd.lit
   have b1:Bd 103 (1:Int):=(Bd.lit (n:=1)).mono (by decide)
   exact ⟨by show (0:Int) < 2; decide,(((b2.mul (b a List.mem_cons_self)).mono (show 2 + 101<=103 by decide)).add b1).mono (by decide),b2⟩
  ·obtain ⟨x,hx,rfl⟩:=List.mem_map.mp h
   exact ⟨by show (0:Int) < 1; decide,(b x (List.mem_cons_of_mem _ hx)).mono (by decide),(show Bd 1 (1:Int) from Bd.lit).mono (by decide)⟩
theorem bd_alS:∀ (n:Nat) (l:List (Int × Int × Int)),l.length=n->(∀ p∈l,Bd 40 p.1/\Bd 110 p.2.1/\Bd 2 p.2.2)->Bd (150 + 3 * n) (l.foldl alStep (0,1)).1/\Bd (2 * n + 1) (l.foldl alStep (0,1)).2
 | 0,l,e,_=>by
  have:l=[]:=List.length_eq_zero_iff.mp e
  subst this
  exact ⟨(Bd.lit (n:=1)).mono (by decide),Bd.lit⟩
 | n + 1,l,e,h=>by
  rcases List.eq_nil_or_concat l with rfl | ⟨r,p,rfl⟩
  ·cases e
  rw [List.concat_eq_append] at *
  rw [List.length_append,List.length_singleton] at e
  obtain ⟨i1,i2⟩:=bd_alS n r (by omega) fun q hq=>h q (List.mem_append_left _ hq)
  obtain ⟨h1,h2,h3⟩:=h p (List.mem_append_right _ (List.mem_singleton.mpr rfl))
  rw [List.foldl_append]
  generalize r.foldl alStep (0,1)=st at i1 i2
  constructor
  ·show Bd (150 + 3 * (n + 1)) (st.1 * p.2.2 + p.1 * p.2.1 * st.2)
   exact (((i1.mul h3).mono (show 150 + 3 * n + 2<=152 + 3 * n by omega)).add (((h1.mul h2).mul i2).mono (show 40 + 110 + (2 * n + 1)<=152 + 3 * n by omega))).mono (by omega)
  ·show Bd (2 * (n + 1) + 1) (st.2 * p.2.2)
   exact (i2.mul h3).mono (by omega)
theorem turnP_ok {T:List (List Int)} {pts:List (Int × Int)} {n:Nat} (n3:n<=3) (hT:TbB T n n 40) (hl:pts.length=n) (hp:∀ p∈pts,0 < p.2/\Bd 110 p.1/\Bd 2 p.2):PtOk (turnP T pts):=by
 have lt:(turnP T pts).length=n:=(List.length_map _).trans hT.len
 refine ⟨by omega,fun p m=>?_⟩
 obtain ⟨ws,hw,rfl⟩:=List.mem_map.mp m
 obtain ⟨lw,bw⟩:=hT.row ws hw
 have b:0 < (alFold ws pts).2:=by
  rw [al_tp (by omega)]
  exact bt_pos fun p m=>(hp p m).1
 have lz:(ws.zip pts).length=n:=by rw [List.length_zip]; omega
 obtain ⟨b1,b2⟩:=bd_alS n (ws.zip pts) lz fun q hq=>by
  have:=List.of_mem_zip (a:=q.1) (b:=q.2) hq
  exact ⟨bw _ this.1,(hp _ this.2).2⟩
 refine ⟨lowB_pos (by omega),?_,?_⟩
 ·show Bd 1000 (lowT ((alFold ws pts).1 + 0 * (alFold ws pts).2) ((alFold ws pts).2 * 1))
  rw [Int.zero_mul,Int.add_zero]
  unfold lowT
  exact (Bd.fdiv b1 _).mono (by omega)
 ·show Bd 1000 (lowB ((alFold ws pts).1 + 0 * (alFold ws pts).2) ((alFold ws pts).2 * 1))
  unfold lowB
  rw [Int.mul_one]
  exact (Bd.fdiv b2 _).mono (by omega)
theorem pts_okS {pts:List (Int × Int)} (n3:pts.length<=3) (hp:∀ p∈pts,0 < p.2/\Bd 110 p.1/\Bd 2 p.2):PtOk pts:=⟨by omega,fun p m=>⟨(hp p m).1,(hp p m).2.1.mono (by decide),(hp p m).2.2.mono (by decide)⟩⟩
theorem lay_two (a b:List (List Int)):PyData.canLay0 (.list [.list (a.map lstT),.list (b.map lstT)])=true:=by
 show (PyData.canLayAll0 (a.map lstT) && (PyData.canLayAll0 (b.map lstT) && true))=true
 rw [lay_tab,lay_tab]
 rfl
theorem dep_two (a b:List (List Int)):PyData.depth (.list [.list (a.map lstT),.list (b.map lstT)])<=60:=by
 show max (PyData.depthAll (a.map lstT) + 1) (max (PyData.depthAll (b.map lstT) + 1) 0) + 1<=60
 have:=dep_tab a
 have:=dep_tab b
 omega
theorem pt_put {H:Hp} {pv:List V} {as:List Int} {a:Addr} (h:PtV H pv (as.map fun x=>(x,1))) (h1:1<=as.length) (ha:H a=some (.tup [.int (2 * as.getD 0 0 + 1),.int 2])):PtV H (pv.set 0 (.ref a)) (ptsM as):=by
 cases as with
 | nil=>simp at h1
 | cons x t=>
  cases h with
  | cons hx ht=>exact .cons ⟨a,rfl,ha⟩ ht
section
variable {P:Program} {w:World} {K:PySem.W.Frag} {mg:Str->Option Value} {base:Heap} {C:Addr}
noncomputable abbrev s_law:Stmt:=top 53
theorem sc_law:FnScope ["_law_script","_law_cell","_law_many","_law_wide","_law_some","_law_pushes","_law_thing","_law_there","_law_back","_law_handed","_law_other","_law_due","_law_xs","_law_point","_law_row_here","_law_new","_law_wrong"] ["_law_script"] (defScope s_law):=⟨rfl,rfl,rfl,by decide +kernel,rfl,by decide +kernel,by decide +kernel⟩
variable {aMode aThing:Addr} (TMode:ClsF K mg "Mode" aMode) (AMode:AtMode K aMode) (TThing:ClsF K mg "Thing" aThing) (AThing:AtThing K aThing)
include TMode AMode TThing AThing
theorem ok_law {k:Nat} {f:Addr} {fd:FuncData} (F:Fun K "law" "law" s_law f fd) (B:Bl mg) (c_l_cell_at:Fn P w K mg base "_law_cell_at" ["_law_script","_law_k"] (k + 1) (spCell K)) (c_l_parts:Fn P w K mg base "_law_parts" ["_law_cell","_law_many","_law_wide"] (k + 1) spParts) (c_Thing___init__:FnC P w K mg base aThing ["self","many","pushes","modes"] k (spThingInit aThing aMode)) (c_Mode___init__:FnC P w K mg base aMode ["self","rows","nexts","steer","push","add","divisor"] k (spModeInit aMode)) (c_l_tables:Fn P w K mg base "_law_tables" ["_law_cells","_law_many"] (k + 1) spTables) (c_turned:Fn P w K mg base "turned" ["thing","there","back"] (k + 1) (spTurned aThing aMode)) (c_Thing_pushes:FnM P w K mg base aThing "pushes" ["self"] (k + 1) (spPushes aThing aMode)) (c_l_turned:Fn P w K mg base "_law_turned" ["_law_parts_here","_law_there","_law_back","_law_wide"] (k + 1) spTurnedL) (c_l_told:Fn P w K mg base "_law_told" ["_law_thing"] (k + 1) (spTold32 aThing aMode)) (c_l_stream:Fn P w K mg base "_law_stream" ["_law_cell","_law_many"] (k + 1) spStream) (c_l_number:Fn P w K mg base "_law_number" ["_law_number_here"] (k + 1) spNum21) (c_turned_point:Fn P w K mg base "turned_point" ["there","point"] (k + 1) (spTurnedPoint K)) (c_turned_row:Fn P w K mg base "turned_row" ["back","row"] (k + 1) spTurnedRow) (c_l_row:Fn P w K mg base "_law_row" ["_law_row_here","_law_back"] (k + 1) spTurnedRowL) (c_along:Fn P w K mg base "along" ["row","point"] (k + 1) (spAlong K)) (c_l_no_tables:Fn P w K mg base "_law_no_tables" ["_law_there","_law_back","_law_cell"] (k + 1) spNoTables) (c_l_refused:Fn P w K mg base "_law_refused" ["_law_thing","_law_there","_law_back"] (k + 1) (spRefusedL aThing aMode)):FnOk P w K mg base CX0 (k + 1 + 1) f fd ["_law_script"] (spLaw K):=by
 refine F.ok sc_law (fun vs H Q E h=>?_) (fun cdv A outer s H vs Q E hr h=>?_)
 ·obtain ⟨a,ns,rfl,_⟩:=h
  rfl
 obtain ⟨sa,ns,rfl,hS,h63,qq⟩:=h
 have hrm:=hr
 obtain ⟨t2,T2,R2⟩:∃ t2,PSs (cxOf CX0 P w K mg base ["_law_script","_law_cell","_law_many","_law_wide","_law_some","_law_pushes","_law_thing","_law_there","_law_back","_law_handed","_law_other","_law_due","_law_xs","_law_point","_law_row_here","_law_new","_law_wrong"] "law" (defScope s_law) f cdv A outer s H E).nox ((defBody s_law).drop 3) t2/\∀ (n p:Nat) (cc:Int),1<=n->n<=3->p<=3->
  t2 { nx:=fun _ H'=>Q .non H',rt:=Q } [some (.ref sa),some (.int cc),some (.int (n:Int)),some (.int (p:Int)),none,none,none,none,none,none,none,none,none,none,none,none,none] H:=by
  obtain ⟨u_22,E_22,U_22⟩:=L2.hide_it (p:=fun t=>PSs (cxOf CX0 P w K mg base ["_law_script","_law_cell","_law_many","_law_wide","_law_some","_law_pushes","_law_thing","_law_there","_law_back","_law_handed","_law_other","_law_due","_law_xs","_law_point","_law_row_here","_law_new","_law_wrong"] "law" (defScope s_law) f cdv A outer s H E).nox ((defBody s_law).drop 22) t) (pss_one (ps_ret (pe_callF c_l_refused hr rfl (pa_cons (L2.pvj 6) (pa_cons (pe_ix jix_tup (L2.pvj 16) pe_int (fun _ _=>rfl)) (pa_cons (pe_ix jix_tup (L2.pvj 16) pe_int (fun _ _=>rfl)) pa_nil))))))
  obtain ⟨u_21,E_21,U_21⟩:=L2.hide_it (p:=fun t=>PSs (cxOf CX0 P w K mg base ["_law_script","_law_cell","_law_many","_law_wide","_law_some","_law_pushes","_law_thing","_law_there","_law_back","_law_handed","_law_other","_law_due","_law_xs","_law_point","_law_row_here","_law_new","_law_wrong"] "law" (defScope s_law) f cdv A outer s H E).nox ((defBody s_law).drop 21) t) (pss_cons (ps_set (i:=16) sc_law.nd rfl (Or.inl rfl) (pe_callF c_l_no_tables hr rfl (pa_cons (L2.pvj 7) (pa_cons (L2.pvj 8) (pa_cons (pe_callF c_l_cell_at hr rfl (pa_cons (L2.pvj 0) (pa_cons pe_int pa_nil))) pa_nil)))))
  U_22)
  obtain ⟨u_20,E_20,U_20⟩:=L2.hide_it (p:=fun t=>PSs (cxOf CX0 P w K mg base ["_law_script","_law_cell","_law_many","_law_wide","_law_some","_law_pushes","_law_thing","_law_there","_law_back","_law_handed","_law_other","_law_due","_law_xs","_law_point","_law_row_here","_law_new","_law_wrong"] "law" (defScope s_law) f cdv A outer s H E).nox ((defBody s_law).drop 20) t) (pss_cons (ps_if (pt_cmpR (op_neD hr.units) (pe_callF c_along hr rfl (pa_cons (pe_callF c_turned_row hr rfl (pa_cons (pe_ix jix_list (L2.pvj 9) pe_int (fun _ _=>rfl)) (pa_cons (L2.pvj 14) pa_nil))) (pa_cons (L2.pvj 15) pa_nil))) (pe_callF c_along hr rfl (pa_cons (L2.pvj 14) (pa_cons (L2.pvj 13) pa_nil))) (nomark _)) (pss_one (ps_ret pe_bl)) pss_nil)
  U_21)
  obtain ⟨u_19,E_19,U_19⟩:=L2.hide_it (p:=fun t=>PSs (cxOf CX0 P w K mg base ["_law_script","_law_cell","_law_many","_law_wide","_law_some","_law_pushes","_law_thing","_law_there","_law_back","_law_handed","_law_other","_law_due","_law_xs","_law_point","_law_row_here","_law_new","_law_wrong"] "law" (defScope s_law) f cdv A outer s H E).nox ((defBody s_law).drop 19) t) (pss_cons (ps_if (pt_cmpR (op_neD hr.units) (pe_callF c_turned_row hr rfl (pa_cons (pe_ix jix_list (L2.pvj 9) pe_int (fun _ _=>rfl)) (pa_cons (L2.pvj 14) pa_nil))) (pe_callF c_l_row hr rfl (pa_cons (L2.pvj 14) (pa_cons (L2.pvj 8) pa_nil))) (nomark _)) (pss_one (ps_ret pe_bl)) pss_nil)
  U_20)
  obtain ⟨u_18,E_18,U_18⟩:=L2.hide_it (p:=fun t=>PSs (cxOf CX0 P w K mg base ["_law_script","_law_cell","_law_many","_law_wide","_law_some","_law_pushes","_law_thing","_law_there","_law_back","_law_handed","_law_other","_law_due","_law_xs","_law_point","_law_row_here","_law_new","_law_wrong"] "law" (defScope s_law) f cdv A outer s H E).nox ((defBody s_law).drop 18) t) (pss_cons (ps_if (pt_cmpR (op_neD hr.units) (pe_callF c_turned_point hr rfl (pa_cons (pe_ix jix_list (L2.pvj 9) pe_int (fun _ _=>rfl)) (pa_cons (pe_callTy call_list_of rfl B.list_ boot_list_ (pa_cons (L2.pvj 15) pa_nil)) pa_nil))) (L2.pvj 13) (nomark _)) (pss_one (ps_ret pe_bl)) pss_nil)
  U_19)
  obtain ⟨u_17,E_17,U_17⟩:=L2.hide_it (p:=fun t=>PSs (cxOf CX0 P w K mg base ["_law_script","_law_cell","_law_many","_law_wide","_law_some","_law_pushes","_law_thing","_law_there","_law_back","_law_handed","_law_other","_law_due","_law_xs","_law_point","_law_row_here","_law_new","_law_wrong"] "law" (defScope s_law) f cdv A outer s H E).nox ((defBody s_law).drop 17) t) (pss_cons (ps_set (i:=15) sc_law.nd rfl (Or.inl rfl) (pe_callF c_turned_point hr rfl (pa_cons (pe_ix jix_list (L2.pvj 9) pe_int (fun _ _=>rfl)) (pa_cons (pe_callTy call_list_of rfl B.list_ boot_list_ (pa_cons (L2.pvj 13) pa_nil)) pa_nil))))
  U_18)
  obtain ⟨u_16,E_16,U_16⟩:=L2.hide_it (p:=fun t=>PSs (cxOf CX0 P w K mg base ["_law_script","_law_cell","_law_many","_law_wide","_law_some","_law_pushes","_law_thing","_law_there","_law_back","_law_handed","_law_other","_law_due","_law_xs","_law_point","_law_row_here","_law_new","_law_wrong"] "law" (defScope s_law) f cdv A outer s H E).nox ((defBody s_law).drop 16) t) (pss_cons (ps_set (i:=14) sc_law.nd rfl (Or.inl rfl) (pe_callTy jtup rfl B.tuple_ boot_tuple_ (pa_cons (pe_comp (own:=["_law_k"]) (caps:=[(12,"_law_xs")]) (blk_cap (S:=defScope s_law) (N:=["_law_script","_law_cell","_law_many","_law_wide","_law_some","_law_pushes","_law_thing","_law_there","_law_back","_law_handed","_law_other","_law_due","_law_xs","_law_point","_law_row_here","_law_new","_law_wrong"]) rfl (by decide +kernel) rfl ⟨_,rfl⟩ rfl (by decide +kernel) (by decide +kernel)) rfl (pi_range1 rfl B.range_ (pa_cons (pe_op (ji0 op_add) (L2.pvj 2) pe_int) pa_nil)) (fun _ _ _ _=>pg_name (i:=0) (show (["_law_k","_law_xs"]:List Str).Nodup by decide +kernel) rfl (Or.inl rfl)) (fun _ _ _ _=>(pe_callF c_l_number hr rfl (pa_cons (pe_ix (show IxR _ (JIx (SqL K)) from jix_list) (L2.pvj 1) (pe_op (ji0 op_add) pe_int (L2.pvj 0)) (fun _ _=>rfl)) pa_nil)))) pa_nil)))
  U_17)
  obtain ⟨u_15,E_15,U_15⟩:=L2.hide_it (p:=fun t=>PSs (cxOf CX0 P w K mg base ["_law_script","_law_cell","_law_many","_law_wide","_law_some","_law_pushes","_law_thing","_law_there","_law_back","_law_handed","_law_other","_law_due","_law_xs","_law_point","_law_row_here","_law_new","_law_wrong"] "law" (defScope s_law) f cdv A outer s H E).nox ((defBody s_law).drop 15) t) (pss_cons (ps_asg (pe_tup (pa_cons (pe_op (ji0 op_add) (pe_op (ji op_mulW) pe_int (pe_ix jix_tup (pe_ix jix_list (L2.pvj 13) pe_int (fun _ _=>rfl)) pe_int (fun _ _=>rfl))) pe_int) (pa_cons pe_int pa_nil))) (pg_sub (L2.pvj 13) pe_int jset))
  U_16)
  obtain ⟨u_14,E_14,U_14⟩:=L2.hide_it (p:=fun t=>PSs (cxOf CX0 P w K mg base ["_law_script","_law_cell","_law_many","_law_wide","_law_some","_law_pushes","_law_thing","_law_there","_law_back","_law_handed","_law_other","_law_due","_law_xs","_law_point","_law_row_here","_law_new","_law_wrong"] "law" (defScope s_law) f cdv A outer s H E).nox ((defBody s_law).drop 14) t) (pss_cons (ps_comp (i:=13) sc_law.nd rfl rfl (own:=["_law_k"]) (caps:=[(12,"_law_xs")]) (blk_cap (S:=defScope s_law) (N:=["_law_script","_law_cell","_law_many","_law_wide","_law_some","_law_pushes","_law_thing","_law_there","_law_back","_law_handed","_law_other","_law_due","_law_xs","_law_point","_law_row_here","_law_new","_law_wrong"]) rfl (by decide +kernel) rfl ⟨_,rfl⟩ rfl (by decide +kernel) (by decide +kernel)) rfl (pi_range1 rfl B.range_ (pa_cons (L2.pvj 2) pa_nil)) (fun _ _ _ _=>pg_name (i:=0) (show (["_law_k","_law_xs"]:List Str).Nodup by decide +kernel) rfl (Or.inl rfl)) (fun _ _ _ _=>(pe_tup (pa_cons (pe_callF c_l_number hr rfl (pa_cons (pe_ix (show IxR _ (JIx (SqL K)) from jix_list) (L2.pvj 1) (L2.pvj 0) (fun _ _=>rfl)) pa_nil)) (pa_cons pe_int pa_nil)))) rfl)
  U_15)
  obtain ⟨u_13,E_13,U_13⟩:=L2.hide_it (p:=fun t=>PSs (cxOf CX0 P w K mg base ["_law_script","_law_cell","_law_many","_law_wide","_law_some","_law_pushes","_law_thing","_law_there","_law_back","_law_handed","_law_other","_law_due","_law_xs","_law_point","_law_row_here","_law_new","_law_wrong"] "law" (defScope s_law) f cdv A outer s H E).nox ((defBody s_law).drop 13) t) (pss_cons (ps_set (i:=12) sc_law.nd rfl (Or.inr rfl) (pe_callF c_l_stream hr rfl (pa_cons (pe_callF c_l_cell_at hr rfl (pa_cons (L2.pvj 0) (pa_cons pe_int pa_nil))) (pa_cons pe_int pa_nil))))
  U_14)
  obtain ⟨u_12,E_12,U_12⟩:=L2.hide_it (p:=fun t=>PSs (cxOf CX0 P w K mg base ["_law_script","_law_cell","_law_many","_law_wide","_law_some","_law_pushes","_law_thing","_law_there","_law_back","_law_handed","_law_other","_law_due","_law_xs","_law_point","_law_row_here","_law_new","_law_wrong"] "law" (defScope s_law) f cdv A outer s H E).nox ((defBody s_law).drop 12) t) (pss_cons (ps_if (pt_cmpR (op_neD hr.units) (pe_callF c_l_told hr rfl (pa_cons (pe_callF c_turned hr rfl (pa_cons (L2.pvj 10) (pa_cons (pe_ix jix_list (L2.pvj 9) pe_int (fun _ _=>rfl)) (pa_cons (pe_ix jix_list (L2.pvj 9) pe_int (fun _ _=>rfl)) pa_nil)))) pa_nil)) (L2.pvj 4) (nomark _)) (pss_one (ps_ret pe_bl)) pss_nil)
  U_13)
  obtain ⟨u_11,E_11,U_11⟩:=L2.hide_it (p:=fun t=>PSs (cxOf CX0 P w K mg base ["_law_script","_law_cell","_law_many","_law_wide","_law_some","_law_pushes","_law_thing","_law_there","_law_back","_law_handed","_law_other","_law_due","_law_xs","_law_point","_law_row_here","_law_new","_law_wrong"] "law" (defScope s_law) f cdv A outer s H E).nox ((defBody s_law).drop 11) t) (pss_cons (ps_if (PW.pt (pw_or (pt_cmpR (op_neD hr.units) (pe_callF c_l_told hr rfl (pa_cons (L2.pvj 10) pa_nil)) (L2.pvj 11) (nomark _)) (pw_or1 (pt_cmpR (op_neD hr.units) (pe_callF c_l_told hr rfl (pa_cons (L2.pvj 6) pa_nil)) (L2.pvj 4) (nomark _))))) (pss_one (ps_ret pe_bl)) pss_nil)
  U_12)
  obtain ⟨u_10,E_10,U_10⟩:=L2.hide_it (p:=fun t=>PSs (cxOf CX0 P w K mg base ["_law_script","_law_cell","_law_many","_law_wide","_law_some","_law_pushes","_law_thing","_law_there","_law_back","_law_handed","_law_other","_law_due","_law_xs","_law_point","_law_row_here","_law_new","_law_wrong"] "law" (defScope s_law) f cdv A outer s H E).nox ((defBody s_law).drop 10) t) (pss_cons (ps_comp (i:=11) sc_law.nd rfl rfl (own:=["_law_parts_here"]) (caps:=[(3,"_law_wide"),(7,"_law_there"),(8,"_law_back")]) (blk_cap (S:=defScope s_law) (N:=["_law_script","_law_cell","_law_many","_law_wide","_law_some","_law_pushes","_law_thing","_law_there","_law_back","_law_handed","_law_other","_law_due","_law_xs","_law_point","_law_row_here","_law_new","_law_wrong"]) rfl (by decide +kernel) rfl ⟨_,rfl⟩ rfl (by decide +kernel) (by decide +kernel)) rfl (pi_list (L2.pvj 4)) (fun _ _ _ _=>pg_name (i:=0) (show (["_law_parts_here","_law_wide","_law_there","_law_back"]:List Str).Nodup by decide +kernel) rfl (Or.inl rfl)) (fun _ _ _ _=>(pe_callF c_l_turned hr rfl (pa_cons (L2.pvj 0) (pa_cons (L2.pvj 2) (pa_cons (L2.pvj 3) (pa_cons (L2.pvj 1) pa_nil)))))) rfl)
  U_11)
  obtain ⟨u_9,E_9,U_9⟩:=L2.hide_it (p:=fun t=>PSs (cxOf CX0 P w K mg base ["_law_script","_law_cell","_law_many","_law_wide","_law_some","_law_pushes","_law_thing","_law_there","_law_back","_law_handed","_law_other","_law_due","_law_xs","_law_point","_law_row_here","_law_new","_law_wrong"] "law" (defScope s_law) f cdv A outer s H E).nox ((defBody s_law).drop 9) t) (pss_cons (ps_if (PW.pt (pw_or (pt_cmpR (op_neD hr.units) (L2.pvj 9) (pe_lst (pa_cons (L2.pvj 7) (pa_cons (L2.pvj 8) pa_nil))) (nomark _)) (pw_or (pt_cmpR op_ne (pe_fld (L2.pvj 10) rfl) (L2.pvj 2) (nomark _)) (pw_or1 (pt_cmpR (op_neD hr.units) (pe_methF0 c_Thing_pushes TThing hrm (L2.pvj 10)) (L2.pvj 5) (nomark _)))))) (pss_one (ps_ret pe_bl)) pss_nil)
  U_10)
  obtain ⟨u_8,E_8,U_8⟩:=L2.hide_it (p:=fun t=>PSs (cxOf CX0 P w K mg base ["_law_script","_law_cell","_law_many","_law_wide","_law_some","_law_pushes","_law_thing","_law_there","_law_back","_law_handed","_law_other","_law_due","_law_xs","_law_point","_law_row_here","_law_new","_law_wrong"] "law" (defScope s_law) f cdv A outer s H E).nox ((defBody s_law).drop 8) t) (pss_cons (ps_set (i:=10) sc_law.nd rfl (Or.inl rfl) (pe_callF c_turned hr rfl (pa_cons (L2.pvj 6) (pa_cons (pe_ix jix_list (L2.pvj 9) pe_int (fun _ _=>rfl)) (pa_cons (pe_ix jix_list (L2.pvj 9) pe_int (fun _ _=>rfl)) pa_nil)))))
  U_9)
  obtain ⟨u_7,E_7,U_7⟩:=L2.hide_it (p:=fun t=>PSs (cxOf CX0 P w K mg base ["_law_script","_law_cell","_law_many","_law_wide","_law_some","_law_pushes","_law_thing","_law_there","_law_back","_law_handed","_law_other","_law_due","_law_xs","_law_point","_law_row_here","_law_new","_law_wrong"] "law" (defScope s_law) f cdv A outer s H E).nox ((defBody s_law).drop 7) t) (pss_cons (ps_set (i:=9) sc_law.nd rfl (Or.inl rfl) (pe_lst (pa_cons (pe_comp (own:=["_law_row_here"]) (caps:=[]) (blk_mk rfl) rfl (pi_list (L2.pvj 7)) (fun _ _ _ _=>pg_name (i:=0) (show (["_law_row_here"]:List Str).Nodup by decide +kernel) rfl (Or.inl rfl)) (fun _ _ _ _=>(pe_callTy (show CallR _ _ (fun xs H Q=>∃ p ys,xs=[V.ref p]/\(SqL K H p ys\/SqT K H p ys)/\∀ l,H l=none->Q (V.ref l) (upd H l (HO.lst ys))) from call_list_of) rfl B.list_ boot_list_ (pa_cons (L2.pvj 0) pa_nil)))) (pa_cons (pe_comp (own:=["_law_row_here"]) (caps:=[]) (blk_mk rfl) rfl (pi_list (L2.pvj 8)) (fun _ _ _ _=>pg_name (i:=0) (show (["_law_row_here"]:List Str).Nodup by decide +kernel) rfl (Or.inl rfl)) (fun _ _ _ _=>(pe_callTy (show CallR _ _ (fun xs H Q=>∃ p ys,xs=[V.ref p]/\(SqL K H p ys\/SqT K H p ys)/\∀ l,H l=none->Q (V.ref l) (upd H l (HO.lst ys))) from call_list_of) rfl B.list_ boot_list_ (pa_cons (L2.pvj 0) pa_nil)))) pa_nil))))
  U_8)
  obtain ⟨u_6,E_6,U_6⟩:=L2.hide_it (p:=fun t=>PSs (cxOf CX0 P w K mg base ["_law_script","_law_cell","_law_many","_law_wide","_law_some","_law_pushes","_law_thing","_law_there","_law_back","_law_handed","_law_other","_law_due","_law_xs","_law_point","_law_row_here","_law_new","_law_wrong"] "law" (defScope s_law) f cdv A outer s H E).nox ((defBody s_law).drop 6) t) (pss_cons (ps_asg (pe_callF c_l_tables hr rfl (pa_cons (pe_slice jsl_list (L2.pvj 0) (po_some pe_int) (po_some (pe_op (ji0 op_add) pe_int (pe_op (ji op_modN) (pe_op (ji op_fdivW) (L2.pvj 1) pe_int) pe_int)))) (pa_cons (L2.pvj 2) pa_nil))) (pg_tup rfl (pgs_cons (pg_name (i:=7) sc_law.nd rfl (Or.inr rfl)) (pgs_cons (pg_name (i:=8) sc_law.nd rfl (Or.inr rfl)) pgs_nil))))
  U_7)
  obtain ⟨u_5,E_5,U_5⟩:=L2.hide_it (p:=fun t=>PSs (cxOf CX0 P w K mg base ["_law_script","_law_cell","_law_many","_law_wide","_law_some","_law_pushes","_law_thing","_law_there","_law_back","_law_handed","_law_other","_law_due","_law_xs","_law_point","_law_row_here","_law_new","_law_wrong"] "law" (defScope s_law) f cdv A outer s H E).nox ((defBody s_law).drop 5) t) (pss_cons (ps_set (i:=6) sc_law.nd rfl (Or.inl rfl) (pe_makeF c_Thing___init__ TThing hr rfl (pa_cons (L2.pvj 2) (pa_cons (pe_callTy call_list_of rfl B.list_ boot_list_ (pa_cons (L2.pvj 5) pa_nil)) (pa_cons (pe_comp (own:=["_law_one"]) (caps:=[]) (blk_mk rfl) rfl (pi_list (L2.pvj 4)) (fun _ _ _ _=>pg_name (i:=0) (show (["_law_one"]:List Str).Nodup by decide +kernel) rfl (Or.inl rfl)) (fun _ _ _ _=>(pe_makeF c_Mode___init__ TMode hr rfl (pa_cons (pe_ix (show IxR _ (JIx (SqL K)) from jix_list) (L2.pvj 0) pe_int (fun _ _=>rfl)) (pa_cons (pe_ix (show IxR _ (JIx (SqL K)) from jix_list) (L2.pvj 0) pe_int (fun _ _=>rfl)) (pa_cons (pe_ix (show IxR _ (JIx (SqL K)) from jix_list) (L2.pvj 0) pe_int (fun _ _=>rfl)) (pa_cons (pe_ix (show IxR _ (JIx (SqL K)) from jix_list) (L2.pvj 0) pe_int (fun _ _=>rfl)) (pa_cons (pe_ix (show IxR _ (JIx (SqL K)) from jix_list) (L2.pvj 0) pe_int (fun _ _=>rfl)) (pa_cons (pe_ix (show IxR _ (JIx (SqL K)) from jix_list) (L2.pvj 0) pe_int (fun _ _=>rfl)) pa_nil))))))))) pa_nil)))))
  U_6)
  obtain ⟨u_4,E_4,U_4⟩:=L2.hide_it (p:=fun t=>PSs (cxOf CX0 P w K mg base ["_law_script","_law_cell","_law_many","_law_wide","_law_some","_law_pushes","_law_thing","_law_there","_law_back","_law_handed","_law_other","_law_due","_law_xs","_law_point","_law_row_here","_law_new","_law_wrong"] "law" (defScope s_law) f cdv A outer s H E).nox ((defBody s_law).drop 4) t) (pss_cons (ps_comp (i:=5) sc_law.nd rfl rfl (own:=["_law_k"]) (caps:=[(1,"_law_cell")]) (blk_cap (S:=defScope s_law) (N:=["_law_script","_law_cell","_law_many","_law_wide","_law_some","_law_pushes","_law_thing","_law_there","_law_back","_law_handed","_law_other","_law_due","_law_xs","_law_point","_law_row_here","_law_new","_law_wrong"]) rfl (by decide +kernel) rfl ⟨_,rfl⟩ rfl (by decide +kernel) (by decide +kernel)) rfl (pi_range1 rfl B.range_ (pa_cons (L2.pvj 3) pa_nil)) (fun _ _ _ _=>pg_name (i:=0) (show (["_law_k","_law_cell"]:List Str).Nodup by decide +kernel) rfl (Or.inl rfl)) (fun _ _ _ _=>(pe_tup (pa_cons (pe_op (ji0 op_sub) (pe_op (ji0 op_sub) pe_int (L2.pvj 0)) (pe_op (ji op_modN) (pe_op (ji op_fdivW) (L2.pvj 1) pe_int) pe_int)) (pa_cons (pe_op (ji op_mulW) (L2.pvj 0) (L2.pvj 0)) pa_nil)))) rfl)
  U_5)
  refine ⟨_,(pss_cons (ps_comp (i:=4) sc_law.nd rfl rfl (own:=["_law_k"]) (caps:=[(0,"_law_script"),(2,"_law_many"),(3,"_law_wide")]) (blk_cap (S:=defScope s_law) (N:=["_law_script","_law_cell","_law_many","_law_wide","_law_some","_law_pushes","_law_thing","_law_there","_law_back","_law_handed","_law_other","_law_due","_law_xs","_law_point","_law_row_here","_law_new","_law_wrong"]) rfl (by decide +kernel) rfl ⟨_,rfl⟩ rfl (by decide +kernel) (by decide +kernel)) rfl (pi_range1 rfl B.range_ (pa_cons (pe_op (ji0 op_add) pe_int (pe_op (ji op_modN) (pe_op (ji op_fdivW) (L2.pvj 1) pe_int) pe_int)) pa_nil)) (fun _ _ _ _=>pg_name (i:=0) (show (["_law_k","_law_script","_law_many","_law_wide"]:List Str).Nodup by decide +kernel) rfl (Or.inl rfl)) (fun _ _ _ _=>(pe_callF c_l_parts hr rfl (pa_cons (pe_op (ji0 op_add) (pe_callF c_l_cell_at hr rfl (pa_cons (L2.pvj 1) (pa_cons (pe_op (ji0 op_add) pe_int (L2.pvj 0)) pa_nil))) (pe_op (ji op_mulW) pe_int (L2.pvj 0))) (pa_cons (L2.pvj 2) (pa_cons (L2.pvj 3) pa_nil))))) rfl)
  U_4),?_⟩
  try dsimp only [cxOf,Cx.nox,Cx.wish]
  intro n p cc n1 n3 p3
  have b12:Bd 4 (12:Int):=Bd.lit
  have b36:Bd 6 (36:Int):=Bd.lit
  have b2:Bd 10 (2:Int):=Bd.lit
  have k0:=Int.fmod_nonneg_of_pos (cc.fdiv 12) (show (0:Int) < 3 by decide)
  have k3:=Int.fmod_lt_of_pos (cc.fdiv 12) (show (0:Int) < 3 by decide)
  have bdi:∀ i:Nat,i < 100->Bd 10 ((0:Int) + (i:Int)):=fun i h=>by
   show ((0:Int) + (i:Int)).natAbs < 2 ^ 10
   omega
  refine ⟨_,rfl,_,_,rfl,rfl,⟨by decide,b12.mono (by decide)⟩,_,_,rfl,rfl,(show (3:Int)≠0 by decide),_,_,rfl,rfl,_,rfl,(by omega),(by omega),comp_range (lo:=0) (n:=(1 + (cc.fdiv 12).fmod 3).toNat)
   (fun i ys σ H'=>∃ ms:List MD,Paired (PartsV H') ys ms/\ms.length=i/\(∀ m∈ms,MDOk m n p/\MN m 101/\m.rows.length<=100)/\(∃ o,σ=[o,some (.ref sa),some (.int (n:Int)),some (.int (p:Int))])/\Same H H')
   ⟨[],.nil,rfl,(fun _ h=>nomatch h),⟨none,rfl⟩,Same.refl _⟩ (fun i ys σ H' ⟨ms,h,hl,_⟩=>by have:=Paired.length h; omega) (Nat.le_of_lt (small1000 (by omega))) ?_ ?_⟩
  ·rintro i ys σ H' hi ⟨ms,hms,lms,oms,⟨o,rfl⟩,sm⟩
   have bi:=bdi i (by omega)
   have b79:Bd 13 (7919:Int):=Bd.lit
   refine ⟨_,rfl,_,rfl,_,_,rfl,rfl,sa,ns,1 + (0 + (i:Int)),rfl,sm.seq hS,(by omega),_,rfl,_,_,rfl,rfl,⟨b79.mono (by decide),bi.mono (by decide)⟩,_,_,rfl,rfl,_,rfl,_,rfl,_,(n:Int),(p:Int),rfl,(by omega),(by omega),(by omega),(by omega),fun v md H2 s2 hv mo mb mf=>?_⟩
   rw [Int.toNat_natCast,Int.toNat_natCast] at mo
   refine ⟨ms++[md],paired_snoc (R:=PartsV _) hv (partss_same s2 hms),(by rw [List.length_append,lms]; rfl),fun x hx=>?_,⟨_,rfl⟩,sm.trans s2⟩
   rcases List.mem_append.mp hx with hx | hx
   ·exact oms x hx
   ·rw [List.mem_singleton.mp hx]; exact ⟨mo,mb,mf⟩
  rintro sv σ J1 ⟨ms,hms,lms,oms,⟨o1,rfl⟩,y1⟩ sl hsl
  have ms1:1<=ms.length:=by omega
  have ms3:ms.length<=3:=by omega
  clear k0 k3 lms
  have SG1:=y1
  replace hS:=(y1.seq hS)
  have yG2:=same_new hsl (HO.lst sv)
  have esl:=upd_same (H:=J1) (a:=sl) (o:=HO.lst sv)
  generalize hhG2:upd J1 sl (HO.lst sv)=G2 at yG2 esl |-
  have SG2:=SG1.trans yG2
  replace hS:=(yG2.seq hS)
  replace hms:=(partss_same yG2 hms)
  have lsv:sv.length=ms.length:=Paired.length hms
  show u_4 _ [some (.ref sa),some (.int cc),some (.int (n:Int)),some (.int (p:Int)),some (.ref sl),none,none,none,none,none,none,none,none,none,none,none,none] _
  rw [E_4]
  try dsimp only [cxOf,Cx.nox,Cx.wish]
  have c0:=Int.fmod_nonneg_of_pos (cc.fdiv 36) (show (0:Int) < 5 by decide)
  refine ⟨_,rfl,_,rfl,(by omega),(by omega),comp_range (lo:=0) (n:=((p:Nat):Int).toNat)
   (fun i ys σ H'=>∃ bs:List (Int × Int),Paired (PuV H') ys bs/\bs.length=i/\(∀ b∈bs,b.1<=b.2)/\(∃ o,σ=[o,some (.int cc)])/\Same G2 H')
   ⟨[],.nil,rfl,(fun _ h=>nomatch h),⟨none,rfl⟩,Same.refl _⟩ (fun i ys σ H' ⟨bs,h,hl,_⟩=>by have:=Paired.length h; omega) (Nat.le_of_lt (small1000 (by omega))) ?_ ?_⟩
  ·rintro i ys σ H' hi ⟨bs,hbs,lbs,obs,⟨o,rfl⟩,sm⟩
   have bi:=bdi i (by omega)
   refine ⟨_,rfl,_,_,rfl,rfl,_,rfl,_,_,rfl,rfl,⟨by decide,b36.mono (by decide)⟩,_,_,rfl,rfl,(show (5:Int)≠0 by decide),_,_,rfl,rfl,_,rfl,_,rfl,_,_,rfl,rfl,⟨bi.mono (by decide),bi.mono (by decide)⟩,(by show 2<=sizeLine; decide),fun a ha=>?_⟩
   have za:=same_new ha (HO.tup [V.int (0 - (0 + (i:Int)) - (cc.fdiv 36).fmod 5),V.int ((0 + (i:Int)) * (0 + (i:Int)))])
   refine ⟨bs++[(0 - (0 + (i:Int)) - (cc.fdiv 36).fmod 5,(0 + (i:Int)) * (0 + (i:Int)))],paired_snoc (R:=PuV _) (y:=(0 - (0 + (i:Int)) - (cc.fdiv 36).fmod 5,(0 + (i:Int)) * (0 + (i:Int)))) ⟨a,rfl,upd_same⟩ (pu_same za hbs),(by rw [List.length_append,lbs]; rfl),fun b hb=>?_,⟨_,rfl⟩,sm.trans za⟩
   rcases List.mem_append.mp hb with hb | hb
   ·exact obs b hb
   ·rw [List.mem_singleton.mp hb]
    have:=Int.mul_nonneg (show (0:Int)<=0 + (i:Int) by omega) (show (0:Int)<=0 + (i:Int) by omega)
    show 0 - (0 + (i:Int)) - (cc.fdiv 36).fmod 5<=(0 + (i:Int)) * (0 + (i:Int))
    generalize (0 + (i:Int)) * (0 + (i:Int))=ii at this |-
    omega
  rintro pv σ J2 ⟨bs,hpv,lbs,obs,⟨o1,rfl⟩,y2⟩ pa hpa
  rw [Int.toNat_natCast] at lbs
  have SG3:=SG2.trans y2
  replace hS:=(y2.seq hS)
  replace hms:=(partss_same y2 hms)
  replace esl:=(y2 _ _ esl)
  have yG4:=same_new hpa (HO.lst pv)
  have epa:=upd_same (H:=J2) (a:=pa) (o:=HO.lst pv)
  generalize hhG4:upd J2 pa (HO.lst pv)=G4 at yG4 epa |-
  have SG4:=SG3.trans yG4
  replace hS:=(yG4.seq hS)
  replace hms:=(partss_same yG4 hms)
  replace esl:=(yG4 _ _ esl)
  replace hpv:=(pu_same yG4 hpv)
  have lpv:pv.length=bs.length:=Paired.length hpv
  show u_5 _ [some (.ref sa),some (.int cc),some (.int (n:Int)),some (.int (p:Int)),some (.ref sl),some (.ref pa),none,none,none,none,none,none,none,none,none,none,none] _
  rw [E_5]
  try dsimp only [cxOf,Cx.nox,Cx.wish]
  refine ⟨_,rfl,_,rfl,pa,_,rfl,.inl (SqL.of epa),fun lp hlp=>?_⟩
  have yG5:=same_new hlp (HO.lst pv)
  have elp:=upd_same (H:=G4) (a:=lp) (o:=HO.lst pv)
  generalize hhG5:upd G4 lp (HO.lst pv)=G5 at yG5 elp |-
  have SG5:=SG4.trans yG5
  replace hS:=(yG5.seq hS)
  replace hms:=(partss_same yG5 hms)
  replace esl:=(yG5 _ _ esl)
  replace hpv:=(pu_same yG5 hpv)
  replace epa:=(yG5 _ _ epa)
  refine ⟨_,rfl,sl,rfl,⟨_,SqL.of esl⟩,comp_list (K:=K) (a:=sl) (xs:=sv) (fun i ys σ H'=>Paired (ModeV aMode H') ys (ms.take i)/\(∃ o,σ=[o])/\Same G5 H')
   ⟨.nil,⟨none,rfl⟩,Same.refl _⟩ (fun i ys σ H' hi ⟨e1,_,sm⟩=>⟨SqL.of (sm _ _ esl),by have:=Paired.length e1; rw [List.length_take] at this; omega⟩) (Nat.le_of_lt (small1000 (by omega))) ?_ ?_⟩
  ·rintro i x ys σ H' hix ⟨hys,⟨o,rfl⟩,sm⟩
   obtain ⟨md,hmd,pl,r,n0,s0,p0,a0,rv,nv,pv0,rfl,hl,PD⟩:=paired_get hms hix
   obtain ⟨mo,mb,mf⟩:=oms md (List.mem_of_getElem? hmd)
   refine ⟨_,rfl,pl,_,0,_,rfl,rfl,SqL.of (sm _ _ hl),rfl,_,rfl,pl,_,1,_,rfl,rfl,SqL.of (sm _ _ hl),rfl,_,rfl,pl,_,2,_,rfl,rfl,SqL.of (sm _ _ hl),rfl,_,rfl,pl,_,3,_,rfl,rfl,SqL.of (sm _ _ hl),rfl,_,rfl,pl,_,4,_,rfl,rfl,SqL.of (sm _ _ hl),rfl,_,rfl,pl,_,5,_,rfl,rfl,SqL.of (sm _ _ hl),rfl,?_⟩
   intro mo2 dx hmo hdx ne
   have zm:=same_make hmo hdx ne (HO.own mo2) (HO.ins aMode dx [])
   have eo:=upd_same (H:=upd H' dx (HO.own mo2)) (a:=mo2) (o:=HO.ins aMode dx [])
   generalize hhN:upd (upd H' dx (HO.own mo2)) mo2 (HO.ins aMode dx [])=N at zm eo |-
   have sz:=sm.trans zm
   refine ⟨mo2,dx,r,n0,s0,p0,a0,rv,nv,pv0,md,n,p,rfl,eo,mo,sz _ _ PD.hr,WaysV.same sz PD.hrv,sz _ _ PD.hn,TabV.same sz PD.hnv,sz _ _ PD.hs,sz _ _ PD.hp,TabV.same sz PD.hpv,sz _ _ PD.ha,fun M2 N2 sb ok f1 f2 f3 f4 f5 m1 m2=>⟨rfl,?_⟩⟩
   have s2:=same_but zm sb hmo
   refine ⟨?_,⟨_,rfl⟩,sm.trans s2⟩
   rw [take_snoc hmd]
   exact paired_snoc (R:=ModeV aMode _) ⟨mo2,_,rfl,ok⟩ (modes_same s2 hys)
  rintro mv σ J3 ⟨hmv,⟨o1,rfl⟩,y3⟩ ml hml
  rw [take_all (by omega)] at hmv
  have SG6:=SG5.trans y3
  replace hS:=(y3.seq hS)
  replace hms:=(partss_same y3 hms)
  replace esl:=(y3 _ _ esl)
  replace hpv:=(pu_same y3 hpv)
  replace epa:=(y3 _ _ epa)
  replace elp:=(y3 _ _ elp)
  have yG7:=same_new hml (HO.lst mv)
  have eml:=upd_same (H:=J3) (a:=ml) (o:=HO.lst mv)
  generalize hhG7:upd J3 ml (HO.lst mv)=G7 at yG7 eml |-
  have SG7:=SG6.trans yG7
  replace hS:=(yG7.seq hS)
  replace hms:=(partss_same yG7 hms)
  replace esl:=(yG7 _ _ esl)
  replace hpv:=(pu_same yG7 hpv)
  replace epa:=(yG7 _ _ epa)
  replace elp:=(yG7 _ _ elp)
  replace hmv:=(modes_same yG7 hmv)
  have THO:ThOk n bs ms:=⟨n1,n3,obs,by omega,ms1,by omega,fun m hm=>by rw [lbs]; exact (oms m hm).1⟩
  refine fun to dt hto hdt ne2=>?_
  have zt:=same_make hto hdt ne2 (HO.own to) (HO.ins aThing dt [])
  have et9:=upd_same (H:=upd G7 dt (HO.own to)) (a:=to) (o:=HO.ins aThing dt [])
  generalize hhJ9:upd (upd G7 dt (HO.own to)) to (HO.ins aThing dt [])=J9 at zt et9 |-
  refine ⟨to,dt,lp,ml,pv,mv,n,bs,ms,rfl,et9,zt _ _ elp,pu_same zt hpv,zt _ _ eml,modes_same zt hmv,THO,fun kp km J10 sb fk fm fne eo5 ek em=>⟨rfl,?_⟩⟩
  have yT:=same_but zt sb hto
  have SG8:=SG7.trans yT
  replace hS:=(yT.seq hS)
  replace hms:=(partss_same yT hms)
  replace esl:=(yT _ _ esl)
  replace hpv:=(pu_same yT hpv)
  replace epa:=(yT _ _ epa)
  replace hmv:=(modes_same yT hmv)
  have TH:ThingAt aThing aMode J10 to n bs ms pv mv kp km:=⟨⟨dt,eo5⟩,ek,hpv,em,hmv⟩
  clear hmv eo5 ek em et9
  show u_6 _ [some (.ref sa),some (.int cc),some (.int (n:Int)),some (.int (p:Int)),some (.ref sl),some (.ref pa),some (.ref to),none,none,none,none,none,none,none,none,none,none] _
  rw [E_6]
  try dsimp only [cxOf,Cx.nox,Cx.wish]
  have g0:=Int.fmod_nonneg_of_pos (cc.fdiv 36) (show (0:Int) < 10 by decide)
  have g4:=Int.fmod_lt_of_pos (cc.fdiv 36) (show (0:Int) < 10 by decide)
  refine ⟨_,rfl,_,rfl,_,rfl,_,_,rfl,rfl,⟨by decide,b36.mono (by decide)⟩,_,_,rfl,rfl,(show (10:Int)≠0 by decide),_,_,rfl,rfl,_,rfl,sa,_,rfl,hS,fun cp hcp=>?_⟩
  obtain ⟨cs,ecs,lcs⟩:=cut_any ns 4 (4 + (cc.fdiv 36).fmod 10).toNat
  have ecs':cutV (ns.map V.int) (some 4) (some (4 + (cc.fdiv 36).fmod 10))=cs.map V.int:=by
   rw [show (((4 + (cc.fdiv 36).fmod 10).toNat:Nat):Int)=4 + (cc.fdiv 36).fmod 10 by omega] at ecs
   exact ecs
  rw [ecs']
  have lc4:cs.length<=9:=by omega
  clear ecs ecs' lcs g0 g4
  have yG9:=same_new hcp (HO.lst (cs.map V.int))
  have ecp:=upd_same (H:=J10) (a:=cp) (o:=HO.lst (cs.map V.int))
  generalize hhG9:upd J10 cp (HO.lst (cs.map V.int))=G9 at yG9 ecp |-
  have SG9:=SG8.trans yG9
  replace hS:=(yG9.seq hS)
  replace hms:=(partss_same yG9 hms)
  replace esl:=(yG9 _ _ esl)
  replace hpv:=(pu_same yG9 hpv)
  replace epa:=(yG9 _ _ epa)
  replace TH:=(ThingAt.same yG9 TH)
  refine ⟨_,rfl,cp,cs,n,rfl,ecp,lc4,n1,n3,fun tt ta ba tv bv t b J11 y11 ett eta hta eba hba I1 I2 BD=>?_⟩
  have SG10:=SG9.trans y11
  replace hS:=(y11.seq hS)
  replace hms:=(partss_same y11 hms)
  replace esl:=(y11 _ _ esl)
  replace hpv:=(pu_same y11 hpv)
  replace epa:=(y11 _ _ epa)
  replace TH:=(ThingAt.same y11 TH)
  refine ⟨tt,_,rfl,SqT.of ett,rfl,_,_,rfl,_,_,rfl,rfl,?_⟩
  clear ett
  have T40:TbB (tabF n t) n n 40:=tabF_bd fun r k hr hk=>(BD r k hr hk).1
  have B40:TbB (tabF n b) n n 40:=tabF_bd fun r k hr hk=>(BD r k hr hk).2
  have eTB:=inv_prod I1
  have eBT:=inv_prod I2
  have ltv:tv.length=n:=(Paired.length hta).trans (tabF_len _ _)
  have lbv:bv.length=n:=(Paired.length hba).trans (tabF_len _ _)
  have rT:∀ r∈tabF n t,r.length=n:=fun r hr=>tabF_row hr
  have rB:∀ r∈tabF n b,r.length=n:=fun r hr=>tabF_row hr
  have hm4:∀ m∈ms,MN m 400/\m.rows.length<=100:=fun m hm=>by
   obtain ⟨_,b1,f⟩:=oms m hm
   exact ⟨⟨fun r hr x hx=>(b1.rows r hr x hx).mono (by decide),fun r hr x hx=>(b1.nexts r hr x hx).mono (by decide),fun x hx=>(b1.steer x hx).mono (by decide),fun r hr x hx=>(b1.push r hr x hx).mono (by decide),fun x hx=>(b1.add x hx).mono (by decide)⟩,f⟩
  show u_7 _ [some (.ref sa),some (.int cc),some (.int (n:Int)),some (.int (p:Int)),some (.ref sl),some (.ref pa),some (.ref to),some (.ref ta),some (.ref ba),none,none,none,none,none,none,none,none] _
  rw [E_7]
  try dsimp only [cxOf,Cx.nox,Cx.wish]
  refine ⟨_,rfl,ta,rfl,⟨_,SqL.of eta⟩,comp_list (K:=K) (a:=ta) (xs:=tv) (fun i ys σ H'=>TabV H' ys ((tabF n t).take i)/\(∃ o,σ=[o])/\Same J11 H')
   ⟨.nil,⟨none,rfl⟩,Same.refl _⟩ (fun i ys σ H' hi ⟨e1,_,sm⟩=>⟨SqL.of (sm _ _ eta),by have:=Paired.length e1; rw [List.length_take] at this; omega⟩) (Nat.le_of_lt (small1000 (by omega))) ?_ ?_⟩
  ·rintro i x ys σ H' hix ⟨hys,⟨o,rfl⟩,sm⟩
   obtain ⟨r,hr',a,rfl,ea⟩:=paired_get hta hix
   refine ⟨_,rfl,a,_,rfl,.inl (SqL.of (sm _ _ ea)),fun c hc=>?_⟩
   have zc:=same_new hc (HO.lst (r.map V.int))
   refine ⟨?_,⟨_,rfl⟩,sm.trans zc⟩
   rw [take_snoc hr']
   exact paired_snoc (R:=LstI _) ⟨c,rfl,upd_same⟩ (TabV.same zc hys)
  rintro h0v σ JA ⟨ht0,⟨o1,rfl⟩,yJA⟩ h0 hh0
  rw [take_all (by rw [tabF_len]; omega)] at ht0
  have SG11:=SG10.trans yJA
  replace hS:=(yJA.seq hS)
  replace hms:=(partss_same yJA hms)
  replace esl:=(yJA _ _ esl)
  replace hpv:=(pu_same yJA hpv)
  replace epa:=(yJA _ _ epa)
  replace TH:=(ThingAt.same yJA TH)
  replace eta:=(yJA _ _ eta)
  replace hta:=(TabV.same yJA hta)
  replace eba:=(yJA _ _ eba)
  replace hba:=(TabV.same yJA hba)
  have yG12:=same_new hh0 (HO.lst h0v)
  have eh0:=upd_same (H:=JA) (a:=h0) (o:=HO.lst h0v)
  generalize hhG12:upd JA h0 (HO.lst h0v)=G12 at yG12 eh0 |-
  have SG12:=SG11.trans yG12
  replace hS:=(yG12.seq hS)
  replace hms:=(partss_same yG12 hms)
  replace esl:=(yG12 _ _ esl)
  replace hpv:=(pu_same yG12 hpv)
  replace epa:=(yG12 _ _ epa)
  replace TH:=(ThingAt.same yG12 TH)
  replace eta:=(yG12 _ _ eta)
  replace hta:=(TabV.same yG12 hta)
  replace eba:=(yG12 _ _ eba)
  replace hba:=(TabV.same yG12 hba)
  replace ht0:=(TabV.same yG12 ht0)
  refine ⟨_,rfl,ba,rfl,⟨_,SqL.of eba⟩,comp_list (K:=K) (a:=ba) (xs:=bv) (fun i ys σ H'=>TabV H' ys ((tabF n b).take i)/\(∃ o,σ=[o])/\Same G12 H')
   ⟨.nil,⟨none,rfl⟩,Same.refl _⟩ (fun i ys σ H' hi ⟨e1,_,sm⟩=>⟨SqL.of (sm _ _ eba),by have:=Paired.length e1; rw [List.length_take] at this; omega⟩) (Nat.le_of_lt (small1000 (by omega))) ?_ ?_⟩
  ·rintro i x ys σ H' hix ⟨hys,⟨o,rfl⟩,sm⟩
   obtain ⟨r,hr',a,rfl,ea⟩:=paired_get hba hix
   refine ⟨_,rfl,a,_,rfl,.inl (SqL.of (sm _ _ ea)),fun c hc=>?_⟩
   have zc:=same_new hc (HO.lst (r.map V.int))
   refine ⟨?_,⟨_,rfl⟩,sm.trans zc⟩
   rw [take_snoc hr']
   exact paired_snoc (R:=LstI _) ⟨c,rfl,upd_same⟩ (TabV.same zc hys)
  rintro h1v σ JB ⟨ht1,⟨o1,rfl⟩,yJB⟩ h1 hh1
  rw [take_all (by rw [tabF_len]; omega)] at ht1
  have SG13:=SG12.trans yJB
  replace hS:=(yJB.seq hS)
  replace hms:=(partss_same yJB hms)
  replace esl:=(yJB _ _ esl)
  replace hpv:=(pu_same yJB hpv)
  replace epa:=(yJB _ _ epa)
  replace TH:=(ThingAt.same yJB TH)
  replace eta:=(yJB _ _ eta)
  replace hta:=(TabV.same yJB hta)
  replace eba:=(yJB _ _ eba)
  replace hba:=(TabV.same yJB hba)
  replace ht0:=(TabV.same yJB ht0)
  replace eh0:=(yJB _ _ eh0)
  have yG14:=same_new hh1 (HO.lst h1v)
  have eh1:=upd_same (H:=JB) (a:=h1) (o:=HO.lst h1v)
  generalize hhG14:upd JB h1 (HO.lst h1v)=G14 at yG14 eh1 |-
  have SG14:=SG13.trans yG14
  replace hS:=(yG14.seq hS)
  replace hms:=(partss_same yG14 hms)
  replace esl:=(yG14 _ _ esl)
  replace hpv:=(pu_same yG14 hpv)
  replace epa:=(yG14 _ _ epa)
  replace TH:=(ThingAt.same yG14 TH)
  replace eta:=(yG14 _ _ eta)
  replace hta:=(TabV.same yG14 hta)
  replace eba:=(yG14 _ _ eba)
  replace hba:=(TabV.same yG14 hba)
  replace ht0:=(TabV.same yG14 ht0)
  replace eh0:=(yG14 _ _ eh0)
  replace ht1:=(TabV.same yG14 ht1)
  refine ⟨(by show 2<=sizeLine; decide),fun hd hhd=>?_⟩
  have yG15:=same_new hhd (HO.lst [V.ref h0,V.ref h1])
  have ehd:=upd_same (H:=G14) (a:=hd) (o:=HO.lst [V.ref h0,V.ref h1])
  generalize hhG15:upd G14 hd (HO.lst [V.ref h0,V.ref h1])=G15 at yG15 ehd |-
  have SG15:=SG14.trans yG15
  replace hS:=(yG15.seq hS)
  replace hms:=(partss_same yG15 hms)
  replace esl:=(yG15 _ _ esl)
  replace hpv:=(pu_same yG15 hpv)
  replace epa:=(yG15 _ _ epa)
  replace TH:=(ThingAt.same yG15 TH)
  replace eta:=(yG15 _ _ eta)
  replace hta:=(TabV.same yG15 hta)
  replace eba:=(yG15 _ _ eba)
  replace hba:=(TabV.same yG15 hba)
  replace ht0:=(TabV.same yG15 ht0)
  replace eh0:=(yG15 _ _ eh0)
  replace ht1:=(TabV.same yG15 ht1)
  replace eh1:=(yG15 _ _ eh1)
  show u_8 _ [some (.ref sa),some (.int cc),some (.int (n:Int)),some (.int (p:Int)),some (.ref sl),some (.ref pa),some (.ref to),some (.ref ta),some (.ref ba),some (.ref hd),none,none,none,none,none,none,none] _
  rw [E_8]
  try dsimp only [cxOf,Cx.nox,Cx.wish]
  refine ⟨_,rfl,_,rfl,hd,_,0,_,rfl,rfl,SqL.of ehd,rfl,_,rfl,hd,_,1,_,rfl,rfl,SqL.of ehd,rfl,to,kp,km,h0,h1,n,bs,ms,pv,mv,h0v,h1v,tabF n t,tabF n b,rfl,TH,THO,hm4,eh0,ht0,eh1,ht1,T40.mono (by decide),B40.mono (by decide),eTB,fun o2 mv2 kp2 km2 J12 y12 T2=>?_⟩
  have SG16:=SG15.trans y12
  replace hS:=(y12.seq hS)
  replace hms:=(partss_same y12 hms)
  replace esl:=(y12 _ _ esl)
  replace hpv:=(pu_same y12 hpv)
  replace epa:=(y12 _ _ epa)
  replace TH:=(ThingAt.same y12 TH)
  replace eta:=(y12 _ _ eta)
  replace hta:=(TabV.same y12 hta)
  replace eba:=(y12 _ _ eba)
  replace hba:=(TabV.same y12 hba)
  replace ht0:=(TabV.same y12 ht0)
  replace eh0:=(y12 _ _ eh0)
  replace ht1:=(TabV.same y12 ht1)
  replace eh1:=(y12 _ _ eh1)
  replace ehd:=(y12 _ _ ehd)
  rw [lbs] at T2
  show u_9 _ [some (.ref sa),some (.int cc),some (.int (n:Int)),some (.int (p:Int)),some (.ref sl),some (.ref pa),some (.ref to),some (.ref ta),some (.ref ba),some (.ref hd),some (.ref o2),none,none,none,none,none,none] _
  rw [E_9]
  try dsimp only [cxOf,Cx.nox,Cx.wish]
  refine ⟨_,rfl,_,rfl,_,rfl,(by show 2<=sizeLine; decide),fun l9 hl9=>?_⟩
  have yG17:=same_new hl9 (HO.lst [V.ref ta,V.ref ba])
  have el9:=upd_same (H:=J12) (a:=l9) (o:=HO.lst [V.ref ta,V.ref ba])
  generalize hhG17:upd J12 l9 (HO.lst [V.ref ta,V.ref ba])=G17 at yG17 el9 |-
  have SG17:=SG16.trans yG17
  replace hS:=(yG17.seq hS)
  replace hms:=(partss_same yG17 hms)
  replace esl:=(yG17 _ _ esl)
  replace hpv:=(pu_same yG17 hpv)
  replace epa:=(yG17 _ _ epa)
  replace TH:=(ThingAt.same yG17 TH)
  replace eta:=(yG17 _ _ eta)
  replace hta:=(TabV.same yG17 hta)
  replace eba:=(yG17 _ _ eba)
  replace hba:=(TabV.same yG17 hba)
  replace ht0:=(TabV.same yG17 ht0)
  replace eh0:=(yG17 _ _ eh0)
  replace ht1:=(TabV.same yG17 ht1)
  replace eh1:=(yG17 _ _ eh1)
  replace ehd:=(yG17 _ _ ehd)
  replace T2:=(ThingAt.same yG17 T2)
  refine ⟨.list [.list ((tabF n t).map lstT),.list ((tabF n b).map lstT)],.lst (SqL.of ehd) (.cons (.lst (SqL.of eh0) (dp_tab ht0)) (.cons (.lst (SqL.of eh1) (dp_tab ht1)) .nil)),.lst (SqL.of el9) (.cons (.lst (SqL.of eta) (dp_tab hta)) (.cons (.lst (SqL.of eba) (dp_tab hba)) .nil)),lay_two _ _,dep_two _ _,_,rfl,iteF ?_⟩
  obtain ⟨dx2,ins2⟩:=T2.ins
  refine ⟨_,rfl,o2,aThing,dx2,_,_,rfl,ins2,TThing.cl,AThing.n_many,rfl,_,rfl,rfl,_,rfl,iteB0 (ndec_yes rfl) ?_⟩
  refine ⟨_,rfl,o2,dx2,_,rfl,ins2,rfl,o2,kp2,km2,n,bs,ms.map (tmM n p (tabF n t) (tabF n b)),pv,mv2,rfl,T2,fun l1 J13 y13 _ el1=>?_⟩
  have SG18:=SG17.trans y13
  replace hS:=(y13.seq hS)
  replace hms:=(partss_same y13 hms)
  replace esl:=(y13 _ _ esl)
  replace hpv:=(pu_same y13 hpv)
  replace epa:=(y13 _ _ epa)
  replace TH:=(ThingAt.same y13 TH)
  replace eta:=(y13 _ _ eta)
  replace hta:=(TabV.same y13 hta)
  replace eba:=(y13 _ _ eba)
  replace hba:=(TabV.same y13 hba)
  replace ht0:=(TabV.same y13 ht0)
  replace eh0:=(y13 _ _ eh0)
  replace ht1:=(TabV.same y13 ht1)
  replace eh1:=(y13 _ _ eh1)
  replace ehd:=(y13 _ _ ehd)
  replace T2:=(ThingAt.same y13 T2)
  refine ⟨_,rfl,.list (bs.map puT),.lst (SqL.of el1) (dp_pu hpv),.lst (SqL.of epa) (dp_pu hpv),lay_pt bs,dep_pts bs,_,rfl,iteF ?_⟩
  clear el1 ins2 dx2
  show u_10 _ [some (.ref sa),some (.int cc),some (.int (n:Int)),some (.int (p:Int)),some (.ref sl),some (.ref pa),some (.ref to),some (.ref ta),some (.ref ba),some (.ref hd),some (.ref o2),none,none,none,none,none,none] _
  rw [E_10]
  try dsimp only [cxOf,Cx.nox,Cx.wish]
  refine ⟨_,rfl,sl,rfl,⟨_,SqL.of esl⟩,comp_list (K:=K) (a:=sl) (xs:=sv) (fun i ys σ H'=>Paired (PartsV H') ys ((ms.take i).map (tmM n p (tabF n t) (tabF n b)))/\(∃ o,σ=[o,some (.int (p:Int)),some (.ref ta),some (.ref ba)])/\Same J13 H')
   ⟨.nil,⟨none,rfl⟩,Same.refl _⟩ (fun i ys σ H' hi ⟨e1,_,sm⟩=>⟨SqL.of (sm _ _ esl),by have:=Paired.length e1; rw [List.length_map,List.length_take] at this; omega⟩) (Nat.le_of_lt (small1000 (by omega))) ?_ ?_⟩
  ·rintro i x ys σ H' hix ⟨hys,⟨o,rfl⟩,sm⟩
   obtain ⟨md,hmd,hx⟩:=paired_get hms hix
   obtain ⟨mb4,mf⟩:=hm4 md (List.mem_of_getElem? hmd)
   refine ⟨_,rfl,_,rfl,_,rfl,_,rfl,x,md,ta,ba,tv,bv,tabF n t,tabF n b,n,p,rfl,PartsV.same sm hx,(oms md (List.mem_of_getElem? hmd)).1,mb4,mf,sm _ _ eta,TabV.same sm hta,sm _ _ eba,TabV.same sm hba,T40.mono (by decide),B40.mono (by decide),n1,fun u H2 s2 hu=>⟨?_,⟨_,rfl⟩,sm.trans s2⟩⟩
   rw [take_snoc hmd,List.map_append]
   exact paired_snoc (R:=PartsV _) hu (partss_same s2 hys)
  rintro dv σ J14 ⟨hdv,⟨o1,rfl⟩,y14⟩ dl hdl
  rw [take_all (by omega)] at hdv
  have SG19:=SG18.trans y14
  replace hS:=(y14.seq hS)
  replace hms:=(partss_same y14 hms)
  replace esl:=(y14 _ _ esl)
  replace hpv:=(pu_same y14 hpv)
  replace TH:=(ThingAt.same y14 TH)
  replace eta:=(y14 _ _ eta)
  replace hta:=(TabV.same y14 hta)
  replace eba:=(y14 _ _ eba)
  replace hba:=(TabV.same y14 hba)
  replace ht0:=(TabV.same y14 ht0)
  replace eh0:=(y14 _ _ eh0)
  replace ht1:=(TabV.same y14 ht1)
  replace eh1:=(y14 _ _ eh1)
  replace ehd:=(y14 _ _ ehd)
  replace T2:=(ThingAt.same y14 T2)
  have yG20:=same_new hdl (HO.lst dv)
  have edl:=upd_same (H:=J14) (a:=dl) (o:=HO.lst dv)
  generalize hhG20:upd J14 dl (HO.lst dv)=G20 at yG20 edl |-
  have SG20:=SG19.trans yG20
  replace hS:=(yG20.seq hS)
  replace hms:=(partss_same yG20 hms)
  replace esl:=(yG20 _ _ esl)
  replace hpv:=(pu_same yG20 hpv)
  replace TH:=(ThingAt.same yG20 TH)
  replace eta:=(yG20 _ _ eta)
  replace hta:=(TabV.same yG20 hta)
  replace eba:=(yG20 _ _ eba)
  replace hba:=(TabV.same yG20 hba)
  replace ht0:=(TabV.same yG20 ht0)
  replace eh0:=(yG20 _ _ eh0)
  replace ht1:=(TabV.same yG20 ht1)
  replace eh1:=(yG20 _ _ eh1)
  replace ehd:=(yG20 _ _ ehd)
  replace T2:=(ThingAt.same yG20 T2)
  replace hdv:=(partss_same yG20 hdv)
  show u_11 _ [some (.ref sa),some (.int cc),some (.int (n:Int)),some (.int (p:Int)),some (.ref sl),some (.ref pa),some (.ref to),some (.ref ta),some (.ref ba),some (.ref hd),some (.ref o2),some (.ref dl),none,none,none,none,none] _
  rw [E_11]
  try dsimp only [cxOf,Cx.nox,Cx.wish]
  refine ⟨_,rfl,o2,kp2,km2,n,bs,(ms.map (tmM n p (tabF n t) (tabF n b))),pv,mv2,rfl,T2,(by rw [List.length_map]; omega),fun la lav J15 y15 ela hla=>?_⟩
  have SG21:=SG20.trans y15
  replace hS:=(y15.seq hS)
  replace hms:=(partss_same y15 hms)
  replace esl:=(y15 _ _ esl)
  replace hpv:=(pu_same y15 hpv)
  replace TH:=(ThingAt.same y15 TH)
  replace eta:=(y15 _ _ eta)
  replace hta:=(TabV.same y15 hta)
  replace eba:=(y15 _ _ eba)
  replace hba:=(TabV.same y15 hba)
  replace ht0:=(TabV.same y15 ht0)
  replace eh0:=(y15 _ _ eh0)
  replace ht1:=(TabV.same y15 ht1)
  replace eh1:=(y15 _ _ eh1)
  replace ehd:=(y15 _ _ ehd)
  replace T2:=(ThingAt.same y15 T2)
  replace hdv:=(partss_same y15 hdv)
  replace edl:=(y15 _ _ edl)
  refine ⟨_,rfl,.list ((ms.map (tmM n p (tabF n t) (tabF n b))).map mdT),.lst (SqL.of ela) (dp_mds hla),.lst (SqL.of edl) (dp_mds hdv),lay_mds _,dep_mdl _,_,rfl,iteF ?_⟩
  clear ela hla hdv edl
  refine ⟨_,rfl,to,kp,km,n,bs,ms,pv,mv,rfl,TH,(by omega),fun la lav J16 y16 ela hla=>?_⟩
  have SG22:=SG21.trans y16
  replace hS:=(y16.seq hS)
  replace hms:=(partss_same y16 hms)
  replace esl:=(y16 _ _ esl)
  replace hpv:=(pu_same y16 hpv)
  replace TH:=(ThingAt.same y16 TH)
  replace eta:=(y16 _ _ eta)
  replace hta:=(TabV.same y16 hta)
  replace eba:=(y16 _ _ eba)
  replace hba:=(TabV.same y16 hba)
  replace ht0:=(TabV.same y16 ht0)
  replace eh0:=(y16 _ _ eh0)
  replace ht1:=(TabV.same y16 ht1)
  replace eh1:=(y16 _ _ eh1)
  replace ehd:=(y16 _ _ ehd)
  replace T2:=(ThingAt.same y16 T2)
  refine ⟨_,rfl,.list (ms.map mdT),.lst (SqL.of ela) (dp_mds hla),.lst (SqL.of esl) (dp_mds hms),lay_mds _,dep_mdl _,_,rfl,iteF ?_⟩
  clear ela hla
  show u_12 _ [some (.ref sa),some (.int cc),some (.int (n:Int)),some (.int (p:Int)),some (.ref sl),some (.ref pa),some (.ref to),some (.ref ta),some (.ref ba),some (.ref hd),some (.ref o2),some (.ref dl),none,none,none,none,none] _
  rw [E_12]
  try dsimp only [cxOf,Cx.nox,Cx.wish]
  have THO2:ThOk n bs (ms.map (tmM n p (tabF n t) (tabF n b))):=⟨n1,n3,obs,by omega,by rw [List.length_map]; exact ms1,by rw [List.length_map]; omega,fun m hm=>by
   obtain ⟨a,ha,rfl⟩:=List.mem_map.mp hm
   rw [lbs]
   exact tmM_ok (oms a ha).1 T40 B40⟩
  have hm2:∀ m∈(ms.map (tmM n p (tabF n t) (tabF n b))),MN m 400/\m.rows.length<=100:=fun m hm=>by
   obtain ⟨a,ha,rfl⟩:=List.mem_map.mp hm
   obtain ⟨o1,b1,f1⟩:=oms a ha
   exact ⟨tmM_bd o1 b1 T40 B40,Nat.le_trans (Nat.le_of_eq (List.length_map _)) f1⟩
  refine ⟨_,rfl,_,rfl,hd,_,1,_,rfl,rfl,SqL.of ehd,rfl,_,rfl,hd,_,0,_,rfl,rfl,SqL.of ehd,rfl,o2,kp2,km2,h1,h0,n,bs,(ms.map (tmM n p (tabF n t) (tabF n b))),pv,mv2,h1v,h0v,tabF n b,tabF n t,rfl,T2,THO2,hm2,eh1,ht1,eh0,ht0,B40.mono (by decide),T40.mono (by decide),eBT,fun o3 mv3 kp3 km3 J17 y17 T3=>?_⟩
  have SG23:=SG22.trans y17
  replace hS:=(y17.seq hS)
  replace hms:=(partss_same y17 hms)
  replace esl:=(y17 _ _ esl)
  replace hpv:=(pu_same y17 hpv)
  replace TH:=(ThingAt.same y17 TH)
  replace eta:=(y17 _ _ eta)
  replace hta:=(TabV.same y17 hta)
  replace eba:=(y17 _ _ eba)
  replace hba:=(TabV.same y17 hba)
  replace ht0:=(TabV.same y17 ht0)
  replace eh0:=(y17 _ _ eh0)
  replace ht1:=(TabV.same y17 ht1)
  replace eh1:=(y17 _ _ eh1)
  replace ehd:=(y17 _ _ ehd)
  rw [lbs,tms_back (fun m hm=>(oms m hm).1) rT rB eBT] at T3
  refine ⟨o3,kp3,km3,n,bs,ms,pv,mv3,rfl,T3,(by omega),fun la lav J18 y18 ela hla=>?_⟩
  have SG24:=SG23.trans y18
  replace hS:=(y18.seq hS)
  replace hms:=(partss_same y18 hms)
  replace esl:=(y18 _ _ esl)
  replace hpv:=(pu_same y18 hpv)
  replace TH:=(ThingAt.same y18 TH)
  replace eta:=(y18 _ _ eta)
  replace hta:=(TabV.same y18 hta)
  replace eba:=(y18 _ _ eba)
  replace hba:=(TabV.same y18 hba)
  replace ht0:=(TabV.same y18 ht0)
  replace eh0:=(y18 _ _ eh0)
  replace ht1:=(TabV.same y18 ht1)
  replace eh1:=(y18 _ _ eh1)
  replace ehd:=(y18 _ _ ehd)
  refine ⟨_,rfl,.list (ms.map mdT),.lst (SqL.of ela) (dp_mds hla),.lst (SqL.of esl) (dp_mds hms),lay_mds _,dep_mdl _,_,rfl,iteF ?_⟩
  clear ela hla T3 THO2 hm2 hms
  show u_13 _ [some (.ref sa),some (.int cc),some (.int (n:Int)),some (.int (p:Int)),some (.ref sl),some (.ref pa),some (.ref to),some (.ref ta),some (.ref ba),some (.ref hd),some (.ref o2),some (.ref dl),none,none,none,none,none] _
  rw [E_13]
  try dsimp only [cxOf,Cx.nox,Cx.wish]
  refine ⟨_,rfl,sa,ns,13,rfl,hS,(by decide),_,8,rfl,(by decide),(by decide),fun xl J19 xs0 y19 _ exl lxs bxs=>?_⟩
  have SG25:=SG24.trans y19
  replace hS:=(y19.seq hS)
  replace TH:=(ThingAt.same y19 TH)
  replace eta:=(y19 _ _ eta)
  replace hta:=(TabV.same y19 hta)
  replace eba:=(y19 _ _ eba)
  replace hba:=(TabV.same y19 hba)
  replace ht0:=(TabV.same y19 ht0)
  replace eh0:=(y19 _ _ eh0)
  replace ht1:=(TabV.same y19 ht1)
  replace eh1:=(y19 _ _ eh1)
  replace ehd:=(y19 _ _ ehd)
  have lx8:xs0.length=8:=lxs
  have bx2:∀ k:Nat,k < 8->Bd 200 (xs0.getD k 0):=fun k hk=>by
   obtain ⟨h1,h2⟩:=bxs _ (getD_mem (show k < xs0.length by omega))
   have h3:(10:Int) ^ 45 < 2 ^ 200:=by decide
   show (xs0.getD k 0).natAbs < 2 ^ 200
   omega
  show u_14 _ [some (.ref sa),some (.int cc),some (.int (n:Int)),some (.int (p:Int)),some (.ref sl),some (.ref pa),some (.ref to),some (.ref ta),some (.ref ba),some (.ref hd),some (.ref o2),some (.ref dl),some (.ref xl),none,none,none,none] _
  rw [E_14]
  try dsimp only [cxOf,Cx.nox,Cx.wish]
  refine ⟨_,rfl,_,rfl,(by omega),(by omega),comp_range (lo:=0) (n:=((n:Nat):Int).toNat)
   (fun i ys σ H'=>∃ as:List Int,PtV H' ys (as.map fun x=>(x,1))/\as.length=i/\(∀ a∈as,Bd 101 a)/\(∃ o,σ=[o,some (.ref xl)])/\Same J19 H')
   ⟨[],.nil,rfl,(fun _ h=>nomatch h),⟨none,rfl⟩,Same.refl _⟩ (fun i ys σ H' ⟨as,h,hl,_⟩=>by have:=Paired.length h; rw [List.length_map] at this; omega) (Nat.le_of_lt (small1000 (by omega))) ?_ ?_⟩
  ·rintro i ys σ H' hi ⟨as,hz,las,bas,⟨o,rfl⟩,sm⟩
   have ai:atI (xs0.map V.int) (0 + (i:Int))=some (.int (xs0.getD i 0)):=by rw [Int.zero_add]; exact at_int (by omega)
   refine ⟨_,rfl,_,rfl,xl,_,_,_,rfl,rfl,SqL.of (sm _ _ exl),ai,_,rfl,bx2 i (by omega),fun y by9=>?_⟩
   refine ⟨(by show 2<=sizeLine; decide),fun a ha=>?_⟩
   have za:=same_new ha (HO.tup [V.int y,V.int 1])
   refine ⟨as++[y],?_,(by rw [List.length_append,las]; rfl),fun b hb=>?_,⟨_,rfl⟩,sm.trans za⟩
   ·rw [List.map_append]
    exact paired_snoc (R:=FrV _) (y:=(y,(1:Int))) ⟨a,rfl,upd_same⟩ (PtV.same za hz)
   ·rcases List.mem_append.mp hb with hb | hb
    ·exact bas b hb
    ·rw [List.mem_singleton.mp hb]; exact by9
  rintro pv0 σ J20 ⟨as,hp0,las,bas,⟨o1,rfl⟩,y20⟩ pl hpl
  rw [Int.toNat_natCast] at las
  have SG26:=SG25.trans y20
  replace hS:=(y20.seq hS)
  replace TH:=(ThingAt.same y20 TH)
  replace eta:=(y20 _ _ eta)
  replace hta:=(TabV.same y20 hta)
  replace eba:=(y20 _ _ eba)
  replace hba:=(TabV.same y20 hba)
  replace ht0:=(TabV.same y20 ht0)
  replace eh0:=(y20 _ _ eh0)
  replace ht1:=(TabV.same y20 ht1)
  replace eh1:=(y20 _ _ eh1)
  replace ehd:=(y20 _ _ ehd)
  replace exl:=(y20 _ _ exl)
  have lp0:pv0.length=n:=by
   have:=Paired.length hp0
   rw [List.length_map] at this
   omega
  have zp:=same_new hpl (HO.lst pv0)
  have epl0:=upd_same (H:=J20) (a:=pl) (o:=HO.lst pv0)
  generalize hhP1:upd J20 pl (HO.lst pv0)=P1 at zp epl0 |-
  show u_15 _ [some (.ref sa),some (.int cc),some (.int (n:Int)),some (.int (p:Int)),some (.ref sl),some (.ref pa),some (.ref to),some (.ref ta),some (.ref ba),some (.ref hd),some (.ref o2),some (.ref dl),some (.ref xl),some (.ref pl),none,none,none] _
  rw [E_15]
  try dsimp only [cxOf,Cx.nox,Cx.wish]
  obtain ⟨x0,hx0,f0,e0,ef0⟩:=paired_get hp0 (List.getElem?_eq_getElem (show 0 < pv0.length by omega))
  have ex0:x0=(as.getD 0 0,1):=by
   cases as with
   | nil=>simp at las; omega
   | cons a t=>exact (Option.some.inj hx0).symm
  have a00:atI pv0 0=some (.ref f0):=atI_nat (j:=0) ((List.getElem?_eq_getElem (show 0 < pv0.length by omega)).trans (by rw [e0]))
  rw [ex0] at ef0
  have bA:=bas _ (getD_mem (show 0 < as.length by omega))
  refine ⟨_,rfl,pl,_,0,_,rfl,rfl,SqL.of epl0,a00,f0,_,0,_,rfl,rfl,SqT.of (zp _ _ ef0),at0,_,_,rfl,rfl,⟨b2.mono (by decide),bA.mono (by decide)⟩,_,_,rfl,rfl,(by show 2<=sizeLine; decide),fun fa hfa=>?_⟩
  have zq:=same_new hfa (HO.tup [V.int (2 * as.getD 0 0 + 1),V.int 2])
  have efa:=upd_same (H:=P1) (a:=fa) (o:=HO.tup [V.int (2 * as.getD 0 0 + 1),V.int 2])
  have nfa:fa≠pl:=(ne_of_none epl0 hfa).symm
  generalize hhP2:upd P1 fa (HO.tup [V.int (2 * as.getD 0 0 + 1),V.int 2])=P2 at zq efa |-
  refine ⟨_,rfl,pl,_,_,0,rfl,rfl,zq _ _ epl0,(show ixN _ ((0:Nat):Int)=some 0 from ixN_nat (by omega)),?_⟩
  have yP:Same J20 (upd P2 pl (HO.lst (pv0.set 0 (V.ref fa)))):=fun x o e=>by
   rw [upd_ne (fun z=>by rw [z,hpl] at e; cases e)]
   exact zq _ _ (zp _ _ e)
  have epl:=upd_same (H:=P2) (a:=pl) (o:=HO.lst (pv0.set 0 (V.ref fa)))
  have efa2:=(upd_ne nfa (H:=P2) (o:=HO.lst (pv0.set 0 (V.ref fa)))).trans efa
  generalize hhP3:upd P2 pl (HO.lst (pv0.set 0 (V.ref fa)))=P3 at yP epl efa2 |-
  have SG27:=SG26.trans yP
  replace hS:=(yP.seq hS)
  replace TH:=(ThingAt.same yP TH)
  replace eta:=(yP _ _ eta)
  replace hta:=(TabV.same yP hta)
  replace eba:=(yP _ _ eba)
  replace hba:=(TabV.same yP hba)
  replace ht0:=(TabV.same yP ht0)
  replace eh0:=(yP _ _ eh0)
  replace ht1:=(TabV.same yP ht1)
  replace eh1:=(yP _ _ eh1)
  replace ehd:=(yP _ _ ehd)
  replace exl:=(yP _ _ exl)
  replace hp0:=(PtV.same yP hp0)
  have hpt:=pt_put hp0 (by omega) efa2
  have lpt:(ptsM as).length=n:=(ptsM_len as).trans las
  have bpt:=pts_bd bas
  have lowp:=pts_low as
  obtain ⟨hx,hH⟩:=half_pts as
  generalize pv0.set 0 (V.ref fa)=ptv at epl hpt
  generalize ptsM as=pts at hpt lpt bpt lowp hH
  clear hp0 efa efa2 bA ef0 hx0 ex0 e0 a00 bas las lp0 zp zq epl0
  have PO:PtOk pts:=pts_okS (by omega) bpt
  show u_16 _ [some (.ref sa),some (.int cc),some (.int (n:Int)),some (.int (p:Int)),some (.ref sl),some (.ref pa),some (.ref to),some (.ref ta),some (.ref ba),some (.ref hd),some (.ref o2),some (.ref dl),some (.ref xl),some (.ref pl),none,none,none] _
  rw [E_16]
  try dsimp only [cxOf,Cx.nox,Cx.wish]
  refine ⟨_,rfl,_,_,rfl,rfl,_,rfl,(by omega),(by omega),comp_range (lo:=0) (n:=((n:Int) + 1).toNat)
   (fun i ys σ H'=>∃ rs:List Int,ys=rs.map V.int/\rs.length=i/\(∀ a∈rs,Bd 101 a)/\(∃ o,σ=[o,some (.ref xl)])/\H'=P3)
   ⟨[],rfl,rfl,(fun _ h=>nomatch h),⟨none,rfl⟩,rfl⟩ (fun i ys σ H' ⟨rs,h,hl,_⟩=>by rw [h,List.length_map]; omega) (Nat.le_of_lt (small1000 (by omega))) ?_ ?_⟩
  ·rintro i ys σ H' hi ⟨rs,rfl,las,bas,⟨o,rfl⟩,rfl⟩
   have ai:atI (xs0.map V.int) (3 + (0 + (i:Int)))=some (.int (xs0.getD (3 + i) 0)):=by
    rw [show (3:Int) + (0 + (i:Int))=((3 + i:Nat):Int) by omega]
    exact at_int (by omega)
   refine ⟨_,rfl,_,rfl,_,_,rfl,rfl,xl,_,_,_,rfl,rfl,SqL.of exl,ai,_,rfl,bx2 (3 + i) (by omega),fun y by9=>?_⟩
   refine ⟨rs++[y],(by rw [List.map_append]; rfl),(by rw [List.length_append,las]; rfl),fun b hb=>?_,⟨_,rfl⟩,rfl⟩
   rcases List.mem_append.mp hb with hb | hb
   ·exact bas b hb
   ·rw [List.mem_singleton.mp hb]; exact by9
  rintro ys σ J21 ⟨rs,rfl,lrs,brs,⟨o1,rfl⟩,hZ⟩ rl hrl
  rw [hZ] at hrl |-
  clear hZ
  replace lrs:rs.length=n + 1:=by omega
  have yG28:=same_new hrl (HO.lst (rs.map V.int))
  have erl:=upd_same (H:=P3) (a:=rl) (o:=HO.lst (rs.map V.int))
  generalize hhG28:upd P3 rl (HO.lst (rs.map V.int))=G28 at yG28 erl |-
  have SG28:=SG27.trans yG28
  replace hS:=(yG28.seq hS)
  replace TH:=(ThingAt.same yG28 TH)
  replace eta:=(yG28 _ _ eta)
  replace hta:=(TabV.same yG28 hta)
  replace eba:=(yG28 _ _ eba)
  replace hba:=(TabV.same yG28 hba)
  replace ht0:=(TabV.same yG28 ht0)
  replace eh0:=(yG28 _ _ eh0)
  replace ht1:=(TabV.same yG28 ht1)
  replace eh1:=(yG28 _ _ eh1)
  replace ehd:=(yG28 _ _ ehd)
  replace exl:=(yG28 _ _ exl)
  replace epl:=(yG28 _ _ epl)
  replace hpt:=(PtV.same yG28 hpt)
  refine ⟨rl,_,rfl,.inl ⟨SqL.of erl,fun rt hrt=>?_⟩⟩
  have yG29:=same_new hrt (HO.tup (rs.map V.int))
  have ert:=upd_same (H:=G28) (a:=rt) (o:=HO.tup (rs.map V.int))
  generalize hhG29:upd G28 rt (HO.tup (rs.map V.int))=G29 at yG29 ert |-
  have SG29:=SG28.trans yG29
  replace hS:=(yG29.seq hS)
  replace TH:=(ThingAt.same yG29 TH)
  replace eta:=(yG29 _ _ eta)
  replace hta:=(TabV.same yG29 hta)
  replace eba:=(yG29 _ _ eba)
  replace hba:=(TabV.same yG29 hba)
  replace ht0:=(TabV.same yG29 ht0)
  replace eh0:=(yG29 _ _ eh0)
  replace ht1:=(TabV.same yG29 ht1)
  replace eh1:=(yG29 _ _ eh1)
  replace ehd:=(yG29 _ _ ehd)
  replace exl:=(yG29 _ _ exl)
  replace epl:=(yG29 _ _ epl)
  replace hpt:=(PtV.same yG29 hpt)
  show u_17 _ [some (.ref sa),some (.int cc),some (.int (n:Int)),some (.int (p:Int)),some (.ref sl),some (.ref pa),some (.ref to),some (.ref ta),some (.ref ba),some (.ref hd),some (.ref o2),some (.ref dl),some (.ref xl),some (.ref pl),some (.ref rt),none,none] _
  rw [E_17]
  try dsimp only [cxOf,Cx.nox,Cx.wish]
  refine ⟨_,rfl,hd,_,0,_,rfl,rfl,SqL.of ehd,rfl,_,rfl,pl,_,rfl,.inl (SqL.of epl),fun lq hlq=>?_⟩
  have yG30:=same_new hlq (HO.lst ptv)
  have elq:=upd_same (H:=G29) (a:=lq) (o:=HO.lst ptv)
  generalize hhG30:upd G29 lq (HO.lst ptv)=G30 at yG30 elq |-
  have SG30:=SG29.trans yG30
  replace hS:=(yG30.seq hS)
  replace TH:=(ThingAt.same yG30 TH)
  replace eta:=(yG30 _ _ eta)
  replace hta:=(TabV.same yG30 hta)
  replace eba:=(yG30 _ _ eba)
  replace hba:=(TabV.same yG30 hba)
  replace ht0:=(TabV.same yG30 ht0)
  replace eh0:=(yG30 _ _ eh0)
  replace ht1:=(TabV.same yG30 ht1)
  replace eh1:=(yG30 _ _ eh1)
  replace ehd:=(yG30 _ _ ehd)
  replace epl:=(yG30 _ _ epl)
  replace hpt:=(PtV.same yG30 hpt)
  replace ert:=(yG30 _ _ ert)
  have W1:∀ ws∈tabF n t,RwOk ws pts.length:=fun ws hw=>⟨(rT ws hw).trans lpt.symm,fun x hx=>((T40.row ws hw).2 x hx).mono (by decide)⟩
  refine ⟨h0,lq,h0v,ptv,tabF n t,pts,rfl,eh0,ht0,elq,hpt,PO,(by omega),W1,(by rw [tabF_len]; omega),fun nl nlv J22 y22 _ enl hnl=>?_⟩
  have SG31:=SG30.trans y22
  replace hS:=(y22.seq hS)
  replace TH:=(ThingAt.same y22 TH)
  replace eta:=(y22 _ _ eta)
  replace hta:=(TabV.same y22 hta)
  replace eba:=(y22 _ _ eba)
  replace hba:=(TabV.same y22 hba)
  replace ht0:=(TabV.same y22 ht0)
  replace eh0:=(y22 _ _ eh0)
  replace ht1:=(TabV.same y22 ht1)
  replace eh1:=(y22 _ _ eh1)
  replace ehd:=(y22 _ _ ehd)
  replace epl:=(y22 _ _ epl)
  replace hpt:=(PtV.same y22 hpt)
  replace ert:=(y22 _ _ ert)
  have lnp:(turnP (tabF n t) pts).length=n:=(List.length_map _).trans (tabF_len _ _)
  have PO2:PtOk (turnP (tabF n t) pts):=turnP_ok n3 T40 lpt bpt
  have W2:∀ ws∈tabF n b,RwOk ws (turnP (tabF n t) pts).length:=fun ws hw=>⟨(rB ws hw).trans lnp.symm,fun x hx=>((B40.row ws hw).2 x hx).mono (by decide)⟩
  show u_18 _ [some (.ref sa),some (.int cc),some (.int (n:Int)),some (.int (p:Int)),some (.ref sl),some (.ref pa),some (.ref to),some (.ref ta),some (.ref ba),some (.ref hd),some (.ref o2),some (.ref dl),some (.ref xl),some (.ref pl),some (.ref rt),some (.ref nl),none] _
  rw [E_18]
  try dsimp only [cxOf,Cx.nox,Cx.wish]
  refine ⟨_,rfl,hd,_,1,_,rfl,rfl,SqL.of ehd,rfl,_,rfl,nl,_,rfl,.inl (SqL.of enl),fun lq hlq=>?_⟩
  have yG32:=same_new hlq (HO.lst nlv)
  have elq:=upd_same (H:=J22) (a:=lq) (o:=HO.lst nlv)
  generalize hhG32:upd J22 lq (HO.lst nlv)=G32 at yG32 elq |-
  have SG32:=SG31.trans yG32
  replace hS:=(yG32.seq hS)
  replace TH:=(ThingAt.same yG32 TH)
  replace eta:=(yG32 _ _ eta)
  replace hta:=(TabV.same yG32 hta)
  replace eba:=(yG32 _ _ eba)
  replace hba:=(TabV.same yG32 hba)
  replace ht0:=(TabV.same yG32 ht0)
  replace eh0:=(yG32 _ _ eh0)
  replace ht1:=(TabV.same yG32 ht1)
  replace eh1:=(yG32 _ _ eh1)
  replace ehd:=(yG32 _ _ ehd)
  replace epl:=(yG32 _ _ epl)
  replace hpt:=(PtV.same yG32 hpt)
  replace ert:=(yG32 _ _ ert)
  replace enl:=(yG32 _ _ enl)
  replace hnl:=(PtV.same yG32 hnl)
  refine ⟨h1,lq,h1v,nlv,tabF n b,turnP (tabF n t) pts,rfl,eh1,ht1,elq,hnl,PO2,(by omega),W2,(by rw [tabF_len]; omega),fun bl blv J23 y23 _ ebl hbl=>?_⟩
  have SG33:=SG32.trans y23
  replace hS:=(y23.seq hS)
  replace TH:=(ThingAt.same y23 TH)
  replace eta:=(y23 _ _ eta)
  replace hta:=(TabV.same y23 hta)
  replace eba:=(y23 _ _ eba)
  replace hba:=(TabV.same y23 hba)
  replace ht0:=(TabV.same y23 ht0)
  replace eh0:=(y23 _ _ eh0)
  replace ht1:=(TabV.same y23 ht1)
  replace eh1:=(y23 _ _ eh1)
  replace ehd:=(y23 _ _ ehd)
  replace epl:=(y23 _ _ epl)
  replace hpt:=(PtV.same y23 hpt)
  replace ert:=(y23 _ _ ert)
  replace enl:=(y23 _ _ enl)
  replace hnl:=(PtV.same y23 hnl)
  rw [turnP_back hH lowp lpt ⟨tabF_len _ _,rT⟩ rB eBT] at hbl
  refine ⟨_,rfl,.list (pts.map puT),.lst (SqL.of ebl) (dp_pt hbl),.lst (SqL.of epl) (dp_pt hpt),lay_pt pts,dep_pts pts,_,rfl,iteF ?_⟩
  clear ebl hbl
  show u_19 _ [some (.ref sa),some (.int cc),some (.int (n:Int)),some (.int (p:Int)),some (.ref sl),some (.ref pa),some (.ref to),some (.ref ta),some (.ref ba),some (.ref hd),some (.ref o2),some (.ref dl),some (.ref xl),some (.ref pl),some (.ref rt),some (.ref nl),none] _
  rw [E_19]
  try dsimp only [cxOf,Cx.nox,Cx.wish]
  have brs9:∀ x∈rs,Bd 1000 x:=fun x hx=>(brs x hx).mono (by decide)
  refine ⟨_,rfl,hd,_,1,_,rfl,rfl,SqL.of ehd,rfl,_,rfl,h1,rt,h1v,tabF n b,rs,n,rfl,eh1,ht1,ert,lrs,B40.mono (by decide),brs9,n1,n3,fun t1 J24 y24 _ et1=>?_⟩
  have SG34:=SG33.trans y24
  replace hS:=(y24.seq hS)
  replace TH:=(ThingAt.same y24 TH)
  replace eta:=(y24 _ _ eta)
  replace hta:=(TabV.same y24 hta)
  replace eba:=(y24 _ _ eba)
  replace hba:=(TabV.same y24 hba)
  replace ht0:=(TabV.same y24 ht0)
  replace eh0:=(y24 _ _ eh0)
  replace ht1:=(TabV.same y24 ht1)
  replace eh1:=(y24 _ _ eh1)
  replace ehd:=(y24 _ _ ehd)
  replace epl:=(y24 _ _ epl)
  replace hpt:=(PtV.same y24 hpt)
  replace ert:=(y24 _ _ ert)
  replace enl:=(y24 _ _ enl)
  replace hnl:=(PtV.same y24 hnl)
  refine ⟨_,rfl,_,rfl,ba,rt,bv,tabF n b,rs,n,rfl,eba,hba,ert,lrs,B40.mono (by decide),brs9,n1,n3,fun t2 J25 y25 et2=>?_⟩
  have SG35:=SG34.trans y25
  replace hS:=(y25.seq hS)
  replace TH:=(ThingAt.same y25 TH)
  replace eta:=(y25 _ _ eta)
  replace hta:=(TabV.same y25 hta)
  replace eba:=(y25 _ _ eba)
  replace hba:=(TabV.same y25 hba)
  replace ht0:=(TabV.same y25 ht0)
  replace eh0:=(y25 _ _ eh0)
  replace ht1:=(TabV.same y25 ht1)
  replace eh1:=(y25 _ _ eh1)
  replace ehd:=(y25 _ _ ehd)
  replace epl:=(y25 _ _ epl)
  replace hpt:=(PtV.same y25 hpt)
  replace ert:=(y25 _ _ ert)
  replace enl:=(y25 _ _ enl)
  replace hnl:=(PtV.same y25 hnl)
  replace et1:=(y25 _ _ et1)
  refine ⟨.tuple ((turnR n (tabF n b) rs).map PyData.int),.tup (SqT.of et1) (dp_ints _),.tup (SqT.of et2) (dp_ints _),lay_tup _,(by show PyData.depthAll _ + 1<=60; rw [dep_i]; decide),_,rfl,iteF ?_⟩
  clear et1 et2
  show u_20 _ [some (.ref sa),some (.int cc),some (.int (n:Int)),some (.int (p:Int)),some (.ref sl),some (.ref pa),some (.ref to),some (.ref ta),some (.ref ba),some (.ref hd),some (.ref o2),some (.ref dl),some (.ref xl),some (.ref pl),some (.ref rt),some (.ref nl),none] _
  rw [E_20]
  try dsimp only [cxOf,Cx.nox,Cx.wish]
  refine ⟨_,rfl,hd,_,1,_,rfl,rfl,SqL.of ehd,rfl,_,rfl,h1,rt,h1v,tabF n b,rs,n,rfl,eh1,ht1,ert,lrs,B40.mono (by decide),brs9,n1,n3,fun t1 J26 y26 _ et1=>?_⟩
  have SG36:=SG35.trans y26
  replace hS:=(y26.seq hS)
  replace TH:=(ThingAt.same y26 TH)
  replace eta:=(y26 _ _ eta)
  replace hta:=(TabV.same y26 hta)
  replace eba:=(y26 _ _ eba)
  replace hba:=(TabV.same y26 hba)
  replace ht0:=(TabV.same y26 ht0)
  replace eh0:=(y26 _ _ eh0)
  replace ht1:=(TabV.same y26 ht1)
  replace eh1:=(y26 _ _ eh1)
  replace ehd:=(y26 _ _ ehd)
  replace epl:=(y26 _ _ epl)
  replace hpt:=(PtV.same y26 hpt)
  replace ert:=(y26 _ _ ert)
  replace enl:=(y26 _ _ enl)
  replace hnl:=(PtV.same y26 hnl)
  have etr:J26 t1=some (.tup (rowV ((List.range n).map (plcL (rs.take n) (tabF n b))) (rs.getD n 0))):=et1.trans (by unfold turnR rowV; rw [List.map_append]; rfl)
  have W3:RwOk ((List.range n).map (plcL (rs.take n) (tabF n b))) (turnP (tabF n t) pts).length:=⟨by rw [List.length_map,List.length_range,lnp],fun x hx=>(turnR_bd lrs brs B40 x (List.mem_append_left _ hx)).mono (by omega)⟩
  have W4:RwOk (rs.take n) pts.length:=⟨by rw [List.length_take]; omega,fun x hx=>brs9 x (List.mem_of_mem_take hx)⟩
  refine ⟨_,rfl,t1,nl,_,_,nlv,turnP (tabF n t) pts,rfl,etr,SqL.of enl,hnl,PO2,W3,(by omega),fun r1 J27 y27 er1=>?_⟩
  have SG37:=SG36.trans y27
  replace hS:=(y27.seq hS)
  replace TH:=(ThingAt.same y27 TH)
  replace eta:=(y27 _ _ eta)
  replace hta:=(TabV.same y27 hta)
  replace eba:=(y27 _ _ eba)
  replace hba:=(TabV.same y27 hba)
  replace ht0:=(TabV.same y27 ht0)
  replace eh0:=(y27 _ _ eh0)
  replace ht1:=(TabV.same y27 ht1)
  replace eh1:=(y27 _ _ eh1)
  replace ehd:=(y27 _ _ ehd)
  replace epl:=(y27 _ _ epl)
  replace hpt:=(PtV.same y27 hpt)
  replace ert:=(y27 _ _ ert)
  replace enl:=(y27 _ _ enl)
  replace hnl:=(PtV.same y27 hnl)
  refine ⟨_,rfl,_,rfl,rt,pl,rs.take n,rs.getD n 0,ptv,pts,rfl,(by rw [rowV_split lrs]; exact ert),SqL.of epl,hpt,PO,W4,(by omega),fun r2 J28 y28 er2=>?_⟩
  have SG38:=SG37.trans y28
  replace hS:=(y28.seq hS)
  replace TH:=(ThingAt.same y28 TH)
  replace eta:=(y28 _ _ eta)
  replace hta:=(TabV.same y28 hta)
  replace eba:=(y28 _ _ eba)
  replace hba:=(TabV.same y28 hba)
  replace ht0:=(TabV.same y28 ht0)
  replace eh0:=(y28 _ _ eh0)
  replace ht1:=(TabV.same y28 ht1)
  replace eh1:=(y28 _ _ eh1)
  replace ehd:=(y28 _ _ ehd)
  replace epl:=(y28 _ _ epl)
  replace hpt:=(PtV.same y28 hpt)
  replace ert:=(y28 _ _ ert)
  replace enl:=(y28 _ _ enl)
  replace hnl:=(PtV.same y28 hnl)
  replace er1:=(y28 _ _ er1)
  obtain ⟨ea1,ea2⟩:=along_turn (r:=rs.take n) hH lpt ⟨tabF_len _ _,rT⟩ rB eBT (by rw [List.length_take]; omega)
  rw [ea1,ea2] at er1
  refine ⟨.tuple [.int (lowT (alFold (rs.take n) pts).1 (alFold (rs.take n) pts).2),.int (lowB (alFold (rs.take n) pts).1 (alFold (rs.take n) pts).2)],.tup (SqT.of er1) (.cons (.int _) (.cons (.int _) .nil)),.tup (SqT.of er2) (.cons (.int _) (.cons (.int _) .nil)),rfl,(by show max 0 (max 0 0) + 1<=60; decide),_,rfl,iteF ?_⟩
  clear er1 er2
  show u_21 _ [some (.ref sa),some (.int cc),some (.int (n:Int)),some (.int (p:Int)),some (.ref sl),some (.ref pa),some (.ref to),some (.ref ta),some (.ref ba),some (.ref hd),some (.ref o2),some (.ref dl),some (.ref xl),some (.ref pl),some (.ref rt),some (.ref nl),none] _
  rw [E_21]
  try dsimp only [cxOf,Cx.nox,Cx.wish]
  refine ⟨_,rfl,_,rfl,_,rfl,sa,ns,14,rfl,hS,(by decide),ta,ba,tv,bv,n,t,b,_,rfl,eta,hta,eba,hba,n1,n3,I2,BD,fun wr v1 v2 J29 y29 ewr W9=>?_⟩
  have SG39:=SG38.trans y29
  replace hS:=(y29.seq hS)
  replace TH:=(ThingAt.same y29 TH)
  replace eta:=(y29 _ _ eta)
  replace hta:=(TabV.same y29 hta)
  replace eba:=(y29 _ _ eba)
  replace hba:=(TabV.same y29 hba)
  replace ht0:=(TabV.same y29 ht0)
  replace eh0:=(y29 _ _ eh0)
  replace ht1:=(TabV.same y29 ht1)
  replace eh1:=(y29 _ _ eh1)
  replace ehd:=(y29 _ _ ehd)
  replace epl:=(y29 _ _ epl)
  replace hpt:=(PtV.same y29 hpt)
  replace ert:=(y29 _ _ ert)
  replace enl:=(y29 _ _ enl)
  replace hnl:=(PtV.same y29 hnl)
  show u_22 _ [some (.ref sa),some (.int cc),some (.int (n:Int)),some (.int (p:Int)),some (.ref sl),some (.ref pa),some (.ref to),some (.ref ta),some (.ref ba),some (.ref hd),some (.ref o2),some (.ref dl),some (.ref xl),some (.ref pl),some (.ref rt),some (.ref nl),some (.ref wr)] _
  rw [E_22]
  try dsimp only [cxOf,Cx.nox,Cx.wish]
  exact ⟨_,rfl,_,rfl,wr,_,0,_,rfl,rfl,SqT.of ewr,at0,_,rfl,wr,_,1,_,rfl,rfl,SqT.of ewr,at1,to,kp,km,v1,v2,n,bs,ms,pv,mv,rfl,TH,n3,W9,fun _=>qq _⟩
 refine ⟨_,(pss_cons (ps_set (i:=1) sc_law.nd rfl (Or.inr rfl) (pe_callF c_l_cell_at hr rfl (pa_cons (L2.pvj 0) (pa_cons pe_int pa_nil))))
  (pss_cons (ps_set (i:=2) sc_law.nd rfl (Or.inr rfl) (pe_op (ji0 op_add) pe_int (pe_op (ji op_modN) (L2.pvj 1) pe_int)))
  (pss_cons (ps_set (i:=3) sc_law.nd rfl (Or.inr rfl) (pe_op (ji op_modN) (pe_op (ji op_fdivW) (L2.pvj 1) pe_int) pe_int))
  T2))),?_⟩
 try dsimp only [cxOf,Cx.nox,Cx.wish]
 have b3:Bd 4 (3:Int):=Bd.lit
 refine ⟨_,rfl,sa,ns,0,rfl,hS,(by decide),?_⟩
 refine ⟨_,rfl,_,_,rfl,rfl,(show (3:Int)≠0 by decide),_,_,rfl,rfl,?_⟩
 refine ⟨_,rfl,_,_,rfl,rfl,⟨(show (3:Int)≠0 by decide),b3.mono (by decide)⟩,_,_,rfl,rfl,(show (4:Int)≠0 by decide),?_⟩
 have g0:=Int.fmod_nonneg_of_pos (cellZ ns 0) (show (0:Int) < 3 by decide)
 have g1:=Int.fmod_lt_of_pos (cellZ ns 0) (show (0:Int) < 3 by decide)
 have c0:=Int.fmod_nonneg_of_pos ((cellZ ns 0).fdiv 3) (show (0:Int) < 4 by decide)
 have c1:=Int.fmod_lt_of_pos ((cellZ ns 0).fdiv 3) (show (0:Int) < 4 by decide)
 have R3:=R2 (1 + (cellZ ns 0).fmod 3).toNat (((cellZ ns 0).fdiv 3).fmod 4).toNat (cellZ ns 0) (by omega) (by omega) (by omega)
 rw [show ((((1 + (cellZ ns 0).fmod 3).toNat:Nat)):Int)=1 + (cellZ ns 0).fmod 3 by omega,show (((((cellZ ns 0).fdiv 3).fmod 4).toNat:Nat):Int)=((cellZ ns 0).fdiv 3).fmod 4 by omega] at R3
 exact R3
end
end K85
namespace L2
theorem arity1 {α:Type} {P:List α->Prop} (h:∀ x0:α,P [x0]):∀ us:List α,us.length=1->P us
 | [x0],_=>h x0
theorem arity2 {α:Type} {P:List α->Prop} (h:∀ x0 x1:α,P [x0,x1]):∀ us:List α,us.length=2->P us
 | [x0,x1],_=>h x0 x1
theorem arity3 {α:Type} {P:List α->Prop} (h:∀ x0 x1 x2:α,P [x0,x1,x2]):∀ us:List α,us.length=3->P us
 | [x0,x1,x2],_=>h x0 x1 x2
theorem arity4 {α:Type} {P:List α->Prop} (h:∀ x0 x1 x2 x3:α,P [x0,x1,x2,x3]):∀ us:List α,us.length=4->P us
 | [x0,x1,x2,x3],_=>h x0 x1 x2 x3
theorem arity7 {α:Type} {P:List α->Prop} (h:∀ x0 x1 x2 x3 x4 x5 x6:α,P [x0,x1,x2,x3,x4,x5,x6]):∀ us:List α,us.length=7->P us
 | [x0,x1,x2,x3,x4,x5,x6],_=>h x0 x1 x2 x3 x4 x5 x6
end L2
namespace K85
open PySem L2 Sh
theorem all_mk {l:PySem.W.OpenLaw} {w:World} {K:PySem.W.Frag} {h:Heap} {mg:Str->Option Value} {fa f0 f1 f2 f3 f4 f5 f6 f7 f8 f9 f10 f11 f12 f13 f14 f15 f16 f17 f18 f19 f20 f21 f22 f23 f24 f25 f26 f27 f28 f29 f30 f31 f32 f33 f34 f35 f36 f37 f38:Addr} (X:K.In h) (G:h.Ns mainGlobals mg) (hfa:mg "law" = some (.ref fa))
  {od0 an0 od1 an1 od2 an2 od3 an3 od4 an4 od5 an5 od6 an6 od7 an7 od8 an8 od9 an9 od10 an10 od11 an11 od12 an12 od13 an13 od14 an14 od15 an15 od16 an16 od17 an17 od18 an18 od19 an19 od20 an20 od21 an21 od22 an22 od23 an23 od24 an24 od25 an25 od26 an26 od27 an27 od28 an28 od29 an29 od30 an30 od31 an31 od32 an32 od33 an33 od34 an34 od35 an35 od36 an36 od37 an37 od38 an38:Option Addr} {sl0 sl1 sl2 sl3 sl4 sl5 sl6 sl7 sl8 sl9 sl10 sl11 sl12 sl13 sl14 sl15 sl16 sl17 sl18 sl19 sl20 sl21 sl22 sl23 sl24 sl25 sl26 sl27 sl28 sl29 sl30 sl31 sl32 sl33 sl34 sl35 sl36 sl37 sl38:Array (Option Value)} {oc0 kV0 dc0 pm0 cd0 ct0 oc1 kV1 dc1 pm1 cd1 ct1 oc2 kV2 dc2 pm2 cd2 ct2 oc3 kV3 dc3 pm3 cd3 ct3 oc4 kV4 dc4 pm4 cd4 ct4 oc5 kV5 dc5 pm5 cd5 ct5 oc6 kV6 dc6 pm6 cd6 ct6 oc7 kV7 dc7 pm7 cd7 ct7 oc8 kV8 dc8 pm8 cd8 ct8 oc9 kV9 dc9 pm9 cd9 ct9 oc10 kV10 dc10 pm10 cd10 ct10 oc11 kV11 dc11 pm11 cd11 ct11 oc12 kV12 dc12 pm12 cd12 ct12 oc13 kV13 dc13 pm13 cd13 ct13 oc14 kV14 dc14 pm14 cd14 ct14 oc15 kV15 dc15 pm15 cd15 ct15 oc16 kV16 dc16 pm16 cd16 ct16 oc17 kV17 dc17 pm17 cd17 ct17 oc18 kV18 dc18 pm18 cd18 ct18 oc19 kV19 dc19 pm19 cd19 ct19 oc20 kV20 dc20 pm20 cd20 ct20 oc21 kV21 dc21 pm21 cd21 ct21 oc22 kV22 dc22 pm22 cd22 ct22 oc23 kV23 dc23 pm23 cd23 ct23 oc24 kV24 dc24 pm24 cd24 ct24 oc25 kV25 dc25 pm25 cd25 ct25 oc26 kV26 dc26 pm26 cd26 ct26 oc27 kV27 dc27 pm27 cd27 ct27 oc28 kV28 dc28 pm28 cd28 ct28 oc29 kV29 dc29 pm29 cd29 ct29 oc30 kV30 dc30 pm30 cd30 ct30 oc31 kV31 dc31 pm31 cd31 ct31 oc32 kV32 dc32 pm32 cd32 ct32 oc33 kV33 dc33 pm33 cd33 ct33 oc34 kV34 dc34 pm34 cd34 ct34 oc35 kV35 dc35 pm35 cd35 ct35 oc36 kV36 dc36 pm36 cd36 ct36 oc37 kV37 dc37 pm37 cd37 ct37 oc38 kV38 dc38 pm38 cd38 ct38:Value}
  {aMode aThing:Addr}
  (nm_Mode:PySem.W.nsIn K mainGlobals "Mode" = some (some (.ref aMode)))
  (pg_Mode:PySem.W.plainGet K aMode Str.empty=true)
  (hd_Mode:PySem.W.hasDictIn K aMode=true)
  (po_Mode:PySem.W.plainOver K aMode=true)
  (sa_Mode:PySem.W.findIn K (.ref aMode) "__setattr__" = some (some (.builtin "object.__setattr__")))
  (mk_Mode:PySem.W.makesIn K aMode=true)
  (kc_Mode:PySem.W.keepIn K (.ref aMode)=true)
  (ha_Mode:PySem.W.findIn K (.ref aMode) "__class__" = some (some (.builtin "object.__class__")))
  (hn_Mode:PySem.W.specialIn K (.builtin "object.__class__") "__get__" = some (some (.builtin "getset_descriptor.__get__")))
  (tk_Mode:PySem.W.takesIn K (.builtin "object.__class__")=some true)
  (hm_Mode:PySem.W.mroIn K aMode (.type "object")=some true)
  (n_rows_Mode:PySem.W.findIn K (.ref aMode) "rows" = some none)
  (n_nexts_Mode:PySem.W.findIn K (.ref aMode) "nexts" = some none)
  (n_steer_Mode:PySem.W.findIn K (.ref aMode) "steer" = some none)
  (n_push_Mode:PySem.W.findIn K (.ref aMode) "push" = some none)
  (n_add_Mode:PySem.W.findIn K (.ref aMode) "add" = some none)
  (n_divisor_Mode:PySem.W.findIn K (.ref aMode) "divisor" = some none)
  (nm_Thing:PySem.W.nsIn K mainGlobals "Thing" = some (some (.ref aThing)))
  (pg_Thing:PySem.W.plainGet K aThing Str.empty=true)
  (hd_Thing:PySem.W.hasDictIn K aThing=true)
  (po_Thing:PySem.W.plainOver K aThing=true)
  (sa_Thing:PySem.W.findIn K (.ref aThing) "__setattr__" = some (some (.builtin "object.__setattr__")))
  (mk_Thing:PySem.W.makesIn K aThing=true)
  (kc_Thing:PySem.W.keepIn K (.ref aThing)=true)
  (ha_Thing:PySem.W.findIn K (.ref aThing) "__class__" = some (some (.builtin "object.__class__")))
  (hn_Thing:PySem.W.specialIn K (.builtin "object.__class__") "__get__" = some (some (.builtin "getset_descriptor.__get__")))
  (tk_Thing:PySem.W.takesIn K (.builtin "object.__class__")=some true)
  (hm_Thing:PySem.W.mroIn K aThing (.type "object")=some true)
  (n_many_Thing:PySem.W.findIn K (.ref aThing) "many" = some none)
  (n_kept_pushes_Thing:PySem.W.findIn K (.ref aThing) "kept_pushes" = some none)
  (n_kept_modes_Thing:PySem.W.findIn K (.ref aThing) "kept_modes" = some none)
  {T2:Addr} {ocT2:Value} {odT2:Option Addr} {nT2:Nat} {slT2:Array (Option Value)} {tk2:Tok}
  {T3:Addr} {ocT3:Value} {odT3:Option Addr} {nT3:Nat} {slT3:Array (Option Value)} {tk3:Tok}
  {T17:Addr} {ocT17:Value} {odT17:Option Addr} {nT17:Nat} {slT17:Array (Option Value)} {tk17:Tok}
  (a0:PySem.W.nsIn K mainGlobals "is_whole" = some (some (.ref f0))) (l0:K.lookup f0=some ⟨oc0,od0,.func (PySem.W.fnOf "is_whole" "is_whole" (defArgs s_is_whole) (defBody s_is_whole) (defScope s_is_whole) .none kV0 dc0 pm0 an0 cd0 ct0),sl0⟩) (c0:PySem.W.codeIn K cd0 "is_whole" = true) (k0:PySem.W.keepIn K (.ref f0)=true)
  (a1:PySem.W.nsIn K mainGlobals "common_divisor" = some (some (.ref f1))) (l1:K.lookup f1=some ⟨oc1,od1,.func (PySem.W.fnOf "common_divisor" "common_divisor" (defArgs s_common_divisor) (defBody s_common_divisor) (defScope s_common_divisor) .none kV1 dc1 pm1 an1 cd1 ct1),sl1⟩) (c1:PySem.W.codeIn K cd1 "common_divisor" = true) (k1:PySem.W.keepIn K (.ref f1)=true)
  (a2:PySem.W.nsIn K mainGlobals "fraction" = some (some (.ref f2))) (l2:K.lookup f2=some ⟨oc2,od2,.func (PySem.W.fnOf "fraction" "fraction" (defArgs s_fraction) (defBody s_fraction) (defScope s_fraction) (.ref T2) kV2 dc2 pm2 an2 cd2 ct2),sl2⟩) (c2:PySem.W.codeIn K cd2 "fraction" = true) (k2:PySem.W.keepIn K (.ref f2)=true)
  (t2:K.lookup T2=some ⟨ocT2,odT2,.seq #[.int 1 tk2] nT2,slT2⟩)
  (a3:PySem.W.nsIn K mainGlobals "copied" = some (some (.ref f3))) (l3:K.lookup f3=some ⟨oc3,od3,.func (PySem.W.fnOf "copied" "copied" (defArgs s_copied) (defBody s_copied) (defScope s_copied) (.ref T3) kV3 dc3 pm3 an3 cd3 ct3),sl3⟩) (c3:PySem.W.codeIn K cd3 "copied" = true) (k3:PySem.W.keepIn K (.ref f3)=true)
  (t3:K.lookup T3=some ⟨ocT3,odT3,.seq #[.int 5 tk3] nT3,slT3⟩)
  (a4:PySem.W.nsIn K mainGlobals "is_numbers" = some (some (.ref f4))) (l4:K.lookup f4=some ⟨oc4,od4,.func (PySem.W.fnOf "is_numbers" "is_numbers" (defArgs s_is_numbers) (defBody s_is_numbers) (defScope s_is_numbers) .none kV4 dc4 pm4 an4 cd4 ct4),sl4⟩) (c4:PySem.W.codeIn K cd4 "is_numbers" = true) (k4:PySem.W.keepIn K (.ref f4)=true)
  (a5:PySem.W.nsIn K mainGlobals "is_table" = some (some (.ref f5))) (l5:K.lookup f5=some ⟨oc5,od5,.func (PySem.W.fnOf "is_table" "is_table" (defArgs s_is_table) (defBody s_is_table) (defScope s_is_table) .none kV5 dc5 pm5 an5 cd5 ct5),sl5⟩) (c5:PySem.W.codeIn K cd5 "is_table" = true) (k5:PySem.W.keepIn K (.ref f5)=true)
  (a6:PySem.W.nsIn K mainGlobals "is_row" = some (some (.ref f6))) (l6:K.lookup f6=some ⟨oc6,od6,.func (PySem.W.fnOf "is_row" "is_row" (defArgs s_is_row) (defBody s_is_row) (defScope s_is_row) .none kV6 dc6 pm6 an6 cd6 ct6),sl6⟩) (c6:PySem.W.codeIn K cd6 "is_row" = true) (k6:PySem.W.keepIn K (.ref f6)=true)
  (a7:PySem.W.nsIn K mainGlobals "is_room" = some (some (.ref f7))) (l7:K.lookup f7=some ⟨oc7,od7,.func (PySem.W.fnOf "is_room" "is_room" (defArgs s_is_room) (defBody s_is_room) (defScope s_is_room) .none kV7 dc7 pm7 an7 cd7 ct7),sl7⟩) (c7:PySem.W.codeIn K cd7 "is_room" = true) (k7:PySem.W.keepIn K (.ref f7)=true)
  (a8:PySem.W.nsIn K mainGlobals "is_push" = some (some (.ref f8))) (l8:K.lookup f8=some ⟨oc8,od8,.func (PySem.W.fnOf "is_push" "is_push" (defArgs s_is_push) (defBody s_is_push) (defScope s_is_push) .none kV8 dc8 pm8 an8 cd8 ct8),sl8⟩) (c8:PySem.W.codeIn K cd8 "is_push" = true) (k8:PySem.W.keepIn K (.ref f8)=true)
  (a9:PySem.W.findIn K (.ref aMode) "__init__" = some (some (.ref f9))) (i9:PySem.W.isFn K (.ref f9)=true) (l9:K.lookup f9=some ⟨oc9,od9,.func (PySem.W.fnOf "__init__" "Mode.__init__" (defArgs s_Mode___init__) (defBody s_Mode___init__) (defScope s_Mode___init__) .none kV9 dc9 pm9 an9 cd9 ct9),sl9⟩) (c9:PySem.W.codeIn K cd9 "Mode.__init__" = true) (k9:PySem.W.keepIn K (.ref f9)=true)
  (a10:PySem.W.nsIn K mainGlobals "is_mode" = some (some (.ref f10))) (l10:K.lookup f10=some ⟨oc10,od10,.func (PySem.W.fnOf "is_mode" "is_mode" (defArgs s_is_mode) (defBody s_is_mode) (defScope s_is_mode) .none kV10 dc10 pm10 an10 cd10 ct10),sl10⟩) (c10:PySem.W.codeIn K cd10 "is_mode" = true) (k10:PySem.W.keepIn K (.ref f10)=true)
  (a11:PySem.W.nsIn K mainGlobals "is_sound" = some (some (.ref f11))) (l11:K.lookup f11=some ⟨oc11,od11,.func (PySem.W.fnOf "is_sound" "is_sound" (defArgs s_is_sound) (defBody s_is_sound) (defScope s_is_sound) .none kV11 dc11 pm11 an11 cd11 ct11),sl11⟩) (c11:PySem.W.codeIn K cd11 "is_sound" = true) (k11:PySem.W.keepIn K (.ref f11)=true)
  (a12:PySem.W.findIn K (.ref aThing) "__init__" = some (some (.ref f12))) (i12:PySem.W.isFn K (.ref f12)=true) (l12:K.lookup f12=some ⟨oc12,od12,.func (PySem.W.fnOf "__init__" "Thing.__init__" (defArgs s_Thing___init__) (defBody s_Thing___init__) (defScope s_Thing___init__) .none kV12 dc12 pm12 an12 cd12 ct12),sl12⟩) (c12:PySem.W.codeIn K cd12 "Thing.__init__" = true) (k12:PySem.W.keepIn K (.ref f12)=true)
  (a13:PySem.W.findIn K (.ref aThing) "pushes" = some (some (.ref f13))) (i13:PySem.W.isFn K (.ref f13)=true) (l13:K.lookup f13=some ⟨oc13,od13,.func (PySem.W.fnOf "pushes" "Thing.pushes" (defArgs s_Thing_pushes) (defBody s_Thing_pushes) (defScope s_Thing_pushes) .none kV13 dc13 pm13 an13 cd13 ct13),sl13⟩) (c13:PySem.W.codeIn K cd13 "Thing.pushes" = true) (k13:PySem.W.keepIn K (.ref f13)=true)
  (a14:PySem.W.findIn K (.ref aThing) "modes" = some (some (.ref f14))) (i14:PySem.W.isFn K (.ref f14)=true) (l14:K.lookup f14=some ⟨oc14,od14,.func (PySem.W.fnOf "modes" "Thing.modes" (defArgs s_Thing_modes) (defBody s_Thing_modes) (defScope s_Thing_modes) .none kV14 dc14 pm14 an14 cd14 ct14),sl14⟩) (c14:PySem.W.codeIn K cd14 "Thing.modes" = true) (k14:PySem.W.keepIn K (.ref f14)=true)
  (a15:PySem.W.nsIn K mainGlobals "raw_sum" = some (some (.ref f15))) (l15:K.lookup f15=some ⟨oc15,od15,.func (PySem.W.fnOf "raw_sum" "raw_sum" (defArgs s_raw_sum) (defBody s_raw_sum) (defScope s_raw_sum) .none kV15 dc15 pm15 an15 cd15 ct15),sl15⟩) (c15:PySem.W.codeIn K cd15 "raw_sum" = true) (k15:PySem.W.keepIn K (.ref f15)=true)
  (a16:PySem.W.nsIn K mainGlobals "divided_sum" = some (some (.ref f16))) (l16:K.lookup f16=some ⟨oc16,od16,.func (PySem.W.fnOf "divided_sum" "divided_sum" (defArgs s_divided_sum) (defBody s_divided_sum) (defScope s_divided_sum) .none kV16 dc16 pm16 an16 cd16 ct16),sl16⟩) (c16:PySem.W.codeIn K cd16 "divided_sum" = true) (k16:PySem.W.keepIn K (.ref f16)=true)
  (a17:PySem.W.nsIn K mainGlobals "unit" = some (some (.ref f17))) (l17:K.lookup f17=some ⟨oc17,od17,.func (PySem.W.fnOf "unit" "unit" (defArgs s_unit) (defBody s_unit) (defScope s_unit) (.ref T17) kV17 dc17 pm17 an17 cd17 ct17),sl17⟩) (c17:PySem.W.codeIn K cd17 "unit" = true) (k17:PySem.W.keepIn K (.ref f17)=true)
  (t17:K.lookup T17=some ⟨ocT17,odT17,.seq #[.int 1 tk17] nT17,slT17⟩)
  (a18:PySem.W.nsIn K mainGlobals "paired" = some (some (.ref f18))) (l18:K.lookup f18=some ⟨oc18,od18,.func (PySem.W.fnOf "paired" "paired" (defArgs s_paired) (defBody s_paired) (defScope s_paired) .none kV18 dc18 pm18 an18 cd18 ct18),sl18⟩) (c18:PySem.W.codeIn K cd18 "paired" = true) (k18:PySem.W.keepIn K (.ref f18)=true)
  (a19:PySem.W.nsIn K mainGlobals "added_up" = some (some (.ref f19))) (l19:K.lookup f19=some ⟨oc19,od19,.func (PySem.W.fnOf "added_up" "added_up" (defArgs s_added_up) (defBody s_added_up) (defScope s_added_up) .none kV19 dc19 pm19 an19 cd19 ct19),sl19⟩) (c19:PySem.W.codeIn K cd19 "added_up" = true) (k19:PySem.W.keepIn K (.ref f19)=true)
  (a20:PySem.W.nsIn K mainGlobals "product" = some (some (.ref f20))) (l20:K.lookup f20=some ⟨oc20,od20,.func (PySem.W.fnOf "product" "product" (defArgs s_product) (defBody s_product) (defScope s_product) .none kV20 dc20 pm20 an20 cd20 ct20),sl20⟩) (c20:PySem.W.codeIn K cd20 "product" = true) (k20:PySem.W.keepIn K (.ref f20)=true)
  (a21:PySem.W.nsIn K mainGlobals "turned_row" = some (some (.ref f21))) (l21:K.lookup f21=some ⟨oc21,od21,.func (PySem.W.fnOf "turned_row" "turned_row" (defArgs s_turned_row) (defBody s_turned_row) (defScope s_turned_row) .none kV21 dc21 pm21 an21 cd21 ct21),sl21⟩) (c21:PySem.W.codeIn K cd21 "turned_row" = true) (k21:PySem.W.keepIn K (.ref f21)=true)
  (a22:PySem.W.nsIn K mainGlobals "turned_mode" = some (some (.ref f22))) (l22:K.lookup f22=some ⟨oc22,od22,.func (PySem.W.fnOf "turned_mode" "turned_mode" (defArgs s_turned_mode) (defBody s_turned_mode) (defScope s_turned_mode) .none kV22 dc22 pm22 an22 cd22 ct22),sl22⟩) (c22:PySem.W.codeIn K cd22 "turned_mode" = true) (k22:PySem.W.keepIn K (.ref f22)=true)
  (a23:PySem.W.nsIn K mainGlobals "is_turn" = some (some (.ref f23))) (l23:K.lookup f23=some ⟨oc23,od23,.func (PySem.W.fnOf "is_turn" "is_turn" (defArgs s_is_turn) (defBody s_is_turn) (defScope s_is_turn) .none kV23 dc23 pm23 an23 cd23 ct23),sl23⟩) (c23:PySem.W.codeIn K cd23 "is_turn" = true) (k23:PySem.W.keepIn K (.ref f23)=true)
  (a24:PySem.W.nsIn K mainGlobals "turned" = some (some (.ref f24))) (l24:K.lookup f24=some ⟨oc24,od24,.func (PySem.W.fnOf "turned" "turned" (defArgs s_turned) (defBody s_turned) (defScope s_turned) .none kV24 dc24 pm24 an24 cd24 ct24),sl24⟩) (c24:PySem.W.codeIn K cd24 "turned" = true) (k24:PySem.W.keepIn K (.ref f24)=true)
  (a25:PySem.W.nsIn K mainGlobals "turned_point" = some (some (.ref f25))) (l25:K.lookup f25=some ⟨oc25,od25,.func (PySem.W.fnOf "turned_point" "turned_point" (defArgs s_turned_point) (defBody s_turned_point) (defScope s_turned_point) .none kV25 dc25 pm25 an25 cd25 ct25),sl25⟩) (c25:PySem.W.codeIn K cd25 "turned_point" = true) (k25:PySem.W.keepIn K (.ref f25)=true)
  (a26:PySem.W.nsIn K mainGlobals "along" = some (some (.ref f26))) (l26:K.lookup f26=some ⟨oc26,od26,.func (PySem.W.fnOf "along" "along" (defArgs s_along) (defBody s_along) (defScope s_along) .none kV26 dc26 pm26 an26 cd26 ct26),sl26⟩) (c26:PySem.W.codeIn K cd26 "along" = true) (k26:PySem.W.keepIn K (.ref f26)=true)
  (a27:PySem.W.nsIn K mainGlobals "_law_cell_at" = some (some (.ref f27))) (l27:K.lookup f27=some ⟨oc27,od27,.func (PySem.W.fnOf "_law_cell_at" "_law_cell_at" (defArgs s_l_cell_at) (defBody s_l_cell_at) (defScope s_l_cell_at) .none kV27 dc27 pm27 an27 cd27 ct27),sl27⟩) (c27:PySem.W.codeIn K cd27 "_law_cell_at" = true) (k27:PySem.W.keepIn K (.ref f27)=true)
  (a28:PySem.W.nsIn K mainGlobals "_law_stream" = some (some (.ref f28))) (l28:K.lookup f28=some ⟨oc28,od28,.func (PySem.W.fnOf "_law_stream" "_law_stream" (defArgs s_l_stream) (defBody s_l_stream) (defScope s_l_stream) .none kV28 dc28 pm28 an28 cd28 ct28),sl28⟩) (c28:PySem.W.codeIn K cd28 "_law_stream" = true) (k28:PySem.W.keepIn K (.ref f28)=true)
  (a29:PySem.W.nsIn K mainGlobals "_law_number" = some (some (.ref f29))) (l29:K.lookup f29=some ⟨oc29,od29,.func (PySem.W.fnOf "_law_number" "_law_number" (defArgs s_l_number) (defBody s_l_number) (defScope s_l_number) .none kV29 dc29 pm29 an29 cd29 ct29),sl29⟩) (c29:PySem.W.codeIn K cd29 "_law_number" = true) (k29:PySem.W.keepIn K (.ref f29)=true)
  (a30:PySem.W.nsIn K mainGlobals "_law_parts" = some (some (.ref f30))) (l30:K.lookup f30=some ⟨oc30,od30,.func (PySem.W.fnOf "_law_parts" "_law_parts" (defArgs s_l_parts) (defBody s_l_parts) (defScope s_l_parts) .none kV30 dc30 pm30 an30 cd30 ct30),sl30⟩) (c30:PySem.W.codeIn K cd30 "_law_parts" = true) (k30:PySem.W.keepIn K (.ref f30)=true)
  (a31:PySem.W.nsIn K mainGlobals "_law_product" = some (some (.ref f31))) (l31:K.lookup f31=some ⟨oc31,od31,.func (PySem.W.fnOf "_law_product" "_law_product" (defArgs s_l_product) (defBody s_l_product) (defScope s_l_product) .none kV31 dc31 pm31 an31 cd31 ct31),sl31⟩) (c31:PySem.W.codeIn K cd31 "_law_product" = true) (k31:PySem.W.keepIn K (.ref f31)=true)
  (a32:PySem.W.nsIn K mainGlobals "_law_row" = some (some (.ref f32))) (l32:K.lookup f32=some ⟨oc32,od32,.func (PySem.W.fnOf "_law_row" "_law_row" (defArgs s_l_row) (defBody s_l_row) (defScope s_l_row) .none kV32 dc32 pm32 an32 cd32 ct32),sl32⟩) (c32:PySem.W.codeIn K cd32 "_law_row" = true) (k32:PySem.W.keepIn K (.ref f32)=true)
  (a33:PySem.W.nsIn K mainGlobals "_law_turned" = some (some (.ref f33))) (l33:K.lookup f33=some ⟨oc33,od33,.func (PySem.W.fnOf "_law_turned" "_law_turned" (defArgs s_l_turned) (defBody s_l_turned) (defScope s_l_turned) .none kV33 dc33 pm33 an33 cd33 ct33),sl33⟩) (c33:PySem.W.codeIn K cd33 "_law_turned" = true) (k33:PySem.W.keepIn K (.ref f33)=true)
  (a34:PySem.W.nsIn K mainGlobals "_law_told" = some (some (.ref f34))) (l34:K.lookup f34=some ⟨oc34,od34,.func (PySem.W.fnOf "_law_told" "_law_told" (defArgs s_l_told) (defBody s_l_told) (defScope s_l_told) .none kV34 dc34 pm34 an34 cd34 ct34),sl34⟩) (c34:PySem.W.codeIn K cd34 "_law_told" = true) (k34:PySem.W.keepIn K (.ref f34)=true)
  (a35:PySem.W.nsIn K mainGlobals "_law_tables" = some (some (.ref f35))) (l35:K.lookup f35=some ⟨oc35,od35,.func (PySem.W.fnOf "_law_tables" "_law_tables" (defArgs s_l_tables) (defBody s_l_tables) (defScope s_l_tables) .none kV35 dc35 pm35 an35 cd35 ct35),sl35⟩) (c35:PySem.W.codeIn K cd35 "_law_tables" = true) (k35:PySem.W.keepIn K (.ref f35)=true)
  (a36:PySem.W.nsIn K mainGlobals "_law_no_tables" = some (some (.ref f36))) (l36:K.lookup f36=some ⟨oc36,od36,.func (PySem.W.fnOf "_law_no_tables" "_law_no_tables" (defArgs s_l_no_tables) (defBody s_l_no_tables) (defScope s_l_no_tables) .none kV36 dc36 pm36 an36 cd36 ct36),sl36⟩) (c36:PySem.W.codeIn K cd36 "_law_no_tables" = true) (k36:PySem.W.keepIn K (.ref f36)=true)
  (a37:PySem.W.nsIn K mainGlobals "_law_refused" = some (some (.ref f37))) (l37:K.lookup f37=some ⟨oc37,od37,.func (PySem.W.fnOf "_law_refused" "_law_refused" (defArgs s_l_refused) (defBody s_l_refused) (defScope s_l_refused) .none kV37 dc37 pm37 an37 cd37 ct37),sl37⟩) (c37:PySem.W.codeIn K cd37 "_law_refused" = true) (k37:PySem.W.keepIn K (.ref f37)=true)
  (a38:PySem.W.nsIn K mainGlobals "law" = some (some (.ref f38))) (l38:K.lookup f38=some ⟨oc38,od38,.func (PySem.W.fnOf "law" "law" (defArgs s_law) (defBody s_law) (defScope s_law) .none kV38 dc38 pm38 an38 cd38 ct38),sl38⟩) (c38:PySem.W.codeIn K cd38 "law" = true) (k38:PySem.W.keepIn K (.ref f38)=true)
  {C cS cR cB cM:Addr} (aC:PySem.W.nsIn K mainGlobals "BadTurn" = some (some (.ref C)))
  (aS:PySem.W.nsIn K mainGlobals "SteadyError" = some (some (.ref cS)))
  (aR:PySem.W.nsIn K mainGlobals "BadRule" = some (some (.ref cR)))
  (aB:PySem.W.nsIn K mainGlobals "BadThing" = some (some (.ref cB)))
  (aM:PySem.W.nsIn K mainGlobals "TooMany" = some (some (.ref cM)))
  (xC:PySem.W.excIn K C [.type "ValueError",.type "Exception",.type "BaseException",.type "object"] "ValueError.__new__" = true) (vC:PySem.W.kitOne K (.ref C) (.type "ValueError")=some true)
  (eC:PySem.W.exmOne K (.ref C) (.ref cS)=some true)
  (kt_R:PySem.W.kitOne K (.ref C) (.ref cR)=some false)
  (kt_B:PySem.W.kitOne K (.ref C) (.ref cB)=some false)
  (kt_M:PySem.W.kitOne K (.ref C) (.ref cM)=some false)
  (gaC:PySem.W.findIn K (.ref C) "__getattribute__" = some (some (.builtin "BaseException.__getattribute__")))
  (gtC:PySem.W.findIn K (.ref C) "__getattr__" = some none)
  (haC:PySem.W.findIn K (.ref C) "__class__" = some (some (.builtin "object.__class__")))
  (hnC:PySem.W.specialIn K (.builtin "object.__class__") "__get__" = some (some (.builtin "getset_descriptor.__get__")))
  (tkC:PySem.W.takesIn K (.builtin "object.__class__")=some true)
  (mbC:PySem.W.mroIn K C (.type "BaseException")=some true)
  (moC:PySem.W.mroIn K C (.type "object")=some true)
  (z0:PySem.W.nsIn K mainGlobals "isinstance" = some none)
  (z1:PySem.W.nsIn K mainGlobals "int" = some none)
  (z2:PySem.W.nsIn K mainGlobals "bool" = some none)
  (z3:PySem.W.nsIn K mainGlobals "tuple" = some none)
  (z4:PySem.W.nsIn K mainGlobals "len" = some none)
  (z5:PySem.W.nsIn K mainGlobals "all" = some none)
  (z6:PySem.W.nsIn K mainGlobals "list" = some none)
  (z7:PySem.W.nsIn K mainGlobals "range" = some none)
  (z8:PySem.W.nsIn K mainGlobals "zip" = some none)
  (z9:PySem.W.nsIn K mainGlobals "sum" = some none)
  (z10:PySem.W.nsIn K mainGlobals "abs" = some none)
  (z11:PySem.W.nsIn K mainGlobals "ValueError" = some none)
  {gt0:Tok} (cst0:PySem.W.nsIn K mainGlobals "MOST_NUMBERS" = some (some (.int 3 gt0)))
  {gt1:Tok} (cst1:PySem.W.nsIn K mainGlobals "MOST_PUSHES" = some (some (.int 6 gt1)))
  {gt2:Tok} (cst2:PySem.W.nsIn K mainGlobals "MOST_MODES" = some (some (.int 40 gt2)))
  : ∃ fd:FuncData,(∀ (s:Shared) (v:Value),BindsTo s fd ⟨[v],[]⟩ [("_law_script",v)])/\∀ base:Heap,K.In base->base.Ns mainGlobals mg->FnOk l.prog w K mg base CX0 10 fa fd ["_law_script"] (spLaw K):=by
 have e:=hfa.symm.trans (PySem.W.mg_of X G a38)
 cases e
 have B:Bl mg:=⟨PySem.W.mg_none_of X G z0,PySem.W.mg_none_of X G z1,PySem.W.mg_none_of X G z2,PySem.W.mg_none_of X G z3,PySem.W.mg_none_of X G z4,PySem.W.mg_none_of X G z5,PySem.W.mg_none_of X G z6,PySem.W.mg_none_of X G z7,PySem.W.mg_none_of X G z8,PySem.W.mg_none_of X G z9,PySem.W.mg_none_of X G z10,PySem.W.mg_none_of X G z11,⟨_,PySem.W.mg_of X G cst0⟩,⟨_,PySem.W.mg_of X G cst1⟩,⟨_,PySem.W.mg_of X G cst2⟩⟩
 have TMode:ClsF K mg "Mode" aMode:=⟨⟨pg_Mode,hd_Mode,po_Mode,sa_Mode⟩,PySem.W.mg_of X G nm_Mode,ha_Mode,hn_Mode,tk_Mode,hm_Mode⟩
 have AMode:AtMode K aMode:=⟨n_rows_Mode,n_nexts_Mode,n_steer_Mode,n_push_Mode,n_add_Mode,n_divisor_Mode⟩
 have TThing:ClsF K mg "Thing" aThing:=⟨⟨pg_Thing,hd_Thing,po_Thing,sa_Thing⟩,PySem.W.mg_of X G nm_Thing,ha_Thing,hn_Thing,tk_Thing,hm_Thing⟩
 have AThing:AtThing K aThing:=⟨n_many_Thing,n_kept_pushes_Thing,n_kept_modes_Thing⟩
 have Z:Er K mg C:=⟨⟨cS,cR,cB,cM,⟨PySem.W.mg_of X G aC,xC,vC,PySem.W.mg_of X G aS,PySem.W.mg_of X G aR,PySem.W.mg_of X G aB,PySem.W.mg_of X G aM,eC,kt_R,kt_B,kt_M,⟨gaC,gtC,haC,hnC,tkC,mbC,moC⟩⟩⟩⟩
 have F0:=fun_mk (st:=s_is_whole) l0 c0 k0
 have b0:=F0.binds (ps:=["thing"]) fun _ _ _ _ _ _ us hl=>by revert us; exact L2.arity1 (fun _=>rfl)
 have F1:=fun_mk (st:=s_common_divisor) l1 c1 k1
 have b1:=F1.binds (ps:=["numbers"]) fun _ _ _ _ _ _ us hl=>by revert us; exact L2.arity1 (fun _=>rfl)
 have F2:=fund_mk (st:=s_fraction) l2 c2 k2 t2 rfl
 have b2:=F2.binds (ps:=["top","bottom"]) fun _ _ _ _ _ _ _ us hl=>by revert us; exact L2.arity2 (fun _ _=>⟨_,rfl,rfl⟩)
 have bd2:=F2.binds1 (ps:=["top","bottom"]) fun _ _ _ _ _ _ _ us hl=>match us,hl with | [_],_=>⟨_,rfl,rfl⟩
 have F3:=fund_mk (st:=s_copied) l3 c3 k3 t3 rfl
 have b3:=F3.binds (ps:=["value","depth"]) fun _ _ _ _ _ _ _ us hl=>by revert us; exact L2.arity2 (fun _ _=>⟨_,rfl,rfl⟩)
 have bd3:=F3.binds1 (ps:=["value","depth"]) fun _ _ _ _ _ _ _ us hl=>match us,hl with | [_],_=>⟨_,rfl,rfl⟩
 have F4:=fun_mk (st:=s_is_numbers) l4 c4 k4
 have b4:=F4.binds (ps:=["value","count"]) fun _ _ _ _ _ _ us hl=>by revert us; exact L2.arity2 (fun _ _=>rfl)
 have F5:=fun_mk (st:=s_is_table) l5 c5 k5
 have b5:=F5.binds (ps:=["value","tall","wide"]) fun _ _ _ _ _ _ us hl=>by revert us; exact L2.arity3 (fun _ _ _=>rfl)
 have F6:=fun_mk (st:=s_is_row) l6 c6 k6
 have b6:=F6.binds (ps:=["value","many"]) fun _ _ _ _ _ _ us hl=>by revert us; exact L2.arity2 (fun _ _=>rfl)
 have F7:=fun_mk (st:=s_is_room) l7 c7 k7
 have b7:=F7.binds (ps:=["value","many"]) fun _ _ _ _ _ _ us hl=>by revert us; exact L2.arity2 (fun _ _=>rfl)
 have F8:=fun_mk (st:=s_is_push) l8 c8 k8
 have b8:=F8.binds (ps:=["value"]) fun _ _ _ _ _ _ us hl=>by revert us; exact L2.arity1 (fun _=>rfl)
 have F9:=fun_mk (st:=s_Mode___init__) l9 c9 k9
 have b9:=F9.binds (ps:=["self","rows","nexts","steer","push","add","divisor"]) fun _ _ _ _ _ _ us hl=>by revert us; exact L2.arity7 (fun _ _ _ _ _ _ _=>rfl)
 have F10:=fun_mk (st:=s_is_mode) l10 c10 k10
 have b10:=F10.binds (ps:=["value","many","wide"]) fun _ _ _ _ _ _ us hl=>by revert us; exact L2.arity3 (fun _ _ _=>rfl)
 have F11:=fun_mk (st:=s_is_sound) l11 c11 k11
 have b11:=F11.binds (ps:=["many","pushes","modes"]) fun _ _ _ _ _ _ us hl=>by revert us; exact L2.arity3 (fun _ _ _=>rfl)
 have F12:=fun_mk (st:=s_Thing___init__) l12 c12 k12
 have b12:=F12.binds (ps:=["self","many","pushes","modes"]) fun _ _ _ _ _ _ us hl=>by revert us; exact L2.arity4 (fun _ _ _ _=>rfl)
 have F13:=fun_mk (st:=s_Thing_pushes) l13 c13 k13
 have b13:=F13.binds (ps:=["self"]) fun _ _ _ _ _ _ us hl=>by revert us; exact L2.arity1 (fun _=>rfl)
 have F14:=fun_mk (st:=s_Thing_modes) l14 c14 k14
 have b14:=F14.binds (ps:=["self"]) fun _ _ _ _ _ _ us hl=>by revert us; exact L2.arity1 (fun _=>rfl)
 have F15:=fun_mk (st:=s_raw_sum) l15 c15 k15
 have b15:=F15.binds (ps:=["numbers","point"]) fun _ _ _ _ _ _ us hl=>by revert us; exact L2.arity2 (fun _ _=>rfl)
 have F16:=fun_mk (st:=s_divided_sum) l16 c16 k16
 have b16:=F16.binds (ps:=["numbers","point","add","divisor"]) fun _ _ _ _ _ _ us hl=>by revert us; exact L2.arity4 (fun _ _ _ _=>rfl)
 have F17:=fund_mk (st:=s_unit) l17 c17 k17 t17 rfl
 have b17:=F17.binds (ps:=["place","wide","number"]) fun _ _ _ _ _ _ _ us hl=>by revert us; exact L2.arity3 (fun _ _ _=>⟨_,rfl,rfl⟩)
 have bd17:=F17.binds1 (ps:=["place","wide","number"]) fun _ _ _ _ _ _ _ us hl=>match us,hl with | [_,_],_=>⟨_,rfl,rfl⟩
 have F18:=fun_mk (st:=s_paired) l18 c18 k18
 have b18:=F18.binds (ps:=["numbers","others"]) fun _ _ _ _ _ _ us hl=>by revert us; exact L2.arity2 (fun _ _=>rfl)
 have F19:=fun_mk (st:=s_added_up) l19 c19 k19
 have b19:=F19.binds (ps:=["numbers","lists","wide"]) fun _ _ _ _ _ _ us hl=>by revert us; exact L2.arity3 (fun _ _ _=>rfl)
 have F20:=fun_mk (st:=s_product) l20 c20 k20
 have b20:=F20.binds (ps:=["table","other","wide"]) fun _ _ _ _ _ _ us hl=>by revert us; exact L2.arity3 (fun _ _ _=>rfl)
 have F21:=fun_mk (st:=s_turned_row) l21 c21 k21
 have b21:=F21.binds (ps:=["back","row"]) fun _ _ _ _ _ _ us hl=>by revert us; exact L2.arity2 (fun _ _=>rfl)
 have F22:=fun_mk (st:=s_turned_mode) l22 c22 k22
 have b22:=F22.binds (ps:=["mode","there","back","wide"]) fun _ _ _ _ _ _ us hl=>by revert us; exact L2.arity4 (fun _ _ _ _=>rfl)
 have F23:=fun_mk (st:=s_is_turn) l23 c23 k23
 have b23:=F23.binds (ps:=["there","back","many"]) fun _ _ _ _ _ _ us hl=>by revert us; exact L2.arity3 (fun _ _ _=>rfl)
 have F24:=fun_mk (st:=s_turned) l24 c24 k24
 have b24:=F24.binds (ps:=["thing","there","back"]) fun _ _ _ _ _ _ us hl=>by revert us; exact L2.arity3 (fun _ _ _=>rfl)
 have F25:=fun_mk (st:=s_turned_point) l25 c25 k25
 have b25:=F25.binds (ps:=["there","point"]) fun _ _ _ _ _ _ us hl=>by revert us; exact L2.arity2 (fun _ _=>rfl)
 have F26:=fun_mk (st:=s_along) l26 c26 k26
 have b26:=F26.binds (ps:=["row","point"]) fun _ _ _ _ _ _ us hl=>by revert us; exact L2.arity2 (fun _ _=>rfl)
 have F27:=fun_mk (st:=s_l_cell_at) l27 c27 k27
 have b27:=F27.binds (ps:=["_law_script","_law_k"]) fun _ _ _ _ _ _ us hl=>by revert us; exact L2.arity2 (fun _ _=>rfl)
 have F28:=fun_mk (st:=s_l_stream) l28 c28 k28
 have b28:=F28.binds (ps:=["_law_cell","_law_many"]) fun _ _ _ _ _ _ us hl=>by revert us; exact L2.arity2 (fun _ _=>rfl)
 have F29:=fun_mk (st:=s_l_number) l29 c29 k29
 have b29:=F29.binds (ps:=["_law_number_here"]) fun _ _ _ _ _ _ us hl=>by revert us; exact L2.arity1 (fun _=>rfl)
 have F30:=fun_mk (st:=s_l_parts) l30 c30 k30
 have b30:=F30.binds (ps:=["_law_cell","_law_many","_law_wide"]) fun _ _ _ _ _ _ us hl=>by revert us; exact L2.arity3 (fun _ _ _=>rfl)
 have F31:=fun_mk (st:=s_l_product) l31 c31 k31
 have b31:=F31.binds (ps:=["_law_one","_law_other","_law_wide"]) fun _ _ _ _ _ _ us hl=>by revert us; exact L2.arity3 (fun _ _ _=>rfl)
 have F32:=fun_mk (st:=s_l_row) l32 c32 k32
 have b32:=F32.binds (ps:=["_law_row_here","_law_back"]) fun _ _ _ _ _ _ us hl=>by revert us; exact L2.arity2 (fun _ _=>rfl)
 have F33:=fun_mk (st:=s_l_turned) l33 c33 k33
 have b33:=F33.binds (ps:=["_law_parts_here","_law_there","_law_back","_law_wide"]) fun _ _ _ _ _ _ us hl=>by revert us; exact L2.arity4 (fun _ _ _ _=>rfl)
 have F34:=fun_mk (st:=s_l_told) l34 c34 k34
 have b34:=F34.binds (ps:=["_law_thing"]) fun _ _ _ _ _ _ us hl=>by revert us; exact L2.arity1 (fun _=>rfl)
 have F35:=fun_mk (st:=s_l_tables) l35 c35 k35
 have b35:=F35.binds (ps:=["_law_cells","_law_many"]) fun _ _ _ _ _ _ us hl=>by revert us; exact L2.arity2 (fun _ _=>rfl)
 have F36:=fun_mk (st:=s_l_no_tables) l36 c36 k36
 have b36:=F36.binds (ps:=["_law_there","_law_back","_law_cell"]) fun _ _ _ _ _ _ us hl=>by revert us; exact L2.arity3 (fun _ _ _=>rfl)
 have F37:=fun_mk (st:=s_l_refused) l37 c37 k37
 have b37:=F37.binds (ps:=["_law_thing","_law_there","_law_back"]) fun _ _ _ _ _ _ us hl=>by revert us; exact L2.arity3 (fun _ _ _=>rfl)
 have F38:=fun_mk (st:=s_law) l38 c38 k38
 have b38:=F38.binds (ps:=["_law_script"]) fun _ _ _ _ _ _ us hl=>by revert us; exact L2.arity1 (fun _=>rfl)
 refine ⟨PySem.W.fnOf "law" "law" (defArgs s_law) (defBody s_law) (defScope s_law) .none kV38 dc38 pm38 an38 cd38 ct38,fun s v=>.of_eq rfl,fun base _ _=>?_⟩
 have N0:Fn l.prog w K mg base "is_whole" ["thing"] 1 spWholeD:=⟨_,_,ok_is_whole (k:=0) TMode AMode TThing AThing F0 B ,PySem.W.mg_of X G a0,k0,b0⟩
 have N1:Fn l.prog w K mg base "common_divisor" ["numbers"] 1 (spCommon K):=⟨_,_,ok_common_divisor (k:=0) TMode AMode TThing AThing F1 B ,PySem.W.mg_of X G a1,k1,b1⟩
 have N2:FnD l.prog w K mg base "fraction" ["top","bottom"] 2 spFraction (.int 1):=⟨_,_,_,ok_fraction (k:=1) TMode AMode TThing AThing F2 B (N0.mono (by decide)) (N1.mono (by decide)),PySem.W.mg_of X G a2,k2,b2,bd2,⟨_,rfl⟩⟩
 have N3_n:FnD l.prog w K mg base "copied" ["value","depth"] 0 spNone (.int 5):=⟨_,_,_,FnOk.none,PySem.W.mg_of X G a3,k3,b3,bd3,⟨_,rfl⟩⟩
 have N3_0:FnD l.prog w K mg base "copied" ["value","depth"] 1 spC0 (.int 5):=⟨_,_,_,ok_copied_0 (k:=0) TMode AMode TThing AThing F3 B N3_n,PySem.W.mg_of X G a3,k3,b3,bd3,⟨_,rfl⟩⟩
 have N3_1:FnD l.prog w K mg base "copied" ["value","depth"] 2 spC1 (.int 5):=⟨_,_,_,ok_copied_1 (k:=1) TMode AMode TThing AThing F3 B N3_0,PySem.W.mg_of X G a3,k3,b3,bd3,⟨_,rfl⟩⟩
 have N3_2:FnD l.prog w K mg base "copied" ["value","depth"] 3 spC2 (.int 5):=⟨_,_,_,ok_copied_2 (k:=2) TMode AMode TThing AThing F3 B N3_1,PySem.W.mg_of X G a3,k3,b3,bd3,⟨_,rfl⟩⟩
 have N3:=N3_2
 have N4:Fn l.prog w K mg base "is_numbers" ["value","count"] 2 spNumsD:=⟨_,_,ok_is_numbers (k:=1) TMode AMode TThing AThing F4 B (N0.mono (by decide)),PySem.W.mg_of X G a4,k4,b4⟩
 have N5:Fn l.prog w K mg base "is_table" ["value","tall","wide"] 3 spTabD:=⟨_,_,ok_is_table (k:=2) TMode AMode TThing AThing F5 B (N4.mono (by decide)),PySem.W.mg_of X G a5,k5,b5⟩
 have N6:Fn l.prog w K mg base "is_row" ["value","many"] 2 spIsRow:=⟨_,_,ok_is_row (k:=1) TMode AMode TThing AThing F6 B (N0.mono (by decide)),PySem.W.mg_of X G a6,k6,b6⟩
 have N7:Fn l.prog w K mg base "is_room" ["value","many"] 3 spIsRoom:=⟨_,_,ok_is_room (k:=2) TMode AMode TThing AThing F7 B (N6.mono (by decide)),PySem.W.mg_of X G a7,k7,b7⟩
 have N8:Fn l.prog w K mg base "is_push" ["value"] 2 spIsPush:=⟨_,_,ok_is_push (k:=1) TMode AMode TThing AThing F8 B (N0.mono (by decide)),PySem.W.mg_of X G a8,k8,b8⟩
 have N9:FnC l.prog w K mg base aMode ["self","rows","nexts","steer","push","add","divisor"] 4 (spModeInit aMode):=⟨_,_,ok_Mode___init__ (k:=3) TMode AMode TThing AThing F9 B (N3.mono (by decide)),⟨mk_Mode,a9,i9,kc_Mode⟩,b9⟩
 have N10:Fn l.prog w K mg base "is_mode" ["value","many","wide"] 4 (spIsMode aMode):=⟨_,_,ok_is_mode (k:=3) TMode AMode TThing AThing F10 B (N7.mono (by decide)) (N5.mono (by decide)) (N4.mono (by decide)) (N0.mono (by decide)),PySem.W.mg_of X G a10,k10,b10⟩
 have N11:Fn l.prog w K mg base "is_sound" ["many","pushes","modes"] 5 (spIsSound aMode):=⟨_,_,ok_is_sound (k:=4) TMode AMode TThing AThing F11 B (N0.mono (by decide)) (N8.mono (by decide)) (N10.mono (by decide)),PySem.W.mg_of X G a11,k11,b11⟩
 have N12:FnC l.prog w K mg base aThing ["self","many","pushes","modes"] 6 (spThingInit aThing aMode):=⟨_,_,ok_Thing___init__ (k:=5) TMode AMode TThing AThing F12 B (N11.mono (by decide)),⟨mk_Thing,a12,i12,kc_Thing⟩,b12⟩
 have N13:FnM l.prog w K mg base aThing "pushes" ["self"] 1 (spPushes aThing aMode):=⟨_,_,ok_Thing_pushes (k:=0) TMode AMode TThing AThing F13 B ,⟨a13,i13,k13⟩,b13⟩
 have N14:FnM l.prog w K mg base aThing "modes" ["self"] 1 (spModes aThing aMode):=⟨_,_,ok_Thing_modes (k:=0) TMode AMode TThing AThing F14 B ,⟨a14,i14,k14⟩,b14⟩
 have N15:Fn l.prog w K mg base "raw_sum" ["numbers","point"] 1 (spRawE K):=⟨_,_,ok_raw_sum (k:=0) TMode AMode TThing AThing F15 B ,PySem.W.mg_of X G a15,k15,b15⟩
 have N16:Fn l.prog w K mg base "divided_sum" ["numbers","point","add","divisor"] 3 (spDivided K):=⟨_,_,ok_divided_sum (k:=2) TMode AMode TThing AThing F16 B (N15.mono (by decide)) (N2.mono (by decide)),PySem.W.mg_of X G a16,k16,b16⟩
 have N17:FnD l.prog w K mg base "unit" ["place","wide","number"] 1 spUnit (.int 1):=⟨_,_,_,ok_unit (k:=0) TMode AMode TThing AThing F17 B ,PySem.W.mg_of X G a17,k17,b17,bd17,⟨_,rfl⟩⟩
 have N18:Fn l.prog w K mg base "paired" ["numbers","others"] 1 (spDot K):=⟨_,_,ok_paired (k:=0) TMode AMode TThing AThing F18 B ,PySem.W.mg_of X G a18,k18,b18⟩
 have N19:Fn l.prog w K mg base "added_up" ["numbers","lists","wide"] 1 (spAddL K):=⟨_,_,ok_added_up (k:=0) TMode AMode TThing AThing F19 B ,PySem.W.mg_of X G a19,k19,b19⟩
 have N20:Fn l.prog w K mg base "product" ["table","other","wide"] 2 spProduct:=⟨_,_,ok_product (k:=1) TMode AMode TThing AThing F20 B (N19.mono (by decide)),PySem.W.mg_of X G a20,k20,b20⟩
 have N21:Fn l.prog w K mg base "turned_row" ["back","row"] 2 spTurnedRow:=⟨_,_,ok_turned_row (k:=1) TMode AMode TThing AThing F21 B (N19.mono (by decide)),PySem.W.mg_of X G a21,k21,b21⟩
 have N22:Fn l.prog w K mg base "turned_mode" ["mode","there","back","wide"] 6 (spTurnedMode aMode):=⟨_,_,ok_turned_mode (k:=4) TMode AMode TThing AThing F22 B (N9.mono (by decide)) (N18.mono (by decide)) (N20.mono (by decide)) (N21.mono (by decide)),PySem.W.mg_of X G a22,k22,b22⟩
 have N23:Fn l.prog w K mg base "is_turn" ["there","back","many"] 4 spIsTurn:=⟨_,_,ok_is_turn (k:=3) TMode AMode TThing AThing F23 B (N5.mono (by decide)) (N20.mono (by decide)) (N17.mono (by decide)),PySem.W.mg_of X G a23,k23,b23⟩
 have N24:Fn l.prog w K mg base "turned" ["thing","there","back"] 8 (spTurned aThing aMode):=⟨_,_,ok_turned (k:=6) TMode AMode TThing AThing F24 B (N23.mono (by decide)) (N14.mono (by decide)) (N22.mono (by decide)) (N13.mono (by decide)) (N12.mono (by decide)),PySem.W.mg_of X G a24,k24,b24⟩
 have NX24:FnX l.prog w K mg base "turned" ["thing","there","back"] 8 (spBadTurn aThing aMode C):=⟨_,_,okx_turned (k:=7) TMode AMode TThing AThing F24 B Z (N23.mono (by decide)),PySem.W.mg_of X G a24,k24,b24⟩
 have N25:Fn l.prog w K mg base "turned_point" ["there","point"] 4 (spTurnedPoint K):=⟨_,_,ok_turned_point (k:=3) TMode AMode TThing AThing F25 B (N16.mono (by decide)),PySem.W.mg_of X G a25,k25,b25⟩
 have N26:Fn l.prog w K mg base "along" ["row","point"] 3 (spAlong K):=⟨_,_,ok_along (k:=2) TMode AMode TThing AThing F26 B (N15.mono (by decide)) (N2.mono (by decide)),PySem.W.mg_of X G a26,k26,b26⟩
 have N27:Fn l.prog w K mg base "_law_cell_at" ["_law_script","_law_k"] 1 (spCell K):=⟨_,_,ok_l_cell_at (k:=0) TMode AMode TThing AThing F27 B ,PySem.W.mg_of X G a27,k27,b27⟩
 have N28:Fn l.prog w K mg base "_law_stream" ["_law_cell","_law_many"] 1 spStream:=⟨_,_,ok_l_stream (k:=0) TMode AMode TThing AThing F28 B ,PySem.W.mg_of X G a28,k28,b28⟩
 have N29:Fn l.prog w K mg base "_law_number" ["_law_number_here"] 1 spNum21:=⟨_,_,ok_l_number (k:=0) TMode AMode TThing AThing F29 B ,PySem.W.mg_of X G a29,k29,b29⟩
 have N30:Fn l.prog w K mg base "_law_parts" ["_law_cell","_law_many","_law_wide"] 2 spParts:=⟨_,_,ok_l_parts (k:=1) TMode AMode TThing AThing F30 B (N28.mono (by decide)) (N29.mono (by decide)),PySem.W.mg_of X G a30,k30,b30⟩
 have N31:Fn l.prog w K mg base "_law_product" ["_law_one","_law_other","_law_wide"] 1 spProdL:=⟨_,_,ok_l_product (k:=0) TMode AMode TThing AThing F31 B ,PySem.W.mg_of X G a31,k31,b31⟩
 have N32:Fn l.prog w K mg base "_law_row" ["_law_row_here","_law_back"] 1 spTurnedRowL:=⟨_,_,ok_l_row (k:=0) TMode AMode TThing AThing F32 B ,PySem.W.mg_of X G a32,k32,b32⟩
 have N33:Fn l.prog w K mg base "_law_turned" ["_law_parts_here","_law_there","_law_back","_law_wide"] 2 spTurnedL:=⟨_,_,ok_l_turned (k:=1) TMode AMode TThing AThing F33 B (N31.mono (by decide)) (N32.mono (by decide)),PySem.W.mg_of X G a33,k33,b33⟩
 have N34:Fn l.prog w K mg base "_law_told" ["_law_thing"] 2 (spTold32 aThing aMode):=⟨_,_,ok_l_told (k:=1) TMode AMode TThing AThing F34 B (N14.mono (by decide)),PySem.W.mg_of X G a34,k34,b34⟩
 have N35:Fn l.prog w K mg base "_law_tables" ["_law_cells","_law_many"] 1 spTables:=⟨_,_,ok_l_tables (k:=0) TMode AMode TThing AThing F35 B ,PySem.W.mg_of X G a35,k35,b35⟩
 have N36:Fn l.prog w K mg base "_law_no_tables" ["_law_there","_law_back","_law_cell"] 1 spNoTables:=⟨_,_,ok_l_no_tables (k:=0) TMode AMode TThing AThing F36 B ,PySem.W.mg_of X G a36,k36,b36⟩
 have N37:Fn l.prog w K mg base "_law_refused" ["_law_thing","_law_there","_law_back"] 9 (spRefusedL aThing aMode):=⟨_,_,ok_l_refused (k:=8) TMode AMode TThing AThing F37 B Z (NX24.mono (by decide)),PySem.W.mg_of X G a37,k37,b37⟩
 exact ok_law (k:=8) TMode AMode TThing AThing F38 B (N27.mono (by decide)) (N30.mono (by decide)) (N12.mono (by decide)) (N9.mono (by decide)) (N35.mono (by decide)) (N24.mono (by decide)) (N13.mono (by decide)) (N33.mono (by decide)) (N34.mono (by decide)) (N28.mono (by decide)) (N29.mono (by decide)) (N25.mono (by decide)) (N21.mono (by decide)) (N32.mono (by decide)) (N26.mono (by decide)) (N36.mono (by decide)) (N37.mono (by decide))
theorem walk {l:PySem.W.OpenLaw} {q:Program} {loose:List Str} {XP:(Str->Option Value)->Heap->Prop} {YP:World->Heap->Prop} {d:DefRec} {K:Params->PySem.W.Frag} (hn:l.most=some 63) (hdf:d.params.defaults=[])
  (hY:∀ (w:World) (h:Heap),YP w h->(K w.params).In h)
  (F:∀ (w:World) (mg:Str->Option Value) (fa:Addr) (h:Heap),(K w.params).In h->h.Ns mainGlobals mg->mg d.name=some (.ref fa)->
   ∃ fd:FuncData,(∀ (s:Shared) (u:Value),BindsTo s fd ⟨[u],[]⟩ [("_law_script",u)])/\∀ base:Heap,(K w.params).In base->base.Ns mainGlobals mg->FnOk l.prog w (K w.params) mg base CX0 10 fa fd ["_law_script"] (spLaw (K w.params))) :
  PySem.W.WalkO q loose XP YP l.row.toRowW d [] (fun f vs=>PySem.call f vs):=
 L2.walk_of (n:=63) (k:=10) (x:="_law_script") (CX:=fun _=>CX0) (sp:=fun w=>spLaw (K w.params)) hn (by decide) hdf ⟨rfl,by decide,by decide⟩ hY F (fun _ _ a ns hl _ hS=>⟨a,ns,rfl,hS,hl,fun _=>rfl⟩) fun _ _ _ _ _ z=>z
end K85
open PySem PySem.W PyProof.Rows
set_option maxRecDepth 100000 in
set_option maxHeartbeats 0 in
theorem PySem.Challenge.cw_steadyhand_k85_things_turned_holds : PySem.Challenge.rw_steadyhand_k85_things_turned.Holds := by
 w_on; o_law
 refine holds_open (q:=H85.vw) (loose:=H85.lo) (Xt:=H85.xt) (XP:=XL H85.vw []) (Yf:=(kHook H85.KK H85.ks H85.ke).obs) (Ya:=(kHook H85.KK H85.ks H85.ke).val) (YP:=(kHook H85.KK H85.ks H85.ke).says) H85.left
  (kHook H85.KK H85.ks H85.ke).of (kHook H85.KK H85.ks H85.ke).keeps
  (fun s e=>xl_of s (Bool.and_eq_true_iff.mp e).1) XL.keeps (by rfl) (by rfl) (by rfl)
  (fun s e=>recFacts_of (Bool.and_eq_true_iff.mp e).2) (by rfl) (by assumption) (by decide +kernel)
  ⟨rfl,rfl,rfl,rfl,rfl,by decide +kernel⟩ ?hw ?hc
 case hw=>w_witness2
 rename_i sd
 clear sd
 k_fill
 refine K85.walk (l:=PySem.Challenge.rw_steadyhand_k85_things_turned) rfl rfl (fun w h Y=>PySem.W.kIn_of Y) ?F
 case F=>
  intro w mg fa h KX G hmg
  refine' K85.all_mk KX G hmg ?nm_Mode ?pg_Mode ?hd_Mode ?po_Mode ?sa_Mode ?mk_Mode ?kc_Mode ?ha_Mode ?hn_Mode ?tk_Mode ?hm_Mode ?n_rows_Mode ?n_nexts_Mode ?n_steer_Mode ?n_push_Mode ?n_add_Mode ?n_divisor_Mode ?nm_Thing ?pg_Thing ?hd_Thing ?po_Thing ?sa_Thing ?mk_Thing ?kc_Thing ?ha_Thing ?hn_Thing ?tk_Thing ?hm_Thing ?n_many_Thing ?n_kept_pushes_Thing ?n_kept_modes_Thing ?a0 ?l0 ?c0 ?k0 ?a1 ?l1 ?c1 ?k1 ?a2 ?l2 ?c2 ?k2 ?t2 ?a3 ?l3 ?c3 ?k3 ?t3 ?a4 ?l4 ?c4 ?k4 ?a5 ?l5 ?c5 ?k5 ?a6 ?l6 ?c6 ?k6 ?a7 ?l7 ?c7 ?k7 ?a8 ?l8 ?c8 ?k8 ?i9 ?a9 ?l9 ?c9 ?k9 ?a10 ?l10 ?c10 ?k10 ?a11 ?l11 ?c11 ?k11 ?i12 ?a12 ?l12 ?c12 ?k12 ?i13 ?a13 ?l13 ?c13 ?k13 ?i14 ?a14 ?l14 ?c14 ?k14 ?a15 ?l15 ?c15 ?k15 ?a16 ?l16 ?c16 ?k16 ?a17 ?l17 ?c17 ?k17 ?t17 ?a18 ?l18 ?c18 ?k18 ?a19 ?l19 ?c19 ?k19 ?a20 ?l20 ?c20 ?k20 ?a21 ?l21 ?c21 ?k21 ?a22 ?l22 ?c22 ?k22 ?a23 ?l23 ?c23 ?k23 ?a24 ?l24 ?c24 ?k24 ?a25 ?l25 ?c25 ?k25 ?a26 ?l26 ?c26 ?k26 ?a27 ?l27 ?c27 ?k27 ?a28 ?l28 ?c28 ?k28 ?a29 ?l29 ?c29 ?k29 ?a30 ?l30 ?c30 ?k30 ?a31 ?l31 ?c31 ?k31 ?a32 ?l32 ?c32 ?k32 ?a33 ?l33 ?c33 ?k33 ?a34 ?l34 ?c34 ?k34 ?a35 ?l35 ?c35 ?k35 ?a36 ?l36 ?c36 ?k36 ?a37 ?l37 ?c37 ?k37 ?a38 ?l38 ?c38 ?k38 ?aC ?aS ?aR ?aB ?aM ?xC ?vC ?eC ?kt_R ?kt_B ?kt_M ?gaC ?gtC ?haC ?hnC ?tkC ?mbC ?moC ?z0 ?z1 ?z2 ?z3 ?z4 ?z5 ?z6 ?z7 ?z8 ?z9 ?z10 ?z11 ?cst0 ?cst1 ?cst2
  (case nm_Mode=>k_is)
  (case pg_Mode=>k_is)
  (case hd_Mode=>k_is)
  (case po_Mode=>k_is)
  (case sa_Mode=>k_is)
  (case mk_Mode=>k_is)
  (case kc_Mode=>k_is)
  (case ha_Mode=>k_is)
  (case hn_Mode=>k_is)
  (case tk_Mode=>k_is)
  (case hm_Mode=>k_is)
  (case n_rows_Mode=>k_is)
  (case n_nexts_Mode=>k_is)
  (case n_steer_Mode=>k_is)
  (case n_push_Mode=>k_is)
  (case n_add_Mode=>k_is)
  (case n_divisor_Mode=>k_is)
  (case nm_Thing=>k_is)
  (case pg_Thing=>k_is)
  (case hd_Thing=>k_is)
  (case po_Thing=>k_is)
  (case sa_Thing=>k_is)
  (case mk_Thing=>k_is)
  (case kc_Thing=>k_is)
  (case ha_Thing=>k_is)
  (case hn_Thing=>k_is)
  (case tk_Thing=>k_is)
  (case hm_Thing=>k_is)
  (case n_many_Thing=>k_is)
  (case n_kept_pushes_Thing=>k_is)
  (case n_kept_modes_Thing=>k_is)
  (case a0=>k_is)
  (case l0=>k_is)
  (case c0=>k_is)
  (case k0=>k_is)
  (case a1=>k_is)
  (case l1=>k_is)
  (case c1=>k_is)
  (case k1=>k_is)
  (case a2=>k_is)
  (case l2=>k_is)
  (case c2=>k_is)
  (case k2=>k_is)
  (case t2=>k_is)
  (case a3=>k_is)
  (case l3=>k_is)
  (case c3=>k_is)
  (case k3=>k_is)
  (case t3=>k_is)
  (case a4=>k_is)
  (case l4=>k_is)
  (case c4=>k_is)
  (case k4=>k_is)
  (case a5=>k_is)
  (case l5=>k_is)
  (case c5=>k_is)
  (case k5=>k_is)
  (case a6=>k_is)
  (case l6=>k_is)
  (case c6=>k_is)
  (case k6=>k_is)
  (case a7=>k_is)
  (case l7=>k_is)
  (case c7=>k_is)
  (case k7=>k_is)
  (case a8=>k_is)
  (case l8=>k_is)
  (case c8=>k_is)
  (case k8=>k_is)
  (case i9=>k_is)
  (case a9=>k_is)
  (case l9=>k_is)
  (case c9=>k_is)
  (case k9=>k_is)
  (case a10=>k_is)
  (case l10=>k_is)
  (case c10=>k_is)
  (case k10=>k_is)
  (case a11=>k_is)
  (case l11=>k_is)
  (case c11=>k_is)
  (case k11=>k_is)
  (case i12=>k_is)
  (case a12=>k_is)
  (case l12=>k_is)
  (case c12=>k_is)
  (case k12=>k_is)
  (case i13=>k_is)
  (case a13=>k_is)
  (case l13=>k_is)
  (case c13=>k_is)
  (case k13=>k_is)
  (case i14=>k_is)
  (case a14=>k_is)
  (case l14=>k_is)
  (case c14=>k_is)
  (case k14=>k_is)
  (case a15=>k_is)
  (case l15=>k_is)
  (case c15=>k_is)
  (case k15=>k_is)
  (case a16=>k_is)
  (case l16=>k_is)
  (case c16=>k_is)
  (case k16=>k_is)
  (case a17=>k_is)
  (case l17=>k_is)
  (case c17=>k_is)
  (case k17=>k_is)
  (case t17=>k_is)
  (case a18=>k_is)
  (case l18=>k_is)
  (case c18=>k_is)
  (case k18=>k_is)
  (case a19=>k_is)
  (case l19=>k_is)
  (case c19=>k_is)
  (case k19=>k_is)
  (case a20=>k_is)
  (case l20=>k_is)
  (case c20=>k_is)
  (case k20=>k_is)
  (case a21=>k_is)
  (case l21=>k_is)
  (case c21=>k_is)
  (case k21=>k_is)
  (case a22=>k_is)
  (case l22=>k_is)
  (case c22=>k_is)
  (case k22=>k_is)
  (case a23=>k_is)
  (case l23=>k_is)
  (case c23=>k_is)
  (case k23=>k_is)
  (case a24=>k_is)
  (case l24=>k_is)
  (case c24=>k_is)
  (case k24=>k_is)
  (case a25=>k_is)
  (case l25=>k_is)
  (case c25=>k_is)
  (case k25=>k_is)
  (case a26=>k_is)
  (case l26=>k_is)
  (case c26=>k_is)
  (case k26=>k_is)
  (case a27=>k_is)
  (case l27=>k_is)
  (case c27=>k_is)
  (case k27=>k_is)
  (case a28=>k_is)
  (case l28=>k_is)
  (case c28=>k_is)
  (case k28=>k_is)
  (case a29=>k_is)
  (case l29=>k_is)
  (case c29=>k_is)
  (case k29=>k_is)
  (case a30=>k_is)
  (case l30=>k_is)
  (case c30=>k_is)
  (case k30=>k_is)
  (case a31=>k_is)
  (case l31=>k_is)
  (case c31=>k_is)
  (case k31=>k_is)
  (case a32=>k_is)
  (case l32=>k_is)
  (case c32=>k_is)
  (case k32=>k_is)
  (case a33=>k_is)
  (case l33=>k_is)
  (case c33=>k_is)
  (case k33=>k_is)
  (case a34=>k_is)
  (case l34=>k_is)
  (case c34=>k_is)
  (case k34=>k_is)
  (case a35=>k_is)
  (case l35=>k_is)
  (case c35=>k_is)
  (case k35=>k_is)
  (case a36=>k_is)
  (case l36=>k_is)
  (case c36=>k_is)
  (case k36=>k_is)
  (case a37=>k_is)
  (case l37=>k_is)
  (case c37=>k_is)
  (case k37=>k_is)
  (case a38=>k_is)
  (case l38=>k_is)
  (case c38=>k_is)
  (case k38=>k_is)
  (case aC=>k_is)
  (case aS=>k_is)
  (case aR=>k_is)
  (case aB=>k_is)
  (case aM=>k_is)
  (case xC=>k_exc)
  (case vC=>first | kit_is | k_is | rfl | decide +kernel)
  (case eC=>first | kit_is | k_is | rfl | decide +kernel)
  (case kt_R=>first | kit_is | k_is | rfl | decide +kernel)
  (case kt_B=>first | kit_is | k_is | rfl | decide +kernel)
  (case kt_M=>first | kit_is | k_is | rfl | decide +kernel)
  (case gaC=>k_is)
  (case gtC=>k_is)
  (case haC=>k_is)
  (case hnC=>k_is)
  (case tkC=>k_is)
  (case mbC=>k_is)
  (case moC=>k_is)
  (case z0=>k_is)
  (case z1=>k_is)
  (case z2=>k_is)
  (case z3=>k_is)
  (case z4=>k_is)
  (case z5=>k_is)
  (case z6=>k_is)
  (case z7=>k_is)
  (case z8=>k_is)
  (case z9=>k_is)
  (case z10=>k_is)
  (case z11=>k_is)
  (case cst0=>k_is)
  (case cst1=>k_is)
  (case cst2=>k_is)
#print axioms PySem.Challenge.cw_steadyhand_k85_things_turned_holds
