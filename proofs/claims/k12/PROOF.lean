import PyProof.Rows.All
import Wide.All
import OpenK.AllK
import Wide.FinOn
import Lean
import PyProof.EqAt
import PyProof.EqKinds
import PyProof.TupleCall
import PyProof.ZipIter
import PyProof.Draws
import PyProof.StationsW
import PyProof.Rows.SeqMore
import PySem.Challenge.RW_steadyhand_k12_things_refused
set_option Elab.async false
set_option linter.all false
set_option maxRecDepth 100000
set_option maxHeartbeats 0
namespace TT
open PySem PySem.W
noncomputable def runT (tb:String->Option Builtin) (p:Program) (w:World) (k:Nat) (an:Option Value):Nat->SharedT->Thread->Option SharedT
 | 0,_,_=>none
 | j + 1,x,t=>match through t with
  | true=>some x
  | false=>match stepOk k an t with
   | false=>none
   | true=>match stepT (denote tb) p w x t with
    | none=>none
    | some y=>runT tb p w k an j y.1 y.2
theorem kt {tb:String->Option Builtin} {p:Program} {w:World} {k:Nat} {an:Option Value}:∀ (j:Nat) (x y:SharedT) (t:Thread),runT tb p w k an j x t=some y->topRun tb p w k an j x.abs t=some y.abs
 | 0,_,_,_,e=>by cases e
 | j + 1,x,y,t,e=>by
  unfold runT at e
  unfold topRun
  cases e1:through t with
  | true=>
   rw [e1] at e
   cases e
   rfl
  | false=>
   rw [e1] at e
   cases e2:stepOk k an t with
   | false=>rw [e2] at e; cases e
   | true=>
    rw [e2] at e
    cases e3:stepT (denote tb) p w x t with
    | none=>rw [e3] at e; cases e
    | some z=>
     rw [e3] at e
     rw [stepT_spec e3]
     exact kt j z.1 y z.2 e
theorem left_is {p q:Program} {lo:List Str} {xt:Shared->Bool} {α:Type} {Yf:Shared->α} {Ya:World->α} {N k n0:Nat} {an:Option Value} {tr:Params->BT} (op:∀ w:World,(fencedOpening treeTable p w N).map (λs=>(s.heap,s.gens,s.drawn,s.toks))=some (boot_heap w.params,Array.mk [],boot_drawn,boot_toks))
  (et:∀ P:Params,absHeap (tr P) n0 (boot_heap P).life=boot_heap P) (z1:∀ P:Params,(boot_heap P).isNs mainGlobals=true) (z2:∀ P:Params,(boot_heap P).objs.size=k) (z3:∀ P:Params,(boot_heap P).nsMap mainGlobals "__annotations__" = an)
  (h:∀ (w:World) (os:OsState),(runT treeTable p w k an N ⟨tr w.params,n0,(boot_heap w.params).life,Array.mk [],boot_drawn,boot_toks,os⟩ (topStub p)).map (λs=>((staticsOk (importedModules p.main.body) (boot_heap w.params) s.abs.heap && namesBound p s.abs.heap && gensDone s.abs && laidKept (boot_heap w.params) s.abs.heap),openSeen q lo (importedModules p.main.body) xt true s.abs,Yf s.abs))=some (true,openGood q lo,Ya w)) :
  LeftO p q lo xt Yf Ya N:=λw=>by
 obtain ⟨⟨hp,gs,d,tk,os⟩,e,e'⟩:=Option.map_eq_some_iff.mp (op w)
 injection e' with a1 e'
 injection e' with a2 e'
 injection e' with a3 a4
 subst a1 a2 a3 a4
 obtain ⟨y,ey,eo⟩:=Option.map_eq_some_iff.mp (h w os)
 injection eo with l1 eo
 injection eo with l2 l3
 have r:=kt _ _ _ _ ey
 have r':topRun treeTable p w k an N ⟨boot_heap w.params,Array.mk [],boot_drawn,boot_toks,os⟩ (topStub p)=some y.abs:=by
  rw [<- r]
  unfold SharedT.abs
  rw [et]
 have f:topFrom treeTable p w N ⟨boot_heap w.params,Array.mk [],boot_drawn,boot_toks,os⟩=some y.abs:=by
  unfold topFrom
  show (match (boot_heap w.params).isNs mainGlobals && true with | true=>_ | false=>_)=_
  rw [z1,z2,z3,r']
  show (match (_ && _ && _ && _) with | true=>_ | false=>_)=_
  rw [l1]
 unfold openEnds
 rw [e]
 show (topFrom treeTable p w N _).map _=_
 rw [f]
 exact congrArg some (Prod.ext l2 l3)
end TT
namespace H12
open PySem PySem.W
set_option maxRecDepth 100000
noncomputable def hT (i:Nat):Stmt:=PySem.Challenge.pw_steadyhand_k12_things_refused.main.body.getD i (.Pass ⟨0,0,0,0⟩)
noncomputable def hI (i j:Nat):Stmt:=match hT i with
 | .ClassDef _ _ _ b _ _ _ _ _ _ _=>b.getD j (.Pass ⟨0,0,0,0⟩)
 | s=>s
noncomputable def hA:Stmt->Arguments
 | .FunctionDef _ a _ _ _ _ _ _ _ _=>a
 | _=>⟨[],[],none,[],[],none,[]⟩
noncomputable def hB:Stmt->List Stmt
 | .FunctionDef _ _ b _ _ _ _ _ _ _=>b
 | _=>[]
noncomputable def hC:Stmt->Scope
 | .FunctionDef _ _ _ _ _ _ c _ _ _=>c
 | _=>{ kind:=.function,names:=[],isGenerator:=false,isCoroutine:=false }
noncomputable abbrev hS (s:String) (n:Nat):Value:=.str (Str.ofString s) n
noncomputable abbrev hE (P:Params) (s:String) (n:Nat) (v:Value):DictEntry:=⟨PyData.keyHash P (Str.ofString s),hS s n,v⟩
noncomputable abbrev hU (x:Array Value):Obj:={ cls:=.type "tuple",data:=.seq x }
noncomputable abbrev hD (s:String) (a:Nat) (s2:String) (b c:Nat) (i j f:Int) (r1 r2:Nat) (u v t r:Value) (y z:Int) (d:Nat):Obj:={ cls:=.type "code",data:=.fields #[hS s a,hS s2 b,hS "/claim/cut.py" c,.int i 0,.int j 0,.int 0 0,.int 0 0,.int f 0,.ref r1,.bool true,.int 181 0,.ref r2,u,v,t,r,.int y 0,.int z 0,hS "/claim/cut.py" d] }
noncomputable abbrev hF (n q:String) (s:Stmt) (d k:Value) (m:String) (j c:Nat):Obj:={ cls:=.type "function",data:=.func { name:=n,qualname:=q,params:=hA s,body:=.stmts (hB s),scope:=hC s,globals:=3,closure:=[],defaults:=d,kwdefaults:=k,pyModule:=hS m j,code:=.ref c } }
noncomputable def KK:Params->Frag:=λP=>
 (nat_lit 2,{ cls:=.none,data:=.dict #[] })::(nat_lit 3,{ cls:=.type "dict",data:=.dict #[hE P "__name__" 165 (hS "law_steadyhand_k12_things_refused" 557),hE P "__doc__" 166 (.none),hE P "__package__" 167 (.none),hE P "__loader__" 168 (.builtin "__main__.__loader__#opaque"),hE P "__spec__" 169 (.none),hE P "__annotations__" 170 (.ref 6),hE P "__builtins__" 171 (.ref 4),hE P "__file__" 173 (hS "/claim/cut.py" 172),hE P "__cached__" 174 (.none),hE P "_wall" 193 (.ref 21),hE P "SteadyError" 213 (.ref 31),hE P "NoNumber" 229 (.ref 44),hE P "BadThing" 245 (.ref 56),hE P "BadRule" 261 (.ref 68),hE P "TooMany" 277 (.ref 80),hE P "NoRun" 302 (.ref 99),hE P "NotClosed" 318 (.ref 111),hE P "NotPlain" 334 (.ref 123),hE P "BadTurn" 350 (.ref 135),hE P "NoText" 366 (.ref 147),hE P "NoRow" 382 (.ref 159),hE P "is_whole" 391 (.ref 168),hE P "is_numbers" 399 (.ref 173),hE P "is_table" 405 (.ref 178),hE P "copied" 412 (.ref 184),hE P "is_row" 420 (.ref 189),hE P "is_room" 426 (.ref 194),hE P "MOST_NUMBERS" 430 (.int 3 429),hE P "MOST_PUSHES" 432 (.int 6 431),hE P "MOST_MODES" 434 (.int 40 433),hE P "Mode" 473 (.ref 211),hE P "Thing" 534 (.ref 260),hE P "is_sound" 540 (.ref 269),hE P "is_push" 547 (.ref 276),hE P "is_mode" 556 (.ref 283),hE P "_law_cell_at" 566 (.ref 290),hE P "_law_stream" 578 (.ref 297),hE P "_law_word" 584 (.ref 302),hE P "_law_said" 595 (.ref 309),hE P "_law_parts" 601 (.ref 314),hE P "_law_no_whole" 608 (.ref 321),hE P "_law_no_list" 618 (.ref 328),hE P "_law_no_row" 628 (.ref 335),hE P "_law_spoilt" 645 (.ref 342),hE P "_law_no_pushes" 655 (.ref 349),hE P "_law_no_modes" 664 (.ref 356),hE P "_law_built" 670 (.ref 361),hE P "_law_case" 676 (.ref 366),hE P "law" 682 (.ref 371)] 49 })::(nat_lit 15,hU #[])::(nat_lit 17,hU #[hS "k" 190])::(nat_lit 18,hU #[])::(nat_lit 20,hD "_wall" 187 "_wall" 188 189 1 1 3 15 16 .none (.ref 17) (.ref 18) (.ref 19) 191 1 192)::(nat_lit 21,hF "_wall" "_wall" (hT 0) .none .none "__main__" 164 20)::(nat_lit 22,hU #[.type "ValueError"])::(nat_lit 29,hU #[])::(nat_lit 30,{ cls:=.type "dict",data:=.dict #[hE P "__module__" 203 (hS "steadyhand.errors" 194),hE P "__firstlineno__" 207 (.int 5 206),hE P "__static_attributes__" 208 (.ref 29),hE P "__weakref__" 210 (.ref 32),hE P "__doc__" 211 (.none)] 3 })::(nat_lit 31,{ cls:=.type "type",data:=.cls { name:="SteadyError",bases:=[.type "ValueError"],mro:=[.ref 31,.type "ValueError",.type "Exception",.type "BaseException",.type "object"],ns:=30,qualname:="SteadyError",subclasses:=[.ref 44,.ref 56,.ref 68,.ref 80,.ref 99,.ref 111,.ref 123,.ref 135,.ref 147,.ref 159] },slots:=#[some (.ref 22),none,some (hS "SteadyError" 196),some (hS "SteadyError" 204),some (.builtin "ValueError.__new__"),some (.bool true)] })::(nat_lit 32,{ cls:=.type "getset_descriptor",data:=.fields #[hS "__weakref__" 209,.ref 31,.builtin "ExceptionGroup.__weakref__",.none] })::(nat_lit 35,hU #[.ref 31])::(nat_lit 42,hU #[])::(nat_lit 43,{ cls:=.type "dict",data:=.dict #[hE P "__module__" 221 (hS "steadyhand.errors" 194),hE P "__firstlineno__" 225 (.int 7 224),hE P "__static_attributes__" 226 (.ref 42),hE P "__doc__" 227 (.none)] 2 })::(nat_lit 44,{ cls:=.type "type",data:=.cls { name:="NoNumber",bases:=[.ref 31],mro:=[.ref 44,.ref 31,.type "ValueError",.type "Exception",.type "BaseException",.type "object"],ns:=43,qualname:="NoNumber" },slots:=#[some (.ref 35),none,some (hS "NoNumber" 214),some (hS "NoNumber" 222),some (.builtin "ValueError.__new__"),some (.bool true)] })::(nat_lit 47,hU #[.ref 31])::(nat_lit 54,hU #[])::(nat_lit 55,{ cls:=.type "dict",data:=.dict #[hE P "__module__" 237 (hS "steadyhand.errors" 194),hE P "__firstlineno__" 241 (.int 9 240),hE P "__static_attributes__" 242 (.ref 54),hE P "__doc__" 243 (.none)] 2 })::(nat_lit 56,{ cls:=.type "type",data:=.cls { name:="BadThing",bases:=[.ref 31],mro:=[.ref 56,.ref 31,.type "ValueError",.type "Exception",.type "BaseException",.type "object"],ns:=55,qualname:="BadThing" },slots:=#[some (.ref 47),none,some (hS "BadThing" 230),some (hS "BadThing" 238),some (.builtin "ValueError.__new__"),some (.bool true)] })::(nat_lit 59,hU #[.ref 31])::(nat_lit 66,hU #[])::(nat_lit 67,{ cls:=.type "dict",data:=.dict #[hE P "__module__" 253 (hS "steadyhand.errors" 194),hE P "__firstlineno__" 257 (.int 11 256),hE P "__static_attributes__" 258 (.ref 66),hE P "__doc__" 259 (.none)] 2 })::(nat_lit 68,{ cls:=.type "type",data:=.cls { name:="BadRule",bases:=[.ref 31],mro:=[.ref 68,.ref 31,.type "ValueError",.type "Exception",.type "BaseException",.type "object"],ns:=67,qualname:="BadRule" },slots:=#[some (.ref 59),none,some (hS "BadRule" 246),some (hS "BadRule" 254),some (.builtin "ValueError.__new__"),some (.bool true)] })::(nat_lit 71,hU #[.ref 31])::(nat_lit 78,hU #[])::(nat_lit 79,{ cls:=.type "dict",data:=.dict #[hE P "__module__" 269 (hS "steadyhand.errors" 194),hE P "__firstlineno__" 273 (.int 13 272),hE P "__static_attributes__" 274 (.ref 78),hE P "__doc__" 275 (.none)] 2 })::(nat_lit 80,{ cls:=.type "type",data:=.cls { name:="TooMany",bases:=[.ref 31],mro:=[.ref 80,.ref 31,.type "ValueError",.type "Exception",.type "BaseException",.type "object"],ns:=79,qualname:="TooMany" },slots:=#[some (.ref 71),none,some (hS "TooMany" 262),some (hS "TooMany" 270),some (.builtin "ValueError.__new__"),some (.bool true)] })::(nat_lit 83,hU #[.ref 31])::(nat_lit 90,hU #[])::(nat_lit 92,hU #[hS "self" 293,hS "step" 294])::(nat_lit 93,hU #[])::(nat_lit 95,hD "__init__" 290 "NoRun.__init__" 291 292 17 2 3 90 91 .none (.ref 92) (.ref 93) (.ref 94) 295 17 296)::(nat_lit 96,hF "__init__" "NoRun.__init__" (hI 7 0) .none .none "steadyhand.errors" 194 95)::(nat_lit 97,hU #[hS "step" 298])::(nat_lit 98,{ cls:=.type "dict",data:=.dict #[hE P "__module__" 285 (hS "steadyhand.errors" 194),hE P "__firstlineno__" 289 (.int 15 288),hE P "__init__" 297 (.ref 96),hE P "__static_attributes__" 299 (.ref 97),hE P "__doc__" 300 (.none)] 2 })::(nat_lit 99,{ cls:=.type "type",data:=.cls { name:="NoRun",bases:=[.ref 31],mro:=[.ref 99,.ref 31,.type "ValueError",.type "Exception",.type "BaseException",.type "object"],ns:=98,qualname:="NoRun" },slots:=#[some (.ref 83),none,some (hS "NoRun" 278),some (hS "NoRun" 286),some (.builtin "ValueError.__new__"),some (.bool true)] })::(nat_lit 102,hU #[.ref 31])::(nat_lit 109,hU #[])::(nat_lit 110,{ cls:=.type "dict",data:=.dict #[hE P "__module__" 310 (hS "steadyhand.errors" 194),hE P "__firstlineno__" 314 (.int 20 313),hE P "__static_attributes__" 315 (.ref 109),hE P "__doc__" 316 (.none)] 2 })::(nat_lit 111,{ cls:=.type "type",data:=.cls { name:="NotClosed",bases:=[.ref 31],mro:=[.ref 111,.ref 31,.type "ValueError",.type "Exception",.type "BaseException",.type "object"],ns:=110,qualname:="NotClosed" },slots:=#[some (.ref 102),none,some (hS "NotClosed" 303),some (hS "NotClosed" 311),some (.builtin "ValueError.__new__"),some (.bool true)] })::(nat_lit 114,hU #[.ref 31])::(nat_lit 121,hU #[])::(nat_lit 122,{ cls:=.type "dict",data:=.dict #[hE P "__module__" 326 (hS "steadyhand.errors" 194),hE P "__firstlineno__" 330 (.int 22 329),hE P "__static_attributes__" 331 (.ref 121),hE P "__doc__" 332 (.none)] 2 })::(nat_lit 123,{ cls:=.type "type",data:=.cls { name:="NotPlain",bases:=[.ref 31],mro:=[.ref 123,.ref 31,.type "ValueError",.type "Exception",.type "BaseException",.type "object"],ns:=122,qualname:="NotPlain" },slots:=#[some (.ref 114),none,some (hS "NotPlain" 319),some (hS "NotPlain" 327),some (.builtin "ValueError.__new__"),some (.bool true)] })::(nat_lit 126,hU #[.ref 31])::(nat_lit 133,hU #[])::(nat_lit 134,{ cls:=.type "dict",data:=.dict #[hE P "__module__" 342 (hS "steadyhand.errors" 194),hE P "__firstlineno__" 346 (.int 24 345),hE P "__static_attributes__" 347 (.ref 133),hE P "__doc__" 348 (.none)] 2 })::(nat_lit 135,{ cls:=.type "type",data:=.cls { name:="BadTurn",bases:=[.ref 31],mro:=[.ref 135,.ref 31,.type "ValueError",.type "Exception",.type "BaseException",.type "object"],ns:=134,qualname:="BadTurn" },slots:=#[some (.ref 126),none,some (hS "BadTurn" 335),some (hS "BadTurn" 343),some (.builtin "ValueError.__new__"),some (.bool true)] })::(nat_lit 138,hU #[.ref 31])::(nat_lit 145,hU #[])::(nat_lit 146,{ cls:=.type "dict",data:=.dict #[hE P "__module__" 358 (hS "steadyhand.errors" 194),hE P "__firstlineno__" 362 (.int 26 361),hE P "__static_attributes__" 363 (.ref 145),hE P "__doc__" 364 (.none)] 2 })::(nat_lit 147,{ cls:=.type "type",data:=.cls { name:="NoText",bases:=[.ref 31],mro:=[.ref 147,.ref 31,.type "ValueError",.type "Exception",.type "BaseException",.type "object"],ns:=146,qualname:="NoText" },slots:=#[some (.ref 138),none,some (hS "NoText" 351),some (hS "NoText" 359),some (.builtin "ValueError.__new__"),some (.bool true)] })::(nat_lit 150,hU #[.ref 31])::(nat_lit 157,hU #[])::(nat_lit 158,{ cls:=.type "dict",data:=.dict #[hE P "__module__" 374 (hS "steadyhand.errors" 194),hE P "__firstlineno__" 378 (.int 28 377),hE P "__static_attributes__" 379 (.ref 157),hE P "__doc__" 380 (.none)] 2 })::(nat_lit 159,{ cls:=.type "type",data:=.cls { name:="NoRow",bases:=[.ref 31],mro:=[.ref 159,.ref 31,.type "ValueError",.type "Exception",.type "BaseException",.type "object"],ns:=158,qualname:="NoRow" },slots:=#[some (.ref 150),none,some (hS "NoRow" 367),some (hS "NoRow" 375),some (.builtin "ValueError.__new__"),some (.bool true)] })::(nat_lit 162,hU #[])::(nat_lit 164,hU #[hS "thing" 388])::(nat_lit 165,hU #[])::(nat_lit 167,hD "is_whole" 385 "is_whole" 386 387 31 1 3 162 163 .none (.ref 164) (.ref 165) (.ref 166) 389 31 390)::(nat_lit 168,hF "is_whole" "is_whole" (hT 14) .none .none "steadyhand.fractions" 383 167)::(nat_lit 169,hU #[])::(nat_lit 172,hD "is_numbers" 394 "is_numbers" 395 396 34 2 3 169 170 .none .none .none (.ref 171) 397 34 398)::(nat_lit 173,hF "is_numbers" "is_numbers" (hT 16) .none .none "steadyhand.tables" 392 172)::(nat_lit 174,hU #[])::(nat_lit 177,hD "is_table" 400 "is_table" 401 402 36 3 3 174 175 .none .none .none (.ref 176) 403 36 404)::(nat_lit 178,hF "is_table" "is_table" (hT 17) .none .none "steadyhand.tables" 392 177)::(nat_lit 179,hU #[.int 5 406])::(nat_lit 180,hU #[])::(nat_lit 183,hD "copied" 407 "copied" 408 409 38 2 3 180 181 .none .none .none (.ref 182) 410 38 411)::(nat_lit 184,hF "copied" "copied" (hT 18) (.ref 179) .none "steadyhand.tables" 392 183)::(nat_lit 185,hU #[])::(nat_lit 188,hD "is_row" 415 "is_row" 416 417 47 2 3 185 186 .none .none .none (.ref 187) 418 47 419)::(nat_lit 189,hF "is_row" "is_row" (hT 20) .none .none "steadyhand.rows" 413 188)::(nat_lit 190,hU #[])::(nat_lit 193,hD "is_room" 421 "is_room" 422 423 49 2 3 190 191 .none .none .none (.ref 192) 424 49 425)::(nat_lit 194,hF "is_room" "is_room" (hT 21) .none .none "steadyhand.rows" 413 193)::(nat_lit 202,hU #[])::(nat_lit 204,hU #[hS "self" 450,hS "rows" 451,hS "nexts" 452,hS "steer" 453,hS "push" 454,hS "add" 455,hS "divisor" 456])::(nat_lit 205,hU #[])::(nat_lit 207,hD "__init__" 447 "Mode.__init__" 448 449 57 7 3 202 203 .none (.ref 204) (.ref 205) (.ref 206) 457 57 458)::(nat_lit 208,hF "__init__" "Mode.__init__" (hI 26 0) .none .none "steadyhand.things" 427 207)::(nat_lit 209,hU #[hS "add" 460,hS "divisor" 461,hS "nexts" 462,hS "push" 463,hS "rows" 464,hS "steer" 465])::(nat_lit 210,{ cls:=.type "dict",data:=.dict #[hE P "__module__" 442 (hS "steadyhand.things" 427),hE P "__firstlineno__" 446 (.int 55 445),hE P "__init__" 459 (.ref 208),hE P "__static_attributes__" 466 (.ref 209),hE P "__dict__" 468 (.ref 212),hE P "__weakref__" 470 (.ref 213),hE P "__doc__" 471 (.none)] 4 })::(nat_lit 211,{ cls:=.type "type",data:=.cls { name:="Mode",bases:=[.type "object"],mro:=[.ref 211,.type "object"],ns:=210,qualname:="Mode" },slots:=#[none,none,some (hS "Mode" 435),some (hS "Mode" 443),some (.builtin "object.__new__"),some (.bool true)] })::(nat_lit 212,{ cls:=.type "getset_descriptor",data:=.fields #[hS "__dict__" 467,.ref 211,.builtin "function.__dict__",.builtin "function.__dict__#set"] })::(nat_lit 213,{ cls:=.type "getset_descriptor",data:=.fields #[hS "__weakref__" 469,.ref 211,.builtin "ExceptionGroup.__weakref__",.none] })::(nat_lit 223,hU #[])::(nat_lit 225,hU #[hS "self" 489,hS "many" 490,hS "pushes" 491,hS "modes" 492])::(nat_lit 226,hU #[])::(nat_lit 228,hD "__init__" 486 "Thing.__init__" 487 488 66 4 3 223 224 .none (.ref 225) (.ref 226) (.ref 227) 493 66 494)::(nat_lit 229,hF "__init__" "Thing.__init__" (hI 27 0) .none .none "steadyhand.things" 427 228)::(nat_lit 230,hU #[])::(nat_lit 232,hU #[hS "self" 499])::(nat_lit 233,hU #[])::(nat_lit 235,hD "pushes" 496 "Thing.pushes" 497 498 75 1 3 230 231 .none (.ref 232) (.ref 233) (.ref 234) 500 75 501)::(nat_lit 236,hF "pushes" "Thing.pushes" (hI 27 1) .none .none "steadyhand.things" 427 235)::(nat_lit 237,hU #[])::(nat_lit 239,hU #[hS "self" 506])::(nat_lit 240,hU #[])::(nat_lit 242,hD "modes" 503 "Thing.modes" 504 505 78 1 3 237 238 .none (.ref 239) (.ref 240) (.ref 241) 507 78 508)::(nat_lit 243,hF "modes" "Thing.modes" (hI 27 2) .none .none "steadyhand.things" 427 242)::(nat_lit 244,hU #[])::(nat_lit 246,hU #[hS "self" 513])::(nat_lit 247,hU #[])::(nat_lit 249,hD "is_closed" 510 "Thing.is_closed" 511 512 81 1 3 244 245 .none (.ref 246) (.ref 247) (.ref 248) 514 81 515)::(nat_lit 250,hF "is_closed" "Thing.is_closed" (hI 27 3) .none .none "steadyhand.things" 427 249)::(nat_lit 251,hU #[])::(nat_lit 253,hU #[hS "self" 520])::(nat_lit 254,hU #[])::(nat_lit 256,hD "is_plain" 517 "Thing.is_plain" 518 519 84 1 3 251 252 .none (.ref 253) (.ref 254) (.ref 255) 521 84 522)::(nat_lit 257,hF "is_plain" "Thing.is_plain" (hI 27 4) .none .none "steadyhand.things" 427 256)::(nat_lit 258,hU #[hS "kept_modes" 524,hS "kept_pushes" 525,hS "many" 526])::(nat_lit 259,{ cls:=.type "dict",data:=.dict #[hE P "__module__" 481 (hS "steadyhand.things" 427),hE P "__firstlineno__" 485 (.int 64 484),hE P "__init__" 495 (.ref 229),hE P "pushes" 502 (.ref 236),hE P "modes" 509 (.ref 243),hE P "is_closed" 516 (.ref 250),hE P "is_plain" 523 (.ref 257),hE P "__static_attributes__" 527 (.ref 258),hE P "__dict__" 529 (.ref 261),hE P "__weakref__" 531 (.ref 262),hE P "__doc__" 532 (.none)] 4 })::(nat_lit 260,{ cls:=.type "type",data:=.cls { name:="Thing",bases:=[.type "object"],mro:=[.ref 260,.type "object"],ns:=259,qualname:="Thing" },slots:=#[none,none,some (hS "Thing" 474),some (hS "Thing" 482),some (.builtin "object.__new__"),some (.bool true)] })::(nat_lit 261,{ cls:=.type "getset_descriptor",data:=.fields #[hS "__dict__" 528,.ref 260,.builtin "function.__dict__",.builtin "function.__dict__#set"] })::(nat_lit 262,{ cls:=.type "getset_descriptor",data:=.fields #[hS "__weakref__" 530,.ref 260,.builtin "ExceptionGroup.__weakref__",.none] })::(nat_lit 265,hU #[])::(nat_lit 268,hD "is_sound" 535 "is_sound" 536 537 86 3 3 265 266 .none .none .none (.ref 267) 538 86 539)::(nat_lit 269,hF "is_sound" "is_sound" (hT 28) .none .none "steadyhand.things" 427 268)::(nat_lit 270,hU #[])::(nat_lit 272,hU #[hS "value" 544])::(nat_lit 273,hU #[])::(nat_lit 275,hD "is_push" 541 "is_push" 542 543 94 1 3 270 271 .none (.ref 272) (.ref 273) (.ref 274) 545 94 546)::(nat_lit 276,hF "is_push" "is_push" (hT 29) .none .none "steadyhand.things" 427 275)::(nat_lit 277,hU #[])::(nat_lit 279,hU #[hS "value" 551,hS "many" 552,hS "wide" 553])::(nat_lit 280,hU #[])::(nat_lit 282,hD "is_mode" 548 "is_mode" 549 550 98 3 3 277 278 .none (.ref 279) (.ref 280) (.ref 281) 554 98 555)::(nat_lit 283,hF "is_mode" "is_mode" (hT 30) .none .none "steadyhand.things" 427 282)::(nat_lit 284,hU #[])::(nat_lit 286,hU #[hS "_law_script" 562,hS "_law_k" 563])::(nat_lit 287,hU #[])::(nat_lit 289,hD "_law_cell_at" 559 "_law_cell_at" 560 561 107 2 3 284 285 .none (.ref 286) (.ref 287) (.ref 288) 564 107 565)::(nat_lit 290,hF "_law_cell_at" "_law_cell_at" (hT 32) .none .none "law_steadyhand_k12_things_refused" 557 289)::(nat_lit 291,hU #[])::(nat_lit 293,hU #[hS "_law_cell" 570,hS "_law_many" 571,hS "_law_found" 572,hS "_law_rest" 573,hS "_law_k" 574,hS "_law_number" 575])::(nat_lit 294,hU #[])::(nat_lit 296,hD "_law_stream" 567 "_law_stream" 568 569 111 2 3 291 292 .none (.ref 293) (.ref 294) (.ref 295) 576 111 577)::(nat_lit 297,hF "_law_stream" "_law_stream" (hT 33) .none .none "law_steadyhand_k12_things_refused" 557 296)::(nat_lit 298,hU #[])::(nat_lit 301,hD "_law_word" 579 "_law_word" 580 581 124 1 3 298 299 .none .none .none (.ref 300) 582 124 583)::(nat_lit 302,hF "_law_word" "_law_word" (hT 34) .none .none "law_steadyhand_k12_things_refused" 557 301)::(nat_lit 303,hU #[])::(nat_lit 305,hU #[hS "_law_many" 588,hS "_law_pushes" 589,hS "_law_modes" 590,hS "_law_word_here" 591,hS "_law_e" 592])::(nat_lit 306,hU #[])::(nat_lit 308,hD "_law_said" 585 "_law_said" 586 587 131 3 3 303 304 .none (.ref 305) (.ref 306) (.ref 307) 593 131 594)::(nat_lit 309,hF "_law_said" "_law_said" (hT 35) .none .none "law_steadyhand_k12_things_refused" 557 308)::(nat_lit 310,hU #[])::(nat_lit 313,hD "_law_parts" 596 "_law_parts" 597 598 138 3 3 310 311 .none .none .none (.ref 312) 599 138 600)::(nat_lit 314,hF "_law_parts" "_law_parts" (hT 36) .none .none "law_steadyhand_k12_things_refused" 557 313)::(nat_lit 315,hU #[])::(nat_lit 317,hU #[hS "_law_cell" 605])::(nat_lit 318,hU #[])::(nat_lit 320,hD "_law_no_whole" 602 "_law_no_whole" 603 604 144 1 3 315 316 .none (.ref 317) (.ref 318) (.ref 319) 606 144 607)::(nat_lit 321,hF "_law_no_whole" "_law_no_whole" (hT 37) .none .none "law_steadyhand_k12_things_refused" 557 320)::(nat_lit 322,hU #[])::(nat_lit 324,hU #[hS "_law_cell" 612,hS "_law_one" 613,hS "_law_at" 614,hS "_law_some" 615])::(nat_lit 325,hU #[])::(nat_lit 327,hD "_law_no_list" 609 "_law_no_list" 610 611 146 2 3 322 323 .none (.ref 324) (.ref 325) (.ref 326) 616 146 617)::(nat_lit 328,hF "_law_no_list" "_law_no_list" (hT 38) .none .none "law_steadyhand_k12_things_refused" 557 327)::(nat_lit 329,hU #[])::(nat_lit 331,hU #[hS "_law_cell" 622,hS "_law_row" 623,hS "_law_at" 624,hS "_law_some" 625])::(nat_lit 332,hU #[])::(nat_lit 334,hD "_law_no_row" 619 "_law_no_row" 620 621 150 2 3 329 330 .none (.ref 331) (.ref 332) (.ref 333) 626 150 627)::(nat_lit 335,hF "_law_no_row" "_law_no_row" (hT 39) .none .none "law_steadyhand_k12_things_refused" 557 334)::(nat_lit 336,hU #[])::(nat_lit 338,hU #[hS "_law_parts_here" 632,hS "_law_cell" 633,hS "_law_rows" 634,hS "_law_move" 635,hS "_law_steer" 636,hS "_law_push" 637,hS "_law_add" 638,hS "_law_divisor" 639,hS "_law_way" 640,hS "_law_rest" 641,hS "_law_at" 642])::(nat_lit 339,hU #[])::(nat_lit 341,hD "_law_spoilt" 629 "_law_spoilt" 630 631 154 2 3 336 337 .none (.ref 338) (.ref 339) (.ref 340) 643 154 644)::(nat_lit 342,hF "_law_spoilt" "_law_spoilt" (hT 40) .none .none "law_steadyhand_k12_things_refused" 557 341)::(nat_lit 343,hU #[])::(nat_lit 345,hU #[hS "_law_pushes" 649,hS "_law_cell" 650,hS "_law_at" 651,hS "_law_some" 652])::(nat_lit 346,hU #[])::(nat_lit 348,hD "_law_no_pushes" 646 "_law_no_pushes" 647 648 178 2 3 343 344 .none (.ref 345) (.ref 346) (.ref 347) 653 178 654)::(nat_lit 349,hF "_law_no_pushes" "_law_no_pushes" (hT 41) .none .none "law_steadyhand_k12_things_refused" 557 348)::(nat_lit 350,hU #[])::(nat_lit 352,hU #[hS "_law_modes" 659,hS "_law_cell" 660,hS "_law_at" 661])::(nat_lit 353,hU #[])::(nat_lit 355,hD "_law_no_modes" 656 "_law_no_modes" 657 658 184 2 3 350 351 .none (.ref 352) (.ref 353) (.ref 354) 662 184 663)::(nat_lit 356,hF "_law_no_modes" "_law_no_modes" (hT 42) .none .none "law_steadyhand_k12_things_refused" 557 355)::(nat_lit 357,hU #[])::(nat_lit 360,hD "_law_built" 665 "_law_built" 666 667 189 1 3 357 358 .none .none .none (.ref 359) 668 189 669)::(nat_lit 361,hF "_law_built" "_law_built" (hT 43) .none .none "law_steadyhand_k12_things_refused" 557 360)::(nat_lit 362,hU #[])::(nat_lit 365,hD "_law_case" 671 "_law_case" 672 673 191 4 3 362 363 .none .none .none (.ref 364) 674 191 675)::(nat_lit 366,hF "_law_case" "_law_case" (hT 44) .none .none "law_steadyhand_k12_things_refused" 557 365)::(nat_lit 367,hU #[])::(nat_lit 370,hD "law" 677 "law" 678 679 213 1 3 367 368 .none .none .none (.ref 369) 680 213 681)::(nat_lit 371,hF "law" "law" (hT 45) .none .none "law_steadyhand_k12_things_refused" 557 370) :: []
noncomputable def ks:List Addr:=[2,3,15,17,18,20,21,22,29,30,31,32,35,42,43,44,47,54,55,56,59,66,67,68,71,78,79,80,83,90,92,93,95,96,97,98,99,102,109,110,111,114,121,122,123,126,133,134,135,138,145,146,147,150,157,158,159,162,164,165,167,168,169,172,173,174,177,178,179,180,183,184,185,188,189,190,193,194,202,204,205,207,208,209,210,211,212,213,223,225,226,228,229,230,232,233,235,236,237,239,240,242,243,244,246,247,249,250,251,253,254,256,257,258,259,260,261,262,265,268,269,270,272,273,275,276,277,279,280,282,283,284,286,287,289,290,291,293,294,296,297,298,301,302,303,305,306,308,309,310,313,314,315,317,318,320,321,322,324,325,327,328,329,331,332,334,335,336,338,339,341,342,343,345,346,348,349,350,352,353,355,356,357,360,361,362,365,366,367,370,371]
theorem ke:∀ P:Params,ks=(KK P).map (·.1):=λ_=>by
 kernel_rfl
noncomputable def vw:Program:={ PySem.Challenge.pw_steadyhand_k12_things_refused with main:={ PySem.Challenge.pw_steadyhand_k12_things_refused.main with body:=[hT 0,hT 2,hT 3,hT 4,hT 5,hT 6,hT 7,hT 8,hT 9,hT 10,hT 11,hT 12,hT 14,hT 16,hT 17,hT 20,hT 21,hT 23,hT 24,hT 25,hT 26,hT 27,hT 28,hT 29,hT 30,hT 32,hT 33,hT 34,hT 35,hT 36,hT 37,hT 38,hT 39,hT 40,hT 41,hT 42,hT 43,hT 44,hT 45] } }
noncomputable def lo:List Str:=[Str.ofString "copied"]
noncomputable abbrev rr:RowW:=(OpenLaw.row PySem.Challenge.rw_steadyhand_k12_things_refused).toRowW
noncomputable abbrev xt:Shared->Bool:=λs=>xlAt vw [] s && recOk rr.records s
noncomputable def bt:Params->BT:=λP=>(.node (boot_o_0 P) (.node (boot_o_1 P) (.node (boot_o_3 P) (.node (boot_o_7 P) .nil .nil) .nil) (.node (boot_o_5 P) (.node (boot_o_9 P) .nil .nil) .nil)) (.node (boot_o_2 P) (.node (boot_o_4 P) (.node (boot_o_8 P) .nil .nil) .nil) (.node (boot_o_6 P) (.node (boot_o_10 P) .nil .nil) .nil)))
noncomputable def lhs (T:Params->BT) (h:Params->Heap) (d:Drawn) (k:Nat) (w:World) (os:OsState):=(TT.runT treeTable PySem.Challenge.pw_steadyhand_k12_things_refused w 11 (some (.ref 6)) 7544 ⟨T w.params,11,(h w.params).life,Array.mk [],d,k,os⟩ (topStub PySem.Challenge.pw_steadyhand_k12_things_refused)).map (λs=>((staticsOk (importedModules PySem.Challenge.pw_steadyhand_k12_things_refused.main.body) (h w.params) s.abs.heap && namesBound PySem.Challenge.pw_steadyhand_k12_things_refused s.abs.heap && gensDone s.abs && laidKept (h w.params) s.abs.heap),openSeen vw lo (importedModules PySem.Challenge.pw_steadyhand_k12_things_refused.main.body) xt true s.abs,ks.map s.abs.heap.get?))
noncomputable def rhs (F:Params->Frag) (w:World) (_:OsState):=some (true,openGood vw lo,(F w.params).map λp=>some p.2)
lay_quick lhs rhs
theorem same (w:World) (os:OsState):PySem.W.Fast.tw557475315792095133 bt boot_heap boot_drawn boot_toks w os=PySem.W.Fast.tw15788381007526772142 KK w os:=by
 kernel_rfl
theorem left:LeftO rr.prog vw lo xt (kHook KK ks ke).obs (kHook KK ks ke).val 7544:=
 TT.left_is (boot_open (by kernel_rfl) (by decide) (λ_=>by kernel_rfl)) (λ_=>by kernel_rfl) (λ_=>by kernel_rfl) (λ_=>by kernel_rfl) (λ_=>by kernel_rfl)
  λw os=>(congrArg (λf=>f bt boot_heap boot_drawn boot_toks w os) PySem.W.Fast.te557475315792095133).trans ((same w os).trans (congrFun (congrFun (congrFun PySem.W.Fast.te15788381007526772142 KK) w) os).symm)
end H12
namespace L2
open PySem PySem.Spec PyProof.Rows
noncomputable abbrev yO:=Sum Int Str
noncomputable def ku:yO->Value->Bool
 | .inl k,v=>Value.isInt k v
 | .inr x,v=>Value.isStrOf x v
noncomputable def qh (w:World):yO->Int
 | .inl k=>hashInt k
 | .inr x=>hashStr w x
theorem vK:∀ {k:yO} {v:Value},ku k v=true->(∃ i t,k=Sum.inl i/\v=Value.int i t)\/(∃ x t,k=Sum.inr x/\v=Value.str x t)
 | .inl i,v,h=>by
  obtain ⟨t,e⟩:=Value.isInt_shape (k:=i) (v:=v) h
  exact .inl ⟨i,t,rfl,e⟩
 | .inr x,v,h=>by
  obtain ⟨t,e⟩:=Value.isStrOf_shape (x:=x) (v:=v) h
  exact .inr ⟨x,t,rfl,e⟩
theorem Yj (a b:Int):decide ((Sum.inl a:yO)=Sum.inl b)=(a == b):=by
 by_cases e:a=b
 ·subst e; simp
 ·have h:¬ (Sum.inl a:yO)=Sum.inl b:=λq=>e (Sum.inl.inj q)
  rw [decide_eq_false h]
  exact (beq_eq_false_iff_ne.mpr e).symm
theorem Yk (a b:Str):decide ((Sum.inr a:yO)=Sum.inr b)=decide (a=b):=by
 by_cases e:a=b
 ·subst e; simp
 ·have h:¬ (Sum.inr a:yO)=Sum.inr b:=λq=>e (Sum.inr.inj q)
  rw [decide_eq_false h,decide_eq_false e]
theorem Yl (a:Int) (b:Str):decide ((Sum.inl a:yO)=Sum.inr b)=false:=decide_eq_false (λq=>nomatch q)
theorem Ym (a:Str) (b:Int):decide ((Sum.inr a:yO)=Sum.inl b)=false:=decide_eq_false (λq=>nomatch q)
noncomputable def ky (prog:Program) (w:World):PySem.KeyKind prog w yO where
 is:=ku
 hash:=qh w
 inj:=λv a b ha hb=>by
  rcases vK ha with ⟨i,t,rfl,rfl⟩ | ⟨x,t,rfl,rfl⟩
  ·rcases vK hb with ⟨j,u,rfl,e⟩ | ⟨y,u,rfl,e⟩
   ·injection e with e1 _; rw [e1]
   ·exact nomatch e
  ·rcases vK hb with ⟨j,u,rfl,e⟩ | ⟨y,u,rfl,e⟩
   ·exact nomatch e
   ·injection e with e1 _; rw [e1]
 byValue:=λk v h=>by
  rcases vK h with ⟨i,t,rfl,rfl⟩ | ⟨x,t,rfl,rfl⟩ <;> rfl
 pyHash:=λhv h=>by
  rcases vK hv with ⟨i,t,rfl,rfl⟩ | ⟨x,t,rfl,rfl⟩
  ·exact wpAny_pyHash_int h
  ·exact wpAny_pyHash_str h
 eqBool:=λhu hv h=>by
  rcases vK hu with ⟨i,t,rfl,rfl⟩ | ⟨x,t,rfl,rfl⟩
  ·rcases vK hv with ⟨j,u,rfl,rfl⟩ | ⟨y,u,rfl,rfl⟩
   ·rw [Yj] at h; exact wpAny_eqBool_int h
   ·rw [Yl] at h; exact SeqAt.EqAt.int_str i t y u _ _ _ _ h
  ·rcases vK hv with ⟨j,u,rfl,rfl⟩ | ⟨y,u,rfl,rfl⟩
   ·rw [Ym] at h; exact SeqAt.EqAt.str_int x t j u _ _ _ _ h
   ·rw [Yk] at h; exact wpAny_eqBool_str h
 «strs»:=λk x t v h=>by
  rcases vK h with ⟨i,u,rfl,e⟩ | ⟨y,u,rfl,e⟩
  ·exact nomatch e
  ·injection e with e1 _
   subst e1
   cases v <;> rfl
end L2
namespace L2
open PySem PySem.Spec PyProof.Rows
inductive V where
 | non | bl (b:Bool) | int (i:Int) | str (x:Str) | byt (b:Array UInt8) | flt (b:UInt64) | ref (a:Addr) | ty (n:String)
 deriving DecidableEq
noncomputable def zV:V->Value->Prop
 | .non,u=>u=Value.none
 | .bl b,u=>u=Value.bool b
 | .int i,u=>∃ t,u=Value.int i t
 | .str x,u=>∃ t,u=Value.str x t
 | .byt b,u=>∃ t,u=Value.bytes b t
 | .flt b,u=>∃ t,u=Value.float b t
 | .ref a,u=>u=Value.ref a
 | .ty n,u=>u=Value.type n
noncomputable abbrev zN:List V->List Value->Prop:=Paired zV
theorem zN.length {xs:List V} {us:List Value} (r:zN xs us):xs.length=us.length:=Paired.length r
theorem zN.get:∀ {xs:List V} {us:List Value} {i:Nat} {x:V},zN xs us->xs[i]? = some x->∃ u,us[i]? = some u/\zV x u
 | _,_,_,_,.nil,e=>by simp at e
 | _,_,0,_,.cons r _,e=>by simp at e; subst e; exact ⟨_,rfl,r⟩
 | _,_,i + 1,x,.cons _ t,e=>by
  obtain ⟨u,h1,h2⟩:=zN.get (i:=i) (x:=x) t (by simpa using e)
  exact ⟨u,by simpa using h1,h2⟩
theorem zN.set {x:V} {u:Value} (r:zV x u):∀ {xs:List V} {us:List Value} (i:Nat),zN xs us->zN (xs.set i x) (us.set i u)
 | _,_,_,.nil=>.nil
 | _,_,0,.cons _ t=>.cons r t
 | _,_,i + 1,.cons q t=>.cons q (zN.set r i t)
theorem zN.append:∀ {xs ys:List V} {us ws:List Value},zN xs us->zN ys ws->zN (xs++ys) (us++ws)
 | _,_,_,_,.nil,s=>s
 | _,_,_,_,.cons r t,s=>.cons r (zN.append t s)
theorem zN.take:∀ {xs:List V} {us:List Value} (n:Nat),zN xs us->zN (xs.take n) (us.take n)
 | _,_,0,_=>.nil
 | _,_,_ + 1,.nil=>.nil
 | _,_,n + 1,.cons r t=>.cons r (zN.take n t)
theorem zN.drop:∀ {xs:List V} {us:List Value} (n:Nat),zN xs us->zN (xs.drop n) (us.drop n)
 | _,_,0,r=>r
 | _,_,_ + 1,.nil=>.nil
 | _,_,n + 1,.cons _ t=>zN.drop n t
theorem zN.none_of:∀ {xs:List V} {us:List Value} {i:Nat},zN xs us->xs[i]? = none->us[i]? = none:=λ{xs us i} r e=>by
 have h1:=r.length
 have h2:xs.length<=i:=List.getElem?_eq_none_iff.mp e
 exact List.getElem?_eq_none_iff.mpr (by omega)
noncomputable def yt:Option V->Option Value->Prop
 | some v,some u=>zV v u
 | none,none=>True
 | _,_=>False
noncomputable def KV {κ:Type}:List (κ × V)->List (κ × Value)->Prop:=Paired λ(p:κ × V) (q:κ × Value)=>p.1=q.1/\zV p.2 q.2
noncomputable def kV:yO->V
 | .inl i=>.int i
 | .inr x=>.str x
inductive HO where
 | lst (xs:List V)
 | tup (xs:List V)
 | dK (kvs:List (yO × V)) | dT (kvs:List (List yO × V))
 | set (S:Int->Bool) (n:Nat)
 | ins (C dx:Addr) (fs:List (Str × V))
 | own (x:Addr)
 | xd (fs:List (Str × V))
 | met (f x:Addr)
 | rng (lo hi:Int)
 | frz (o:Obj) (u:HO)
 | tbl (ps:Array Value)
 | ext (φ:Heap->Prop)
noncomputable abbrev Hp:=Addr->Option HO
noncomputable def upd (H:Hp) (a:Addr) (o:HO):Hp:=λb=>if b=a then some o else H b
theorem zJ {H:Hp} {a:Addr} {o:HO}:upd H a o a=some o:=by unfold upd; rw [if_pos rfl]
theorem zi {H:Hp} {a b:Addr} {o:HO} (h:b≠a):upd H a o b=H b:=by unfold upd; rw [if_neg h]
theorem kz {H:Hp} {a:Addr} {o u:HO}:upd (upd H a o) a u=upd H a u:=by
 funext b; unfold upd; split <;> rfl
theorem ZA {H:Hp} {a b:Addr} {o u:HO} (h:H a=some o) (h':H b=some u) (d:o≠u):a≠b:=by
 intro e; subst e; rw [h] at h'; exact d (Option.some.inj h')
theorem vf {H:Hp} {a b:Addr} {o:HO} (h:H a=some o) (h':H b=none):a≠b:=by
 intro e; subst e; rw [h] at h'; cases h'
section
variable (P:Program) (w:World)
noncomputable def yu (H:Hp) (h:Heap) (a:Addr):HO->Prop
 | .lst xs=>xs.length<=sizeLine/\∃ (its:List Value) (n:Nat),zN xs its/\h.get? a=some { cls:=.type "list",data:=.seq its.toArray n }
 | .tup xs=>xs.length<=sizeLine/\∃ its:List Value,zN xs its/\IsTup h a its.toArray
 | .dK kvs=>kvs.length<=sizeLine/\(a == sysModules)=false/\∃ vs,KV kvs vs/\h.DictOf (ky P w) a vs
 | .dT kvs=>kvs.length<=sizeLine/\(a == sysModules)=false/\∃ xs:List (List yO × Addr × Value),
   Paired (λ(p:List yO × V) (q:List yO × Addr × Value)=>p.1=q.1/\H q.2.1=some (.tup (p.1.map kV))/\zV p.2 q.2.2) kvs xs∧
   ∃ o es ep,h.get? a=some o/\o.ExactDict/\o.data=.dict es ep/\es.toList=xs.map (entryOfKey (tupleKind (ky P w)))/\(xs.map (·.1)).Nodup
 | .set S n=>h.SetOf (intKind P w) a S n
 | .ins C dx fs=>H dx=some (.own a)/\fs.length<=1000/\dx≠a/\h.get? a=some (PySem.W.instObj C dx)∧
   ∃ mA,h.Ns1 dx mA/\(∀ f,yt (fs.lookup f) (mA f))/\PySem.Within mA (fs.map (·.1))
 | .own _=>∃ o,h.get? a=some o
 | .xd fs=>∃ mA,h.Ns1 a mA/\∀ f,yt (fs.lookup f) (mA f)
 | .rng lo hi=>∃ t u v,h.get? a=some { cls:=.type "range",data:=.fields #[.int lo t,.int hi u,.int 1 v] }
 | .frz o u=>h.get? a=some o/\yu H h a u
 | .tbl ps=>h.get? a=some { cls:=.none,data:=.fields ps }
 | .met f x=>h.get? a=some (PySem.W.methodObj (.ref f) (.ref x))
 | .ext φ=>φ h/\(∃ o,h.get? a=some o)/\∀ h1 h2:Heap,φ h1->(∀ o,h1.get? a=some o->h2.get? a=some o)->φ h2
noncomputable def yW (H:Hp) (h:Heap):Prop:=∀ a o,H a=some o->yu P w H h a o
end
section
variable {P:Program} {w:World} {H H':Hp} {h h':Heap} {a:Addr} {o:HO}
theorem yu.lt (x:yu P w H h a o):a < h.objs.size:=by
 cases o with
 | lst xs=>obtain ⟨_,_,_,_,e⟩:=x; exact Heap.lt_size e
 | tup xs=>obtain ⟨_,_,_,p⟩:=x; exact p.lt
 | dK kvs=>obtain ⟨_,_,_,_,o,_,_,e,_⟩:=x; exact Heap.lt_size e
 | dT kvs=>obtain ⟨_,_,_,_,o,_,_,e,_⟩:=x; exact Heap.lt_size e
 | set S n=>obtain ⟨o,_,_,_,e,_⟩:=x; exact Heap.lt_size e
 | ins C dx fs=>obtain ⟨_,_,_,e,_⟩:=x; exact Heap.lt_size e
 | own y=>obtain ⟨_,e⟩:=x; exact Heap.lt_size e
 | xd fs=>obtain ⟨_,⟨_,_,_,e,_⟩,_⟩:=x; exact Heap.lt_size e
 | rng lo hi=>obtain ⟨_,_,_,e⟩:=x; exact Heap.lt_size e
 | frz ob u=>obtain ⟨e,_⟩:=x; exact Heap.lt_size e
 | tbl ps=>exact Heap.lt_size (show h.get? a=some _ from x)
 | met f y=>exact Heap.lt_size (show h.get? a=some _ from x)
 | ext φ=>obtain ⟨_,⟨_,e⟩,_⟩:=x; exact Heap.lt_size e
theorem Paired.mapP {α β:Type} {F G:α->β->Prop}:∀ {l₁:List α} {l₂:List β},Paired F l₁ l₂->(∀ a b,F a b->G a b)->Paired G l₁ l₂
 | _,_,.nil,_=>.nil
 | _,_,.cons r t,f=>.cons (f _ _ r) (Paired.mapP t f)
theorem yu.stay (x:yu P w H h a o) (k:∀ b u,(b=a\/H b=some (.own a))->h.get? b=some u->h'.get? b=some u)
  (ho:∀ b,H b=some (.own a)->H' b=some (.own a)) (ht:∀ b xs,H b=some (.tup xs)->H' b=some (.tup xs)):yu P w H' h' a o:=by
 induction o with
 | lst xs=>obtain ⟨z,its,n,r,e⟩:=x; exact ⟨z,its,n,r,k _ _ (.inl rfl) e⟩
 | tup xs=>obtain ⟨z,its,r,ob,e,c⟩:=x; exact ⟨z,its,r,ob,k _ _ (.inl rfl) e,c⟩
 | dK kvs=>obtain ⟨z,y,vs,r,ob,es,ep,e,c⟩:=x; exact ⟨z,y,vs,r,ob,es,ep,k _ _ (.inl rfl) e,c⟩
 | dT kvs=>
  obtain ⟨z,y,xs,r,ob,es,ep,e,c⟩:=x
  exact ⟨z,y,xs,Paired.mapP r λp q z=>⟨z.1,ht _ _ z.2.1,z.2.2⟩,ob,es,ep,k _ _ (.inl rfl) e,c⟩
 | set S n=>obtain ⟨ob,es,ep,t,e,c⟩:=x; exact ⟨ob,es,ep,t,k _ _ (.inl rfl) e,c⟩
 | ins C dx fs=>
  obtain ⟨d,z,ne,e,mA,⟨od,es,ep,e2,c⟩,r⟩:=x
  exact ⟨ho _ d,z,ne,k _ _ (.inl rfl) e,mA,⟨od,es,ep,k _ _ (.inr d) e2,c⟩,r⟩
 | own y=>obtain ⟨ob,e⟩:=x; exact ⟨ob,k _ _ (.inl rfl) e⟩
 | xd fs=>obtain ⟨mA,⟨od,es,ep,e,c⟩,r⟩:=x; exact ⟨mA,⟨od,es,ep,k _ _ (.inl rfl) e,c⟩,r⟩
 | rng lo hi=>obtain ⟨t,u,v,e⟩:=x; exact ⟨t,u,v,k _ _ (.inl rfl) e⟩
 | frz ob u ih=>obtain ⟨e,q⟩:=x; exact ⟨k _ _ (.inl rfl) e,ih q⟩
 | tbl ps=>
  have e:h.get? a=some { cls:=.none,data:=.fields ps }:=x
  show h'.get? a=some { cls:=.none,data:=.fields ps }
  exact k a _ (.inl rfl) e
 | met f y=>
  have e:h.get? a=some (PySem.W.methodObj (.ref f) (.ref y)):=x
  show h'.get? a=some (PySem.W.methodObj (.ref f) (.ref y))
  exact k a _ (.inl rfl) e
 | ext φ=>obtain ⟨p,⟨o,e⟩,st⟩:=x; exact ⟨st _ _ p λo q=>k _ _ (.inl rfl) q,⟨o,k _ _ (.inl rfl) e⟩,st⟩
theorem yW.lt (x:yW P w H h) (e:H a=some o):a < h.objs.size:=(x a o e).lt
theorem yW.fresh (x:yW P w H h) (e:h.objs.size<=a):H a=none:=by
 cases q:H a with
 | none=>rfl
 | some u=>exact absurd (Nat.lt_of_lt_of_le (x.lt q) e) (Nat.lt_irrefl _)
theorem yW.kept (x:yW P w H h) (k:∀ b u,h.get? b=some u->h'.get? b=some u):yW P w H h':=λa o e=>
 (x a o e).stay (λb u _ q=>k b u q) (λ_ q=>q) λ_ _ q=>q
theorem yW.laid (x:yW P w H h) (k:∀ b u,h.get? b=some u->h'.get? b=some u) (hp:h.objs.size<=a) (new:yu P w (upd H a o) h' a o):yW P w (upd H a o) h':=λb u e=>by
 have hn:=x.fresh hp
 by_cases hb:b=a
 ·subst hb; rw [zJ] at e; cases e; exact new
 ·rw [zi hb] at e
  exact (x b u e).stay (λc v _ q=>k c v q) (λc q=>by rw [zi (vf q hn)]; exact q) λc xs q=>by rw [zi (vf q hn)]; exact q
end
noncomputable def Rd (H:Hp) (a:Addr) (u:HO):Prop:=H a=some u\/∃ o,H a=some (.frz o u)
theorem Rd.of {H:Hp} {a:Addr} {u:HO} (h:H a=some u):Rd H a u:=.inl h
theorem Rd.ok {P:Program} {w:World} {H:Hp} {h:Heap} {a:Addr} {u:HO} (r:Rd H a u) (x:yW P w H h):yu P w H h a u:=by
 rcases r with r | ⟨o,r⟩
 ·exact x a u r
 ·obtain ⟨_,q⟩:=x a _ r
  exact q
noncomputable def jw:Option HO->Prop
 | some (.lst _)=>True
 | some (.dK _)=>True
 | some (.dT _)=>True
 | some (.set _ _)=>True
 | some (.ins _ _ _)=>True
 | some (.ext _)=>True
 | _=>False
section
variable {P:Program} {w:World} {H:Hp} {h h':Heap} {x e:Addr} {o':HO}
theorem yW.write (ok:yW P w H h) (mu:jw (H x)) (he:e=x\/H e=some (.own x)) (k:∀ b u,b≠e->h.get? b=some u->h'.get? b=some u) (heo:∃ u,h'.get? e=some u)
  (new:yu P w (upd H x o') h' x o'):yW P w (upd H x o') h':=λb u q=>by
 have nown:∀ c y,H c=some (.own y)->c≠x:=λc y r z=>by subst z; rw [r] at mu; exact mu
 have ntup:∀ c xs,H c=some (.tup xs)->c≠x:=λc xs r z=>by subst z; rw [r] at mu; exact mu
 by_cases hb:b=x
 ·subst hb; rw [zJ] at q; cases q; exact new
 ·rw [zi hb] at q
  by_cases hbe:b=e
  ·have q':H b=some (.own x):=by
    rcases he with z | z
    ·exact absurd (hbe.trans z) hb
    ·rw [hbe]; exact z
   rw [q] at q'; cases q'
   obtain ⟨v,hv⟩:=heo
   exact ⟨v,by rw [hbe]; exact hv⟩
  ·refine (ok b u q).stay (λc v hc r=>k c v ?_ r) (λc r=>by rw [zi (nown c b r)]; exact r) λc xs r=>by rw [zi (ntup c xs r)]; exact r
   rcases hc with rfl | hc
   ·exact hbe
   ·rintro rfl
    rcases he with z | z
    ·exact nown c b hc z
    ·rw [hc] at z; cases z; exact hb rfl
end
structure Un (fs ex:List Addr) (H H':Hp) (h h':Heap):Prop where
 keep:∀ b o,h.get? b=some o->H b=none->b∉fs->b∉ex->h'.get? b=some o
 slot:∀ b o,h.get? b=some o->H b=none->b∈fs->b∉ex->∃ sl,h'.get? b=some { o with slots:=sl }
 free:∀ b o,h.get? b=some o->H b=none->b∉ex->H' b=none
 there:∀ b o,h.get? b=some o->b∉ex->∃ o',h'.get? b=some o'
 tups:∀ b xs,H b=some (.tup xs)->H' b=some (.tup xs)
 frzs:∀ b o u,H b=some (.frz o u)->H' b=some (.frz o u)
 tbls:∀ b ps,H b=some (.tbl ps)->∃ more,H' b=some (.tbl (ps++more))
section
variable {fs fs' ex ex':List Addr} {H H1 H2:Hp} {h h1 h2 h':Heap} {a x e:Addr} {o:HO}
theorem Un.any (u:Un fs ex H H1 h h1) {b:Addr} {ob:Obj} (q:h.get? b=some ob) (n:H b=none) (hx:b∉ex):∃ sl,h1.get? b=some { ob with slots:=sl }:=by
 by_cases hb:b∈fs
 ·exact u.slot b ob q n hb hx
 ·exact ⟨ob.slots,u.keep b ob q n hb hx⟩
theorem Un.trans (a:Un fs ex H H1 h h1) (b:Un fs ex H1 H2 h1 h2):Un fs ex H H2 h h2 where
 keep:=λc ob q n hc hx=>b.keep c ob (a.keep c ob q n hc hx) (a.free c ob q n hx) hc hx
 slot:=λc ob q n hc hx=>by
  obtain ⟨sl,e1⟩:=a.slot c ob q n hc hx
  obtain ⟨sl',e2⟩:=b.slot c _ e1 (a.free c ob q n hx) hc hx
  exact ⟨sl',e2⟩
 free:=λc ob q n hx=>by
  obtain ⟨o',e1⟩:=a.there c ob q hx
  exact b.free c o' e1 (a.free c ob q n hx) hx
 there:=λc ob q hx=>by
  obtain ⟨o',e1⟩:=a.there c ob q hx
  exact b.there c o' e1 hx
 tups:=λc xs q=>b.tups c xs (a.tups c xs q)
 frzs:=λc ob xs q=>b.frzs c ob xs (a.frzs c ob xs q)
 tbls:=λc ps q=>by
  obtain ⟨m1,e1⟩:=a.tbls c ps q
  obtain ⟨m2,e2⟩:=b.tbls c _ e1
  exact ⟨m1++m2,by rw [e2,Array.append_assoc]⟩
theorem Un.kept (k:∀ b u,h.get? b=some u->h'.get? b=some u):Un fs ex H H h h':=
 ⟨λb ob q _ _ _=>k b ob q,λb ob q _ _ _=>⟨ob.slots,k b ob q⟩,λ_ _ _ n _=>n,λb ob q _=>⟨ob,k b ob q⟩,λ_ _ q=>q,λ_ _ _ q=>q,λ_ ps q=>⟨#[],by rw [q]; simp⟩⟩
theorem Un.refl:Un fs ex H H h h:=Un.kept λ_ _ q=>q
theorem Un.laid (k:∀ b u,h.get? b=some u->h'.get? b=some u) (hp:h.objs.size<=a) (hn:H a=none):Un fs ex H (upd H a o) h h' where
 keep:=λb u q _ _ _=>k b u q
 slot:=λb u q _ _ _=>⟨u.slots,k b u q⟩
 free:=λb u q n _=>by rw [zi (Nat.ne_of_lt (Nat.lt_of_lt_of_le (Heap.lt_size q) hp))]; exact n
 there:=λb u q _=>⟨u,k b u q⟩
 tups:=λb xs q=>by rw [zi (vf q hn)]; exact q
 frzs:=λb u xs q=>by rw [zi (vf q hn)]; exact q
 tbls:=λb ps q=>⟨#[],by rw [zi (vf q hn),q]; simp⟩
theorem Un.write (mu:jw (H x)) (he:e=x\/H e=some (.own x)) (k:∀ b u,b≠e->h.get? b=some u->h'.get? b=some u) (heo:∃ u,h'.get? e=some u):Un fs ex H (upd H x o) h h':=by
 have hx:∀ b,H b=none->b≠x:=λb n z=>by subst z; rw [n] at mu; exact mu
 have hb:∀ b,H b=none->b≠e:=λb n z=>by
  subst z
  rcases he with r | r
  ·exact hx b n r
  ·rw [n] at r; cases r
 have hm:∀ b u,H b=some u->¬ jw (some u)->b≠x:=λb u q nm z=>by subst z; rw [q] at mu; exact nm mu
 refine ⟨λb u q n _ _=>k b u (hb b n) q,λb u q n _ _=>⟨u.slots,k b u (hb b n) q⟩,λb u q n _=>by rw [zi (hx b n)]; exact n,λb u q _=>?_,
  λb xs q=>by rw [zi (hm b _ q λz=>z)]; exact q,λb u xs q=>by rw [zi (hm b _ q λz=>z)]; exact q,λb ps q=>⟨#[],by rw [zi (hm b _ q λz=>z),q]; simp⟩⟩
 by_cases hbe:b=e
 ·subst hbe; exact heo
 ·exact ⟨u,k b u hbe q⟩
theorem Un.mono (u:Un fs ex H H1 h h1) (hs:∀ b∈fs,b∈fs') (hx:∀ b∈ex,b∈ex'):Un fs' ex' H H1 h h1:=
 ⟨λb ob q n hb he=>u.keep b ob q n (λz=>hb (hs b z)) λz=>he (hx b z),λ_ _ q n _ he=>u.any q n λz=>he (hx _ z),λb ob q n he=>u.free b ob q n λz=>he (hx b z),λb ob q he=>u.there b ob q λz=>he (hx b z),u.tups,u.frzs,u.tbls⟩
end
noncomputable def jx (h:Heap) (H:Hp):List Addr:=(List.range h.objs.size).filter λa=>(H a).isSome
noncomputable def xR (h:Heap) (H:Hp):Heap:=PySem.W.hideAll h (jx h H)
theorem Yn (h:Heap) (H:Hp):(xR h H).objs.size=h.objs.size:=PySem.W.hideAll_size _ _
theorem Yo {h:Heap} {H:Hp} {b:Addr} {o:Obj} (e:h.get? b=some o) (n:H b=none):(xR h H).get? b=some o:=
 PySem.W.hideAll_get _ e λhm=>by
  have q:(H b).isSome=true:=(List.mem_filter.mp hm).2
  rw [n] at q; simp at q
theorem Yp {h:Heap} {H:Hp} {b:Addr} {o:Obj} (e:(xR h H).get? b=some o):h.get? b=some o/\H b=none:=by
 have e':h.get? b=some o:=PySem.W.of_hideAll (jx h H) e
 refine ⟨e',?_⟩
 cases q:H b with
 | none=>rfl
 | some x=>
  have hm:b∈jx h H:=List.mem_filter.mpr ⟨List.mem_range.mpr (Heap.lt_size e'),by simp [q]⟩
  have z:(xR h H).get? b=none:=PySem.W.hideAll_none (jx h H) hm
  rw [z] at e; cases e
noncomputable def Yq (g h:Heap) (L:Addr):List (Addr × Obj):=(List.range h.objs.size).filterMap λa=>if a=L\/(g.get? a).isSome=true then none else (h.get? a).map λo=>(a,o)
noncomputable def xg (g h:Heap) (L d:Addr):List (Addr × Obj):=(Yq g h L).filter λp=>decide (p.1≠d)
end L2
namespace L2
open PySem PySem.Spec PyProof.Rows
structure Mod (K:PySem.W.Frag) (mg:Str->Option Value) (base:Heap):Prop where
 kin:K.In base
 glob:base.Ns mainGlobals mg
 blt:∃ mb,base.Ns builtinsNs mb/\∀ x:Str,x≠"__name__"->mb x=bootBuiltins x
 nolimit:base.NoLimit
structure Cx where
 prog:Program
 w:World
 K:PySem.W.Frag
 mg:Str->Option Value
 base:Heap
 A:Around
 N:List Str
 s₀:Shared
 H₀:Hp
 env:Env
 outer:List Env
 stack:List Env
 ex:List Addr
 fn:Str->Bool
 calm:Bool
 pn:List (Addr × Obj)
 xe:Value->Shared->Prop
noncomputable def yw (l:List Env):List Addr:=l.filterMap (·.frame)
noncomputable abbrev Cx.fs (X:Cx):List Addr:=yw X.outer
noncomputable def vt (sc:Scope) (x:Str):Prop:=sc.names.lookup x=some .local\/sc.names.lookup x=some .cell\/sc.names.lookup x=some .free
noncomputable def jy (sc:Scope) (x:Str):Prop:=sc.names.lookup x=some .local\/sc.names.lookup x=some .cell
noncomputable def ul (env:Env) (h:Heap) (m:Str->Option Value) (x:Str) (u:Value):Prop:=
 (env.kindOf x=some .local/\m x=some u)\/((env.kindOf x=some .cell\/env.kindOf x=some .free)/\∃ c,env.cells.lookup x=some c/\h.IsCell c (some u))
structure Cx.Ok (X:Cx):Prop where
 mod:Mod X.K X.mg X.base
 kind:X.env.scope.kind=.function
 glob:X.env.globals=mainGlobals
 blt:X.env.builtins=builtinsNs
 above:X.s₀.heap.objs.size<=X.env.locals
 inj:∀ x y c,X.env.cells.lookup x=some c->X.env.cells.lookup y=some c->x=y
 has:∀ x,(X.env.kindOf x=some .cell\/X.env.kindOf x=some .free)->∃ c,X.env.cells.lookup x=some c
 cab:∀ x c,X.fn x=true->X.env.cells.lookup x=some c->X.s₀.heap.objs.size<=c
 hd:X.calm=true->X.A.handled=none
 frames:X.A.frames=some X.stack
 stk:X.stack=X.outer\/(X.stack=X.env :: X.outer/\X.env.frame=some X.env.locals)
 exf:∀ b∈X.ex,b≠X.env.locals/\∀ x c,X.env.cells.lookup x=some c->c≠b
 bs:∀ b o,X.base.get? b=some o->X.s₀.heap.get? b=some o/\X.H₀ b=none
 bsz:X.base.objs.size<=X.s₀.heap.objs.size
 noex:∀ b o,X.base.get? b=some o->b∉X.ex
 exfs:∀ b∈X.ex,b∉X.fs
 funs:X.s₀.heap.FunFrames X.base X.outer
 frf:∀ b∈X.fs,X.H₀ b=none
structure zE (X:Cx) (pins:List (Addr × Obj)) (σ:List (Option V)) (H:Hp) (s:Shared):Prop where
 ok:X.Ok
 os:s.os=X.s₀.os
 bare:AllBare s.gens
 base:Un X.fs X.ex X.H₀ H X.s₀.heap s.heap
 loc:∃ m,s.heap.Ns X.env.locals m/\∀ (i:Nat) (x:Str) (v:V),X.N[i]? = some x->σ[i]? = some (some v)->vt X.env.scope x->∃ u,zV v u/\ul X.env s.heap m x u
 cell:∀ x c,X.env.cells.lookup x=some c->∃ v,s.heap.IsCell c v
 free:H X.env.locals=none
 freeC:∀ x c,X.env.cells.lookup x=some c->H c=none
 pin:∀ p∈X.pn++pins,s.heap.get? p.1=some p.2/\H p.1=none/\p.1≠X.env.locals/\p.1∉X.fs/\∀ v,p.2.data≠.cell v
 hok:yW X.prog X.w H s.heap
 len:σ.length=X.N.length
section
variable {X:Cx} {pins:List (Addr × Obj)} {σ:List (Option V)} {H H':Hp} {s:Shared} {h':Heap}
theorem Cx.Ok.nofr (ok:X.Ok) {b:Addr} {o:Obj} (e:X.base.get? b=some o):b∉X.fs:=λhb=>by
 have:=(ok.funs.mem hb).1
 rw [e] at this; cases this
theorem zE.bs (I:zE X pins σ H s):∀ b o,X.base.get? b=some o->s.heap.get? b=some o/\H b=none:=λb o e=>
 ⟨I.base.keep b o (I.ok.bs b o e).1 (I.ok.bs b o e).2 (I.ok.nofr e) (I.ok.noex b o e),I.base.free b o (I.ok.bs b o e).1 (I.ok.bs b o e).2 (I.ok.noex b o e)⟩
theorem zE.bk (I:zE X pins σ H s):∀ b o,X.base.get? b=some o->s.heap.get? b=some o:=λb o e=>(I.bs b o e).1
theorem zE.mod (I:zE X pins σ H s):Mod X.K X.mg X.base:=I.ok.mod
theorem zE.kIn (I:zE X pins σ H s):X.K.In s.heap:=I.ok.mod.kin.keeps I.bk
theorem zE.nolimit (I:zE X pins σ H s):s.heap.NoLimit:=I.ok.mod.nolimit.keeps I.bk
theorem zE.fr (I:zE X pins σ H s):∃ m,Fr X.base X.env.locals s.heap m:=
 let ⟨m,hn,_⟩:=I.loc
 ⟨m,hn,I.bk,Nat.le_trans I.ok.bsz I.ok.above⟩
theorem zE.lt (I:zE X pins σ H s):X.env.locals < s.heap.objs.size:=let ⟨_,hn,_⟩:=I.loc; hn.lt
theorem zE.sz (I:zE X pins σ H s):X.s₀.heap.objs.size<=s.heap.objs.size:=Nat.le_trans I.ok.above (Nat.le_of_lt I.lt)
theorem zE.nofs (I:zE X pins σ H s) {a:Addr} (h:s.heap.objs.size<=a):a∉X.fs:=λhb=>by
 obtain ⟨_,o,ho,_⟩:=I.ok.funs.mem hb
 exact absurd (Nat.lt_of_lt_of_le (Heap.lt_size ho) (Nat.le_trans I.sz h)) (Nat.lt_irrefl _)
theorem zE.cne (I:zE X pins σ H s):∀ x c,X.env.cells.lookup x=some c->c≠X.env.locals:=λx c e z=>by
 obtain ⟨v,o,ho,hd⟩:=I.cell x c e
 obtain ⟨m,⟨o',es,ep,ho',hd',_⟩,_⟩:=I.loc
 rw [z,ho'] at ho; cases ho; rw [hd'] at hd; cases hd
theorem zE.funs (I:zE X pins σ H s):s.heap.FunFrames X.base X.outer:=by
 have all:∀ (l:List Env),(∀ b∈yw l,b∈X.fs)->X.s₀.heap.FunFrames X.base l->s.heap.FunFrames X.base l:=by
  intro l
  induction l with
  | nil=>intro _ _; trivial
  | cons env r ih=>
   intro hs hl
   obtain ⟨hk,⟨L,o,hf,hn,ho,hd⟩,hr⟩:=hl
   have hL:L∈X.fs:=hs L (by unfold yw; rw [List.filterMap_cons,hf]; exact List.mem_cons_self)
   obtain ⟨sl,e⟩:=I.base.slot L o ho (I.ok.frf L hL) hL λz=>I.ok.exfs L z hL
   exact ⟨hk,⟨L,_,hf,hn,e,hd⟩,ih (λb hb=>hs b (by unfold yw; rw [List.filterMap_cons,hf]; exact List.mem_cons_of_mem _ hb)) hr⟩
 exact all X.outer (λ_ hb=>hb) I.ok.funs
theorem zE.stack (I:zE X pins σ H s):s.heap.FunFrames X.base X.stack:=by
 rcases I.ok.stk with e | ⟨e,hf⟩
 ·rw [e]; exact I.funs
 ·rw [e]
  obtain ⟨m,hn,_⟩:=I.loc
  refine .cons (by rw [I.ok.kind]; decide) hf hn ?_ I.funs
  exact Heap.get?_none_of_le (Nat.le_trans I.ok.bsz I.ok.above)
theorem zE.stkSub (I:zE X pins σ H s):∀ b∈yw X.stack,b∈X.env.locals :: X.fs:=λb hb=>by
 rcases I.ok.stk with e | ⟨e,hf⟩
 ·rw [e] at hb; exact List.mem_cons_of_mem _ hb
 ·rw [e] at hb
  unfold yw at hb
  rw [List.filterMap_cons,hf] at hb
  exact hb
theorem zE.stkFree (I:zE X pins σ H s):∀ b∈yw X.stack,H b=none:=λb hb=>by
 rcases List.mem_cons.mp (I.stkSub b hb) with e | hb
 ·rw [e]; exact I.free
 ·obtain ⟨_,o,ho,_⟩:=I.ok.funs.mem hb
  exact I.base.free b o ho (I.ok.frf b hb) λz=>I.ok.exfs b z hb
theorem zE.step {g':Array GenState} {t':Nat} {d':Drawn} {ch:List Addr} (I:zE X pins σ H s)
  (hch:∀ b∈ch,(b∈X.ex\/X.s₀.heap.objs.size<=b)/\b≠X.env.locals/\(∀ x c,X.env.cells.lookup x=some c->c≠b)/\∀ p∈X.pn++pins,p.1≠b)
  (keep:∀ b o,b≠X.env.locals->b∉X.fs->b∉ch->s.heap.get? b=some o->H b=none->h'.get? b=some o)
  (slot:∀ b o,b≠X.env.locals->b∈X.fs->b∉ch->s.heap.get? b=some o->H b=none->∃ sl,h'.get? b=some { o with slots:=sl }) (free:∀ b o,b∉ch->s.heap.get? b=some o->H b=none->H' b=none)
  (there:∀ b o,b∉ch->s.heap.get? b=some o->∃ o',h'.get? b=some o')
  (tups:∀ b xs,H b=some (.tup xs)->H' b=some (.tup xs)) (frzs:∀ b o u,H b=some (.frz o u)->H' b=some (.frz o u)) (tbls:∀ b ps,H b=some (.tbl ps)->∃ more,H' b=some (.tbl (ps++more)))
  (ns:∀ m,s.heap.Ns X.env.locals m->h'.Ns X.env.locals m) (hok:yW X.prog X.w H' h') (hg:AllBare g') :
  zE X pins σ H' { s with heap:=h',gens:=g',drawn:=d',toks:=t' }:=by
 have neL:∀ b o,X.s₀.heap.get? b=some o->b≠X.env.locals:=λb o e=>Nat.ne_of_lt (Nat.lt_of_lt_of_le (Heap.lt_size e) I.ok.above)
 have neC:∀ b o,X.s₀.heap.get? b=some o->b∉X.ex->b∉ch:=λb o e hx hb=>by
  rcases (hch b hb).1 with z | z
  ·exact hx z
  ·exact absurd (Nat.lt_of_lt_of_le (Heap.lt_size e) z) (Nat.lt_irrefl _)
 have cellK:∀ x c,X.env.cells.lookup x=some c->∀ v,s.heap.IsCell c v->h'.IsCell c v:=λx c e v ⟨o,ho,hd⟩=>by
  have nch:c∉ch:=λz=>(hch c z).2.2.1 x c e rfl
  by_cases hc:c∈X.fs
  ·obtain ⟨sl,q⟩:=slot c o (I.cne x c e) hc nch ho (I.freeC x c e)
   exact ⟨_,q,hd⟩
  ·exact ⟨o,keep c o (I.cne x c e) hc nch ho (I.freeC x c e),hd⟩
 refine ⟨I.ok,I.os,hg,⟨λb o e n hb hx=>?_,λb o e n hb hx=>?_,λb o e n hx=>?_,λb o e hx=>?_,λb xs e=>tups b xs (I.base.tups b xs e),λb o xs e=>frzs b o xs (I.base.frzs b o xs e),λb ps e=>?_⟩,?_,λx c e=>?_,?_,λx c e=>?_,λp hp=>?_,hok,I.len⟩
 ·exact keep b o (neL b o e) hb (neC b o e hx) (I.base.keep b o e n hb hx) (I.base.free b o e n hx)
 ·obtain ⟨sl,e1⟩:=I.base.slot b o e n hb hx
  obtain ⟨sl',e2⟩:=slot b _ (neL b o e) hb (neC b o e hx) e1 (I.base.free b o e n hx)
  exact ⟨sl',e2⟩
 ·obtain ⟨o',e1⟩:=I.base.there b o e hx
  exact free b o' (neC b o e hx) e1 (I.base.free b o e n hx)
 ·obtain ⟨o',e1⟩:=I.base.there b o e hx
  exact there b o' (neC b o e hx) e1
 ·obtain ⟨m1,e1⟩:=I.base.tbls b ps e
  obtain ⟨m2,e2⟩:=tbls b _ e1
  exact ⟨m1++m2,by rw [e2,Array.append_assoc]⟩
 ·obtain ⟨m,hn,hl⟩:=I.loc
  refine ⟨m,ns m hn,λi x v e1 e2 e3=>?_⟩
  obtain ⟨u,r,l⟩:=hl i x v e1 e2 e3
  refine ⟨u,r,?_⟩
  rcases l with l | ⟨k,c,e,z⟩
  ·exact .inl l
  ·exact .inr ⟨k,c,e,cellK x c e _ z⟩
 ·obtain ⟨v,z⟩:=I.cell x c e
  exact ⟨v,cellK x c e v z⟩
 ·obtain ⟨m,⟨o,_,_,ho,_⟩,_⟩:=I.loc
  exact free _ o (λz=>(hch _ z).2.1 rfl) ho I.free
 ·obtain ⟨v,o,ho,hd⟩:=I.cell x c e
  exact free c o (λz=>(hch c z).2.2.1 x c e rfl) ho (I.freeC x c e)
 ·obtain ⟨e,n,ne,nf,d⟩:=I.pin p hp
  have nch:p.1∉ch:=λz=>(hch p.1 z).2.2.2 p hp rfl
  exact ⟨keep p.1 p.2 ne nf nch e n,free p.1 p.2 nch e n,ne,nf,d⟩
theorem zE.un {t':Nat} (I:zE X pins σ H s) (u:Un X.fs [] H H' s.heap h') (hok:yW X.prog X.w H' h'):zE X pins σ H' { s with heap:=h',toks:=t' }:=by
 obtain ⟨m,⟨o,es,ep,ho,r⟩,_⟩:=id I.loc
 obtain ⟨sl,hL⟩:=u.any ho I.free (by simp)
 exact I.step (g':=s.gens) (d':=s.drawn) (ch:=[]) (λ_ z=>nomatch z) (λb o _ hb _ e n=>u.keep b o e n hb (by simp)) (λb o _ hb _ e n=>u.slot b o e n hb (by simp)) (λb o _ e n=>u.free b o e n (by simp)) (λb o _ e=>u.there b o e (by simp)) u.tups u.frzs u.tbls (λm' hm=>by
  obtain ⟨o',es',ep',ho',r'⟩:=hm
  rw [ho] at ho'; cases ho'
  exact ⟨_,es',ep',hL,r'⟩) hok I.bare
theorem zE.call {g':Array GenState} {t':Nat} {d':Drawn} {ch:List Addr} (I:zE X pins σ H s) (u:Un (yw X.stack) ch H H' s.heap h') (hok:yW X.prog X.w H' h') (hg:AllBare g')
  (hch:∀ b∈ch,(b∈X.ex\/X.s₀.heap.objs.size<=b)/\b≠X.env.locals/\(∀ x c,X.env.cells.lookup x=some c->c≠b)/\∀ p∈X.pn++pins,p.1≠b) :
  zE X pins σ H' { s with heap:=h',gens:=g',drawn:=d',toks:=t' }:=by
 obtain ⟨m,⟨o,es,ep,ho,r⟩,_⟩:=id I.loc
 obtain ⟨sl,hL⟩:=u.any ho I.free λz=>(hch _ z).2.1 rfl
 exact I.step (ch:=ch) hch (λb o hL hb hc e n=>u.keep b o e n (λz=>(List.mem_cons.mp (I.stkSub b z)).elim hL hb) hc) (λb o _ _ hc e n=>u.any e n hc) (λb o hc e n=>u.free b o e n hc) (λb o hc e=>u.there b o e hc) u.tups u.frzs u.tbls (λm' hm=>by
  obtain ⟨o',es',ep',ho',r'⟩:=hm
  rw [ho] at ho'; cases ho'
  exact ⟨_,es',ep',hL,r'⟩) hok hg
theorem zE.turned {t':Nat} {it:Addr} (I:zE X pins σ H s) (k:∀ b o,b≠it->s.heap.get? b=some o->h'.get? b=some o) (hn:H it=none) (hL:it≠X.env.locals)
  (h1:it∈X.ex\/X.s₀.heap.objs.size<=it) (h2:∀ x c,X.env.cells.lookup x=some c->c≠it) (h3:∀ p∈X.pn++pins,p.1≠it):zE X pins σ H { s with heap:=h',toks:=t' }:=by
 have nit:∀ b u,H b=some u->b≠it:=λb u e z=>by rw [z,hn] at e; cases e
 refine I.step (g':=s.gens) (d':=s.drawn) (ch:=[it]) (λb hb=>?_) (λb o _ _ hc e _=>k b o (λz=>hc (by simp [z])) e) (λb o _ _ hc e _=>⟨o.slots,k b o (λz=>hc (by simp [z])) e⟩) (λ_ _ _ _ n=>n)
  (λb o hc e=>⟨o,k b o (λz=>hc (by simp [z])) e⟩) (λ_ _ e=>e) (λ_ _ _ e=>e) (λb ps e=>⟨#[],by rw [e]; simp⟩) (λm hm=>?_) (λb u e=>?_) I.bare
 ·have e:b=it:=by simpa using hb
  subst e
  exact ⟨h1,hL,h2,h3⟩
 ·obtain ⟨o,es,ep,ho,r⟩:=hm
  exact ⟨o,es,ep,k _ o (Ne.symm hL) ho,r⟩
 ·refine (I.hok b u e).stay (λc v hc q=>k c v ?_ q) (λ_ q=>q) λ_ _ q=>q
  rcases hc with z | z
  ·rw [z]; exact nit b u e
  ·exact nit c _ z
theorem zE.tok (I:zE X pins σ H s) (t:Nat):zE X pins σ H { s with toks:=t }:=I.un (h':=s.heap) (t':=t) Un.refl I.hok
theorem zE.kept {t':Nat} (I:zE X pins σ H s) (k:∀ b u,s.heap.get? b=some u->h'.get? b=some u):zE X pins σ H { s with heap:=h',toks:=t' }:=I.un (Un.kept k) (I.hok.kept k)
theorem zE.laid {a:Addr} {o:HO} {t':Nat} (I:zE X pins σ H s) (k:∀ b u,s.heap.get? b=some u->h'.get? b=some u) (hp:s.heap.objs.size<=a) (new:yu X.prog X.w (upd H a o) h' a o) :
  zE X pins σ (upd H a o) { s with heap:=h',toks:=t' }:=I.un (Un.laid k hp (I.hok.fresh hp)) (I.hok.laid k hp new)
theorem zE.write {x e:Addr} {o:HO} {t':Nat} (I:zE X pins σ H s) (mu:jw (H x)) (he:e=x\/H e=some (.own x)) (k:∀ b u,b≠e->s.heap.get? b=some u->h'.get? b=some u) (heo:∃ u,h'.get? e=some u)
  (new:yu X.prog X.w (upd H x o) h' x o):zE X pins σ (upd H x o) { s with heap:=h',toks:=t' }:=I.un (Un.write mu he k heo) (I.hok.write mu he k heo new)
theorem zE.pins_of {pins':List (Addr × Obj)} (I:zE X pins σ H s) (h:∀ p∈pins',s.heap.get? p.1=some p.2/\H p.1=none/\p.1≠X.env.locals/\p.1∉X.fs/\∀ v,p.2.data≠.cell v):zE X pins' σ H s:=
 ⟨I.ok,I.os,I.bare,I.base,I.loc,I.cell,I.free,I.freeC,λp hp=>(List.mem_append.mp hp).elim (λz=>I.pin p (List.mem_append_left _ z)) (h p),I.hok,I.len⟩
theorem qi {N:List Str} (hN:N.Nodup) {i j:Nat} {x:Str} (a:N[i]? = some x) (b:N[j]? = some x):i=j:=by
 obtain ⟨h1,e1⟩:=List.getElem?_eq_some_iff.mp a
 obtain ⟨h2,e2⟩:=List.getElem?_eq_some_iff.mp b
 exact (List.getElem_inj hN).mp (e1.trans e2.symm)
theorem qj {M:Model} {A:Around} {E:Value->Shared->Prop} {i:Nat} {x:Str} {v:V} {u:Value} {Q:Unit->Shared->Prop} (I:zE X pins σ H s) (hN:X.N.Nodup) (hi:X.N[i]? = some x) (hx:jy X.env.scope x) (r:zV v u)
  (h:∀ s',zE X pins (σ.set i (some v)) H s'->(∃ a,Heap.SameBut a s.heap s'.heap/\(a=X.env.locals\/X.env.cells.lookup x=some a))->Q () s') (hf:X.fn x=true\/X.env.scope.names.lookup x=some .local:=by first | exact .inl rfl | exact .inr rfl | assumption):wpAny M A (storeName X.env x u) Q E s:=by
 obtain ⟨m,hn,hl⟩:=id I.loc
 have hcls:(X.env.scope.kind == .class || (X.env.scope.kind == .module && X.env.locals != X.env.globals))=false:=by rw [I.ok.kind]; rfl
 have hiσ:i < σ.length:=by rw [I.len]; exact (List.getElem?_eq_some_iff.mp hi).1
 have cne:=I.cne
 have tracked:∀ {a:Addr} {h':Heap},(∃ o,s.heap.get? a=some o/\H a=none)->Heap.SameBut a s.heap h'->yW X.prog X.w H h':=λ{a h'} ha hs b ob e=>by
  obtain ⟨_,_,hfree⟩:=ha
  refine (I.hok b ob e).stay (λc w' hc q=>(hs.2 c ?_).trans q) (λ_ q=>q) λ_ _ q=>q
  rintro rfl
  rcases hc with rfl | hc
  ·rw [hfree] at e; cases e
  ·rw [hfree] at hc; cases hc
 rcases hx with hk | hk
 ·refine wpAny_storeName_local hk hn (λh' hn' hs=>?_) hcls
  obtain ⟨oL,_,_,hoL,_⟩:=id hn
  refine h _ ⟨I.ok,I.os,I.bare,⟨λb o e n hb hx=>?_,λb o e n hb hx=>?_,I.base.free,λb o e hx=>?_,I.base.tups,I.base.frzs,I.base.tbls⟩,⟨_,hn',λj y v' e1 e2 e3=>?_⟩,λy c e=>?_,I.free,I.freeC,λp hp=>?_,tracked ⟨oL,hoL,I.free⟩ hs,by simpa using I.len⟩ ⟨_,hs,.inl rfl⟩
  ·exact (hs.2 b (Nat.ne_of_lt (Nat.lt_of_lt_of_le (Heap.lt_size e) I.ok.above))).trans (I.base.keep b o e n hb hx)
  ·obtain ⟨sl,e1⟩:=I.base.slot b o e n hb hx
   exact ⟨sl,(hs.2 b (Nat.ne_of_lt (Nat.lt_of_lt_of_le (Heap.lt_size e) I.ok.above))).trans e1⟩
  ·obtain ⟨o',e1⟩:=I.base.there b o e hx
   exact ⟨o',(hs.2 b (Nat.ne_of_lt (Nat.lt_of_lt_of_le (Heap.lt_size e) I.ok.above))).trans e1⟩
  ·by_cases hj:j=i
   ·subst hj
    rw [hi] at e1; cases e1
    rw [List.getElem?_set_self hiσ] at e2
    cases e2
    exact ⟨u,r,.inl ⟨hk,by simp⟩⟩
   ·rw [List.getElem?_set_ne (Ne.symm hj)] at e2
    obtain ⟨u',r',q⟩:=hl j y v' e1 e2 e3
    refine ⟨u',r',?_⟩
    rcases q with ⟨k,e⟩ | ⟨k,c,e,z⟩
    ·refine .inl ⟨k,?_⟩
     have:y≠x:=λe=>hj (qi hN e1 (e ▸ hi))
     simp [this,e]
    ·exact .inr ⟨k,c,e,z.sameBut hs (cne y c e)⟩
  ·obtain ⟨w',z⟩:=I.cell y c e
   exact ⟨w',z.sameBut hs (cne y c e)⟩
  ·obtain ⟨e,n,ne,nf,d⟩:=I.pin p hp
   exact ⟨(hs.2 p.1 ne).trans e,n,ne,nf,d⟩
 ·have hfn:X.fn x=true:=by
   rcases hf with z | z
   ·exact z
   ·rw [z] at hk; cases hk
  obtain ⟨c,hc⟩:=I.ok.has x (.inl hk)
  obtain ⟨w',z⟩:=I.cell x c hc
  refine wpAny_storeName_cell I.ok.kind hk hc z (λh' hc' hs=>?_)
  obtain ⟨oc,hoc,hocd⟩:=id z
  refine h { s with heap:=h' } ⟨I.ok,I.os,I.bare,⟨λb o e n hb hx=>?_,λb o e n hb hx=>?_,I.base.free,λb o e hx=>?_,I.base.tups,I.base.frzs,I.base.tbls⟩,⟨m,hn.sameBut hs (Ne.symm (cne x c hc)),λj y v' e1 e2 e3=>?_⟩,λy c' e=>?_,I.free,I.freeC,λp hp=>?_,tracked ⟨oc,hoc,I.freeC x c hc⟩ hs,by simpa using I.len⟩ ⟨c,hs,.inr hc⟩
  ·exact (hs.2 b (Nat.ne_of_lt (Nat.lt_of_lt_of_le (Heap.lt_size e) (I.ok.cab x c hfn hc)))).trans (I.base.keep b o e n hb hx)
  ·obtain ⟨sl,e1⟩:=I.base.slot b o e n hb hx
   exact ⟨sl,(hs.2 b (Nat.ne_of_lt (Nat.lt_of_lt_of_le (Heap.lt_size e) (I.ok.cab x c hfn hc)))).trans e1⟩
  ·obtain ⟨o',e1⟩:=I.base.there b o e hx
   exact ⟨o',(hs.2 b (Nat.ne_of_lt (Nat.lt_of_lt_of_le (Heap.lt_size e) (I.ok.cab x c hfn hc)))).trans e1⟩
  ·by_cases hj:j=i
   ·subst hj
    rw [hi] at e1; cases e1
    rw [List.getElem?_set_self hiσ] at e2
    cases e2
    exact ⟨u,r,.inr ⟨.inl hk,c,hc,hc'⟩⟩
   ·rw [List.getElem?_set_ne (Ne.symm hj)] at e2
    obtain ⟨u',r',q⟩:=hl j y v' e1 e2 e3
    refine ⟨u',r',?_⟩
    rcases q with q | ⟨k,c',e,z'⟩
    ·exact .inl q
    ·refine .inr ⟨k,c',e,z'.sameBut hs ?_⟩
     rintro rfl
     exact hj (qi hN e1 (I.ok.inj _ _ _ e hc ▸ hi))
  ·by_cases hcc:c'=c
   ·subst hcc; exact ⟨_,hc'⟩
   ·obtain ⟨w2,z2⟩:=I.cell y c' e
    exact ⟨w2,z2.sameBut hs hcc⟩
  ·obtain ⟨e,n,ne,nf,d⟩:=I.pin p hp
   refine ⟨(hs.2 p.1 ?_).trans e,n,ne,nf,d⟩
   intro q
   rw [q,hoc] at e
   have q':oc=p.2:=Option.some.inj e
   exact d w' (by rw [<- q']; exact hocd)
theorem qk {M:Model} {A:Around} {E:Value->Shared->Prop} {i:Nat} {x:Str} {v:V} {u:Value} {Q:Unit->Shared->Prop} (I:zE X pins σ H s) (hN:X.N.Nodup) (hi:X.N[i]? = some x) (hx:jy X.env.scope x) (r:zV v u)
  (h:∀ s',zE X pins (σ.set i (some v)) H s'->Q () s') (hf:X.fn x=true\/X.env.scope.names.lookup x=some .local:=by first | exact .inl rfl | exact .inr rfl | assumption):wpAny M A (storeName X.env x u) Q E s:=
 qj I hN hi hx r (λs' I' _=>h s' I') hf
theorem zE.call' {s':Shared} {ch:List Addr} (I:zE X pins σ H s) (ho:s'.os=s.os) (u:Un (yw X.stack) ch H H' s.heap s'.heap) (hok:yW X.prog X.w H' s'.heap) (hg:AllBare s'.gens)
  (hch:∀ b∈ch,(b∈X.ex\/X.s₀.heap.objs.size<=b)/\b≠X.env.locals/\(∀ x c,X.env.cells.lookup x=some c->c≠b)/\∀ p∈X.pn++pins,p.1≠b):zE X pins σ H' s':=by
 obtain ⟨h',g',d',t',o'⟩:=s'
 have e:o'=s.os:=ho
 subst e
 exact I.call (g':=g') (t':=t') (d':=d') u hok hg hch
end
noncomputable abbrev XK:=Value->Option Addr->Hp->Prop
noncomputable abbrev St:=List (Option V)
noncomputable abbrev VK:=V->Hp->Prop
noncomputable abbrev TE:=St->Hp->VK->Prop
noncomputable abbrev TT:=St->Hp->(Bool->Hp->Prop)->Prop
noncomputable abbrev TA:=St->Hp->(List V->Hp->Prop)->Prop
structure xh where
 nx:St->Hp->Prop
 rt:VK
 bk:St->Hp->Prop:=λ_ _=>False
 ct:St->Hp->Prop:=λ_ _=>False
noncomputable abbrev TS:=xh->St->Hp->Prop
noncomputable def EP (X:Cx) (pins:List (Addr × Obj)) (σ:St) (Q:VK) (u:Value) (s':Shared):Prop:=∃ v H',zE X pins σ H' s'/\zV v u/\Q v H'
noncomputable def TP (X:Cx) (pins:List (Addr × Obj)) (σ:St) (Q:Bool->Hp->Prop) (b:Bool) (s':Shared):Prop:=∃ H',zE X pins σ H' s'/\Q b H'
noncomputable def AP (X:Cx) (pins:List (Addr × Obj)) (σ:St) (Q:List V->Hp->Prop) (us:List Value) (s':Shared):Prop:=∃ vs H',zE X pins σ H' s'/\zN vs us/\Q vs H'
noncomputable def SP (X:Cx) (pins:List (Addr × Obj)) (D:xh) (f:Flow) (s':Shared):Prop:=
 match f with
 | .next=>∃ σ' H',zE X pins σ' H' s'/\D.nx σ' H'
 | .brk=>∃ σ' H',zE X pins σ' H' s'/\D.bk σ' H'
 | .cont=>∃ σ' H',zE X pins σ' H' s'/\D.ct σ' H'
 | .ret u=>∃ v σ' H',zE X pins σ' H' s'/\zV v u/\D.rt v H'
noncomputable def PE (X:Cx) (e:Expr) (t:TE):Prop:=
 ∀ (pins:List (Addr × Obj)) (s:Shared) (σ:St) (H:Hp) (Q:VK),zE X pins σ H s->t σ H Q->wpAny (model X.prog X.w) X.A (eval e X.env) (EP X pins σ Q) X.xe s
noncomputable def PT (X:Cx) (e:Expr) (t:TT):Prop:=
 ∀ (pins:List (Addr × Obj)) (s:Shared) (σ:St) (H:Hp) (Q:Bool->Hp->Prop),zE X pins σ H s->t σ H Q->wpAny (model X.prog X.w) X.A (isTrue e X.env (eval e X.env)) (TP X pins σ Q) X.xe s
noncomputable def PW (X:Cx) (e:Expr) (t:TT):Prop:=
 ∀ (whole:Sem Value) (pins:List (Addr × Obj)) (s:Shared) (σ:St) (H:Hp) (Q:Bool->Hp->Prop),zE X pins σ H s->t σ H Q->wpAny (model X.prog X.w) X.A (isTrue e X.env whole) (TP X pins σ Q) X.xe s
theorem PW.pt {X:Cx} {e:Expr} {t:TT} (h:PW X e t):PT X e t:=h _
noncomputable def PA (X:Cx) (es:List Expr) (t:TA):Prop:=
 ∀ (pos:Pos) (pins:List (Addr × Obj)) (s:Shared) (σ:St) (H:Hp) (Q:List V->Hp->Prop),zE X pins σ H s->t σ H Q->wpAny (model X.prog X.w) X.A (spliced (backTo pos (starEach es X.env))) (AP X pins σ Q) X.xe s
noncomputable def PS (X:Cx) (st:Stmt) (t:TS):Prop:=
 ∀ (pins:List (Addr × Obj)) (s:Shared) (σ:St) (H:Hp) (D:xh),zE X pins σ H s->t D σ H->wpAny (model X.prog X.w) X.A (exec st X.env) (SP X pins D) X.xe s
noncomputable def yi (X:Cx) (st:List Stmt) (t:TS):Prop:=
 ∀ (pins:List (Addr × Obj)) (s:Shared) (σ:St) (H:Hp) (D:xh),zE X pins σ H s->t D σ H->wpAny (model X.prog X.w) X.A (execs st X.env) (SP X pins D) X.xe s
theorem zb {α:Type} {t:Sem α} {Q Q':α->Shared->Prop} {M:Model} {A:Around} {E:Value->Shared->Prop} {s:Shared} (h:wpAny M A t Q E s) (hQ:∀ a s,Q a s->Q' a s):wpAny M A t Q' E s:=wpAny_mono h hQ λ_ _ x=>x
end L2
namespace L2
open PySem PySem.Spec PyProof.Rows
section
variable {X:Cx}
noncomputable def um (i:Nat):TE:=λσ H Q=>∃ v,σ[i]? = some (some v)/\Q v H
noncomputable def tC (v:V):TE:=λ_ H Q=>Q v H
theorem ZB {i:Nat} {x:Str} {pos:Pos} (hN:X.N[i]? = some x) (hv:vt X.env.scope x) (hd:(x == ("__debug__" : Str))=false:=by decide) (hcd:(x == ("__classdict__" : Str))=false:=by decide):PE X (.Name x pos) (um i):=by
 intro pins s σ H Q I h
 obtain ⟨v,e,h⟩:=h
 obtain ⟨m,hn,hl⟩:=I.loc
 obtain ⟨u,r,l⟩:=hl i x v hN e hv
 have fin:EP X pins σ Q u s:=⟨v,H,I,r,h⟩
 rcases l with ⟨hk,hm⟩ | ⟨hk,c,hc,hcell⟩
 ·exact wpAny_Name (wpAny_loadName_local I.ok.kind hk hn hm fin) hd
 ·rcases hk with hk | hk
  ·exact wpAny_Name (wpAny_loadName_cell I.ok.kind hk hc hcell fin) hd
  ·exact wpAny_Name (wpAny_loadName_free I.ok.kind hk hc hcell fin hcd) hd
theorem zK {i j pos}:PE X (.Constant (.int i) j pos) (tC (.int i)):=λ_ _ _ H _ I h=>wpAny_Constant_int ⟨.int i,H,I.tok _,⟨_,rfl⟩,h⟩
theorem wB {b j pos}:PE X (.Constant (.bool b) j pos) (tC (.bl b)):=λ_ _ _ H _ I h=>Constant_bool ⟨.bl b,H,I,rfl,h⟩
theorem wC {j pos}:PE X (.Constant .none j pos) (tC .non):=λ_ _ _ H _ I h=>Constant_none ⟨.non,H,I,rfl,h⟩
theorem xS {x j pos}:PE X (.Constant (.str x) j pos) (tC (.str x)):=λ_ _ _ H _ I h=>Calls.Constant_str ⟨.str x,H,I.tok _,⟨_,rfl⟩,h⟩
noncomputable def Gl (X:Cx) (x:Str):Prop:=X.env.kindOf x=some .globalImplicit
theorem vv {E:Value->Shared->Prop} {pins:List (Addr × Obj)} {s:Shared} {σ:St} {H:Hp} {x:Str} {u:Value} {pos:Pos} {Q:Value->Shared->Prop} (I:zE X pins σ H s) (hg:Gl X x) (hm:X.mg x=some u) (h:Q u s)
  (hd:(x == ("__debug__" : Str))=false:=by decide):wpAny (model X.prog X.w) X.A (eval (.Name x pos) X.env) Q E s:=
 Calls.Name_function_global I.ok.kind hg (Calls.loadGlobal_global (by rw [I.ok.glob]; exact I.mod.glob.keeps I.bk) hm h) hd
theorem jz {E:Value->Shared->Prop} {pins:List (Addr × Obj)} {s:Shared} {σ:St} {H:Hp} {x:Str} {u:Value} {pos:Pos} {Q:Value->Shared->Prop} (I:zE X pins σ H s) (hg:Gl X x) (hm:X.mg x=none) (hv:bootBuiltins x=some u) (h:Q u s)
  (hn:x≠"__name__":=by decide) (hd:(x == ("__debug__" : Str))=false:=by decide):wpAny (model X.prog X.w) X.A (eval (.Name x pos) X.env) Q E s:=by
 obtain ⟨mb,h1,h2⟩:=I.mod.blt
 exact Calls.Name_function_global I.ok.kind hg (Calls.loadGlobal_builtin (by rw [I.ok.glob]; exact I.mod.glob.keeps I.bk) hm (by rw [I.ok.blt]; exact h1.keeps I.bk) ((h2 x hn).trans hv) h) hd
theorem wO {x:Str} {v:V} {u:Value} {pos:Pos} (hg:Gl X x) (hm:X.mg x=some u) (r:zV v u) (hd:(x == ("__debug__" : Str))=false:=by decide):PE X (.Name x pos) (tC v):=
 λ_ _ _ H _ I h=>vv I hg hm ⟨v,H,I,r,h⟩ hd
theorem wP {x:Str} {v:V} {u:Value} {pos:Pos} (hg:Gl X x) (hm:X.mg x=none) (hv:bootBuiltins x=some u) (r:zV v u) (hn:x≠"__name__":=by decide) (hd:(x == ("__debug__" : Str))=false:=by decide):PE X (.Name x pos) (tC v):=
 λ_ _ _ H _ I h=>jz I hg hm hv ⟨v,H,I,r,h⟩ hn hd
variable {a b:Expr} {ta tb:TE} {pos:Pos}
noncomputable def tB (t:TE):TT:=λσ H Q=>t σ H λx H1=>∃ c,x=.bl c/\Q c H1
theorem xq {e:Expr} {t:TE} (h:PE X e t) (he:∀ whole,isTrue e X.env whole=(do let v <- whole; standAt e.pos; holding [v] (truthy v)):=by intro _; rfl):PT X e (tB t):=by
 intro pins s σ H Q I hw
 refine isTrue_plain (zb (h pins s σ H _ I hw) λv s1 ⟨x,H1,I1,r1,q1⟩=>?_) (he _)
 obtain ⟨d,rfl,q⟩:=q1
 cases r1
 exact wpAny_truthy_bool ⟨H1,I1,q⟩
variable {tA tB':TT} {xg:List Expr}
noncomputable def Yr (t u:TT):TT:=λσ H Q=>t σ H λc H1=>if c=true then Q true H1 else u σ H1 Q
noncomputable def qm (t:TT):TT:=λσ H Q=>t σ H λc H1=>Q (!c) H1
theorem vL (ha:PT X a tA):PW X (.BoolOp .Or [a] pos) tA:=by
 intro wh pins s σ H Q I h
 refine isTrue_or (zb (ha pins s σ H Q I h) λc s1 e=>?_)
 cases c with
 | false=>exact isTrue_or_nil e
 | true=>exact e
theorem wt (ha:PT X a tA) (hb:PW X (.BoolOp .Or (b :: xg) pos) tB'):PW X (.BoolOp .Or (a :: b :: xg) pos) (Yr tA tB'):=by
 intro wh pins s σ H Q I h
 refine isTrue_or (zb (ha pins s σ H _ I h) λc s1 ⟨H1,I1,q1⟩=>?_)
 cases c with
 | true=>exact ⟨H1,I1,q1⟩
 | false=>exact hb wh pins s1 σ H1 Q I1 q1
theorem wF (ha:PT X a tA):PT X (.UnaryOp .Not a pos) (qm tA):=by
 intro pins s σ H Q I h
 exact isTrue_not (ha pins s σ H (λc H1=>Q (!c) H1) I h)
noncomputable def uo (ta tb:TE):TE:=λσ H Q=>ta σ H λx H1=>∃ c,x=.bl c/\if c=true then tb σ H1 Q else Q (.bl false) H1
noncomputable def up (ta:TE):TE:=λσ H Q=>ta σ H λx H1=>∃ c,x=.bl c/\Q (.bl (!c)) H1
theorem vx {op} {t:TE} (h:PE X a t):PE X (.BoolOp op [a] pos) t:=λpins s σ H Q I hw=>BoolOp_one (h pins s σ H Q I hw)
theorem wZ (ha:PE X a ta) (hb:PE X (.BoolOp .And (b :: xg) pos) tb):PE X (.BoolOp .And (a :: b :: xg) pos) (uo ta tb):=by
 intro pins s σ H Q I h
 refine BoolOp_and (zb (ha pins s σ H _ I h) λv s1 ⟨x,H1,I1,r1,q1⟩=>?_)
 obtain ⟨c,rfl,q1⟩:=q1
 cases r1
 refine wpAny_truthy_bool ?_
 cases c with
 | true=>exact hb pins s1 σ H1 Q I1 q1
 | false=>exact ⟨.bl false,H1,I1,rfl,q1⟩
theorem Ys (ha:PE X a ta):PE X (.UnaryOp .Not a pos) (up ta):=by
 intro pins s σ H Q I h
 refine UnaryOp_ (zb (ha pins s σ H _ I h) λv s1 ⟨x,H1,I1,r1,q1⟩=>?_)
 obtain ⟨c,rfl,q1⟩:=q1
 cases r1
 exact not_of (wpAny_truthy_bool ⟨.bl (!c),H1,I1,rfl,q1⟩)
end
end L2
namespace L2
open PySem PySem.Spec PyProof.Rows
noncomputable def zM (K:PySem.W.Frag) (H:Hp) (a:Addr) (xs:List V):Prop:=
 Rd H a (.lst xs)∨
  ∃ (o:Obj) (its:Array Value) (n:Nat),K.lookup a=some o/\o.cls=.type "list"/\o.dict=none/\o.data=.seq its n/\its.size<=sizeLine/\zN xs its.toList
noncomputable def yD (K:PySem.W.Frag) (H:Hp) (a:Addr) (xs:List V):Prop:=
 Rd H a (.tup xs)∨
  ∃ (o:Obj) (its:Array Value) (n:Nat),K.lookup a=some o/\o.cls=.type "tuple"/\o.data=.seq its n/\its.size<=sizeLine/\zN xs its.toList
noncomputable def qo:Value->Option V
 | .none=>some .non
 | .bool b=>some (.bl b)
 | .int i _=>some (.int i)
 | .str x _=>some (.str x)
 | .bytes b _=>some (.byt b)
 | .float b _=>some (.flt b)
 | .ref a=>some (.ref a)
 | .type n=>some (.ty n)
 | _=>none
theorem zV.abs {x:V} {u:Value} (r:zV x u):qo u=some x:=by
 cases x with
 | non=>cases r; rfl
 | bl _=>cases r; rfl
 | int _=>obtain ⟨t,rfl⟩:=r; rfl
 | str _=>obtain ⟨t,rfl⟩:=r; rfl
 | byt _=>obtain ⟨t,rfl⟩:=r; rfl
 | flt _=>obtain ⟨t,rfl⟩:=r; rfl
 | ref _=>cases r; rfl
 | ty _=>cases r; rfl
theorem zV.inj {x y:V} {u:Value} (r:zV x u) (q:zV y u):x=y:=Option.some.inj (r.abs.symm.trans q.abs)
theorem zN.inj:∀ {xs ys:List V} {us:List Value},zN xs us->zN ys us->xs=ys
 | _,_,_,.nil,.nil=>rfl
 | _,_,_,.cons r t,.cons r' t'=>by rw [r.inj r',zN.inj t t']
section
variable {X:Cx} {pins:List (Addr × Obj)} {σ:St} {H:Hp} {s:Shared} {a:Addr} {xs ys:List V}
theorem zM.of {K:PySem.W.Frag} (h:H a=some (.lst xs)):zM K H a xs:=.inl (.inl h)
theorem yD.of {K:PySem.W.Frag} (h:H a=some (.tup xs)):yD K H a xs:=.inl (.inl h)
theorem zE.list (I:zE X pins σ H s) (h:zM X.K H a xs):∃ its:List Value,zN xs its/\PlainL s.heap a its.toArray/\xs.length<=sizeLine:=by
 rcases h with h | ⟨o,its,n,hk,hc,hd,hs,hz,r⟩
 ·obtain ⟨z,its,n,r,e⟩:=h.ok I.hok
  exact ⟨its,r,⟨_,n,e,rfl,rfl,rfl⟩,z⟩
 ·refine ⟨its.toList,r,⟨o,n,I.kIn a o hk,hc,hd,by simpa using hs⟩,?_⟩
  have e:=r.length
  simp only [Array.length_toList] at e
  omega
theorem zE.tuple (I:zE X pins σ H s) (h:yD X.K H a xs):∃ its:List Value,zN xs its/\IsTup s.heap a its.toArray/\xs.length<=sizeLine:=by
 rcases h with h | ⟨o,its,n,hk,hc,hs,hz,r⟩
 ·obtain ⟨z,its,r,p⟩:=h.ok I.hok
  exact ⟨its,r,p,z⟩
 ·refine ⟨its.toList,r,⟨o,I.kIn a o hk,hc,n,by simpa using hs⟩,?_⟩
  have e:=r.length
  simp only [Array.length_toList] at e
  omega
theorem zE.list_inj (I:zE X pins σ H s) (h:zM X.K H a xs) (h':zM X.K H a ys):xs=ys:=by
 obtain ⟨its,r,⟨o,n,e,_,_,d⟩,_⟩:=I.list h
 obtain ⟨its',r',⟨o',n',e',_,_,d'⟩,_⟩:=I.list h'
 rw [e] at e'; cases e'
 rw [d] at d'
 injection d' with d1 _
 have:its=its':=by simpa using congrArg Array.toList d1
 subst this
 exact r.inj r'
theorem zE.tuple_inj (I:zE X pins σ H s) (h:yD X.K H a xs) (h':yD X.K H a ys):xs=ys:=by
 obtain ⟨its,r,⟨o,e,_,n,d⟩,_⟩:=I.tuple h
 obtain ⟨its',r',⟨o',e',_,n',d'⟩,_⟩:=I.tuple h'
 rw [e] at e'; cases e'
 rw [d] at d'
 injection d' with d1 _
 have:its=its':=by simpa using congrArg Array.toList d1
 subst this
 exact r.inj r'
end
noncomputable abbrev Cx.wish (X:Cx) (E:Value->Shared->Prop):Cx:={ X with xe:=E }
noncomputable abbrev Cx.nox (X:Cx):Cx:=X.wish λ_ _=>False
theorem Cx.Ok.wish {X:Cx} (ok:X.Ok) (E:Value->Shared->Prop):(X.wish E).Ok:=
 ⟨ok.mod,ok.kind,ok.glob,ok.blt,ok.above,ok.inj,ok.has,ok.cab,ok.hd,ok.frames,ok.stk,ok.exf,ok.bs,ok.bsz,ok.noex,ok.exfs,ok.funs,ok.frf⟩
theorem Cx.Ok.unwish {X:Cx} {E:Value->Shared->Prop} (ok:(X.wish E).Ok):X.Ok:=
 ⟨ok.mod,ok.kind,ok.glob,ok.blt,ok.above,ok.inj,ok.has,ok.cab,ok.hd,ok.frames,ok.stk,ok.exf,ok.bs,ok.bsz,ok.noex,ok.exfs,ok.funs,ok.frf⟩
section
variable {X:Cx} {pins:List (Addr × Obj)} {σ:St} {H:Hp} {s:Shared} {E:Value->Shared->Prop}
theorem zE.wish (I:zE X pins σ H s) (E:Value->Shared->Prop):zE (X.wish E) pins σ H s:=⟨I.ok.wish E,I.os,I.bare,I.base,I.loc,I.cell,I.free,I.freeC,I.pin,I.hok,I.len⟩
theorem zE.unwish (I:zE (X.wish E) pins σ H s):zE X pins σ H s:=⟨I.ok.unwish,I.os,I.bare,I.base,I.loc,I.cell,I.free,I.freeC,I.pin,I.hok,I.len⟩
theorem SP.unwish {D:xh} {f:Flow} {s':Shared} (h:SP (X.wish E) pins D f s'):SP X pins D f s':=by
 cases f with
 | next=>obtain ⟨σ',H',I,q⟩:=h; exact ⟨σ',H',I.unwish,q⟩
 | brk=>obtain ⟨σ',H',I,q⟩:=h; exact ⟨σ',H',I.unwish,q⟩
 | cont=>obtain ⟨σ',H',I,q⟩:=h; exact ⟨σ',H',I.unwish,q⟩
 | ret u=>obtain ⟨v,σ',H',I,r,q⟩:=h; exact ⟨v,σ',H',I.unwish,r,q⟩
theorem PE.nox {e:Expr} {t:TE} (h:PE X.nox e t):PE X e t:=λpins s σ H Q I hw=>
 wpAny_mono (h pins s σ H Q (I.wish _) hw) (λ_ _ ⟨v,H',I',r,q⟩=>⟨v,H',I'.unwish,r,q⟩) λ_ _ z=>False.elim z
theorem PT.nox {e:Expr} {t:TT} (h:PT X.nox e t):PT X e t:=λpins s σ H Q I hw=>
 wpAny_mono (h pins s σ H Q (I.wish _) hw) (λ_ _ ⟨H',I',q⟩=>⟨H',I'.unwish,q⟩) λ_ _ z=>False.elim z
theorem yi.nox {st:List Stmt} {t:TS} (h:yi X.nox st t):yi X st t:=λpins s σ H D I hw=>
 wpAny_mono (h pins s σ H D (I.wish _) hw) (λ_ _ q=>q.unwish) λ_ _ z=>False.elim z
end
section
variable {X:Cx} {st:Stmt} {xg:List Stmt} {t u:TS} {e:Expr} {te:TE} {pos:Pos}
noncomputable def uq:TS:=λD σ H=>D.nx σ H
noncomputable def qp (t u:TS):TS:=λD σ H=>t { D with nx:=u D } σ H
theorem yY:yi X [] uq:=λ_ _ σ H _ I h=>wpAny_execs_nil ⟨σ,H,I,h⟩
theorem za (h1:PS X st t) (h2:yi X xg u):yi X (st :: xg) (qp t u):=by
 intro pins s σ H D I h
 refine wpAny_execs_cons (zb (h1 pins s σ H { D with nx:=u D } I h) λf s1 q=>?_)
 cases f with
 | next=>
  obtain ⟨σ',H',I',q⟩:=q
  exact h2 pins s1 σ' H' D I' q
 | ret v=>exact q
 | brk=>exact q
 | cont=>exact q
theorem zf (h1:PS X st t):yi X [st] t:=by
 intro pins s σ H D I h
 refine wpAny_execs_cons (zb (h1 pins s σ H D I h) λf s1 q=>?_)
 cases f with
 | next=>exact wpAny_execs_nil q
 | ret v=>exact q
 | brk=>exact q
 | cont=>exact q
theorem zE.quiet {pins:List (Addr × Obj)} {σ:St} {H:Hp} {s:Shared} (I:zE X pins σ H s):interactive X.env=false:=by simp [interactive,I.ok.kind]
noncomputable def ur (te:TE):TS:=λD σ H=>te σ H λ_ H1=>D.nx σ H1
theorem ZC (he:PE X e te) (hs:swapsWith e none pos.line X.env=pure false:=by rfl):PS X (.Expr e pos) (ur te):=by
 intro pins s σ H D I h
 exact wpAny_Expr_any (zb (he pins s σ H _ I h) λv s1 ⟨x,H1,I1,r1,q1⟩=>⟨σ,H1,I1,q1⟩) I.quiet hs
noncomputable def qq (te:TE):TS:=λD σ H=>te σ H D.rt
theorem zk (he:PE X e te):PS X (.Return (some e) pos) (qq te):=by
 intro pins s σ H D I h
 exact wpAny_Return_some (zb (he pins s σ H _ I h) λv s1 ⟨x,H1,I1,r1,q1⟩=>⟨x,σ,H1,I1,r1,q1⟩)
noncomputable def qr (c:TT) (t u:TS):TS:=λD σ H=>c σ H λb H1=>if b=true then t D σ H1 else u D σ H1
theorem yZ {c:Expr} {a b:List Stmt} {tc:TT} (hc:PT X c tc) (ha:yi X a t) (hb:yi X b u):PS X (.If c a b pos) (qr tc t u):=by
 intro pins s σ H D I h
 refine wpAny_If (zb (hc pins s σ H _ I h) λd s1 ⟨H1,I1,q1⟩=>?_)
 cases d with
 | true=>exact ha pins s1 σ H1 D I1 q1
 | false=>exact hb pins s1 σ H1 D I1 q1
end
noncomputable abbrev TG:=V->St->Hp->(St->Hp->Prop)->Prop
noncomputable abbrev vM:=List V->St->Hp->(St->Hp->Prop)->Prop
noncomputable def PG (X:Cx) (target:Expr) (t:TG):Prop:=
 ∀ (pins:List (Addr × Obj)) (s:Shared) (σ:St) (H:Hp) (v:V) (u:Value) (Q:St->Hp->Prop),zE X pins σ H s->zV v u->t v σ H Q->
  wpAny (model X.prog X.w) X.A (assign target X.env u) (λ_ s'=>∃ σ' H',zE X pins σ' H' s'/\Q σ' H') X.xe s
noncomputable def ut (X:Cx) (ts:List Expr) (t:vM):Prop:=
 ∀ (pins:List (Addr × Obj)) (s:Shared) (σ:St) (H:Hp) (vs:List V) (us:List Value) (Q:St->Hp->Prop),zE X pins σ H s->zN vs us->t vs σ H Q->
  wpAny (model X.prog X.w) X.A (assignInOrder ((assignEach ts X.env).map (·.2)) us) (λ_ s'=>∃ σ' H',zE X pins σ' H' s'/\Q σ' H') X.xe s
section
variable {X:Cx} {pos:Pos}
noncomputable def j3 (i:Nat):TG:=λv σ H Q=>Q (σ.set i (some v)) H
theorem yg {i:Nat} {x:Str} (hN:X.N.Nodup) (hi:X.N[i]? = some x) (hx:jy X.env.scope x) (hf:X.fn x=true\/X.env.scope.names.lookup x=some .local:=by first | exact .inl rfl | exact .inr rfl | assumption):PG X (.Name x pos) (j3 i):=by
 intro pins s σ H v u Q I r h
 exact wpAny_assign_Name (qk I hN hi hx r (λs' I'=>⟨_,H,I',h⟩) hf)
noncomputable def qt:vM:=λvs σ H Q=>vs=[]/\Q σ H
noncomputable def uu (t:TG) (u:vM):vM:=λvs σ H Q=>∃ v r,vs=v :: r/\t v σ H λσ' H'=>u r σ' H' Q
theorem ZD:ut X [] qt:=by
 intro pins s σ H vs us Q I r h
 obtain ⟨e,h⟩:=h
 subst e
 cases r
 exact assignInOrder_nil ⟨σ,H,I,h⟩
theorem vg {e:Expr} {es:List Expr} {t:TG} {u:vM} (h1:PG X e t) (h2:ut X es u)
  (hs:(assignEach (e :: es) X.env).map (·.2)=assign e X.env :: (assignEach es X.env).map (·.2):=by rfl):ut X (e :: es) (uu t u):=by
 intro pins s σ H vs us Q I r h
 obtain ⟨v,vr,e1,h⟩:=h
 subst e1
 cases r with
 | cons r rr=>
  rw [hs]
  refine assignInOrder_cons (zb (h1 pins s σ H _ _ _ I r h) λ_ s1 ⟨σ1,H1,I1,q1⟩=>?_)
  exact h2 pins s1 σ1 H1 _ _ Q I1 rr q1
noncomputable def qu (K:PySem.W.Frag) (n:Nat) (t:vM):TG:=λv σ H Q=>∃ a xs,v=.ref a/\yD K H a xs/\xs.length=n/\t xs σ H Q
theorem Yt {es:List Expr} {k:Nat} {t:vM} {n:Nat} (hc:X.calm=true) (h:ut X es t)
  (hn:(assignEach es X.env).length=n:=by rfl) (hst:(assignEach es X.env).findIdx? (·.1)=none:=by rfl):PG X (.Tuple es k pos) (qu X.K n t):=by
 intro pins s σ H v u Q I r hw
 obtain ⟨a,xs,e1,hq,hl,hw⟩:=hw
 subst e1
 cases r
 obtain ⟨its,rv,ht,hz⟩:=I.tuple hq
 refine assign_Tuple_tuple (I.ok.hd hc) ht (by simp [hn,<- hl,rv.length]) hst λh' hx=>?_
 have I1:zE X pins σ H { s with heap:=h' }:=I.kept (t':=s.toks) λb o e=>hx b o (Nat.ne_of_lt (Heap.lt_size e)) e
 exact h pins _ σ H xs _ Q I1 (by simpa using rv) hw
noncomputable def vN (te:TE) (g:TG):TS:=λD σ H=>te σ H λx H1=>g x σ H1 D.nx
theorem ZE {tg e:Expr} {te:TE} {g:TG} (he:PE X e te) (hg:PG X tg g) (hs:swapsWithSole [tg] e pos.line X.env=pure false:=by rfl) (hw:swappedStores [tg] e X.env=pure none:=by rfl)
  (h1:(assignEach [tg] X.env).map (·.2)=[assign tg X.env]:=by rfl):PS X (.Assign [tg] e pos) (vN te g):=by
 intro pins s σ H D I h
 refine wpAny_Assign_stores (zb (he pins s σ H _ I h) λv s1 ⟨x,H1,I1,r1,q1⟩=>?_) hs hw
 rw [h1]
 exact zb (hg pins s1 σ H1 x v _ I1 r1 q1) λ_ s2 q=>q
theorem ya {i:Nat} {x:Str} {e:Expr} {te:TE} {pos':Pos} (hN:X.N.Nodup) (hi:X.N[i]? = some x) (hx:jy X.env.scope x) (he:PE X e te) (hs:swapsWith e (some (.Name x pos')) pos.line X.env=pure false:=by rfl) (hf:X.fn x=true\/X.env.scope.names.lookup x=some .local:=by first | exact .inl rfl | exact .inr rfl | assumption) :
  PS X (.Assign [.Name x pos'] e pos) (vN te (j3 i)):=by
 intro pins s σ H D I h
 refine wpAny_Assign_Name (zb (he pins s σ H _ I h) λv s1 ⟨y,H1,I1,r1,q1⟩=>?_) hs
 exact qk I1 hN hi hx r1 (λs2 I2=>⟨_,H1,I2,q1⟩) hf
end
section
variable {X:Cx} {pos:Pos}
end
structure It where
 go:Nat->Hp->Prop
 yld:Nat->Hp->V->Hp->Prop
 stop:Nat->Hp->Prop
noncomputable def zp (X:Cx) (pins:List (Addr × Obj)) (H:Hp) (b:Addr):Prop:=
 H b=none/\b≠X.env.locals/\b∉X.fs/\(b∈X.ex\/X.s₀.heap.objs.size<=b)/\(∀ x c,X.env.cells.lookup x=some c->c≠b)/\∀ p∈X.pn++pins,p.1≠b
theorem zE.fpOk {X:Cx} {pins:List (Addr × Obj)} {σ:St} {H H':Hp} {s:Shared} {b:Addr} (I:zE X pins σ H s) (hb:s.heap.objs.size<=b) (hn:H' b=none):zp X pins H' b:=by
 refine ⟨hn,Nat.ne_of_gt (Nat.lt_of_lt_of_le I.lt hb),I.nofs hb,.inr (Nat.le_trans I.sz hb),λx c e z=>?_,λp hp z=>?_⟩
 ·obtain ⟨v,q⟩:=I.cell x c e
  exact absurd (Nat.lt_of_lt_of_le q.lt (by rw [z]; exact hb)) (Nat.lt_irrefl _)
 ·exact absurd (Nat.lt_of_lt_of_le (Heap.lt_size (I.pin p hp).1) (by rw [z]; exact hb)) (Nat.lt_irrefl _)
structure wG (P:Program) (w:World) (K:PySem.W.Frag) (tg:Expr) (J:It) (fp:List Addr) (it:Addr) (tn:Nat->Heap->Prop):Prop where
 mem:it∈fp
 obj:∀ i h,tn i h->∀ b∈fp,∃ o,h.get? b=some o/\∀ v,o.data≠.cell v
 keep:∀ i h h',tn i h->(∀ b∈fp,∀ o,h.get? b=some o->h'.get? b=some o)->tn i h'
 item:∀ (X:Cx),X.prog=P->X.w=w->X.K=K->X.calm=true->∀ (i:Nat) (pins:List (Addr × Obj)) (s:Shared) (σ:St) (H:Hp) (E:Value->Shared->Prop),zE X pins σ H s->(∀ b∈fp,zp X pins H b)->tn i s.heap->J.go i H->
  wpAny (model P w) X.A (pyNext (.ref it)) (λr s1=>∃ u,r=some u∧
   wpAny (model P w) X.A (letOwnedTupleGo tg (.ref it) u) (λ_ s2=>∃ x H',zE X pins σ H' s2/\zV x u/\J.yld i H x H'/\tn (i + 1) s2.heap/\∀ b∈fp,H' b=none) E s1) E s
 done:∀ (X:Cx),X.prog=P->X.w=w->X.K=K->X.calm=true->∀ (i:Nat) (pins:List (Addr × Obj)) (s:Shared) (σ:St) (H:Hp) (E:Value->Shared->Prop),zE X pins σ H s->(∀ b∈fp,zp X pins H b)->tn i s.heap->J.stop i H->
  wpAny (model P w) X.A (pyNext (.ref it)) (λr s1=>r=none/\zE X pins σ H s1) E s
 self:∀ (A:Around) (i:Nat) (s:Shared) (Q:Value->Shared->Prop) (E:Value->Shared->Prop),tn i s.heap->Q (.ref it) s->wpAny (model P w) A (pyIter (.ref it)) Q E s
noncomputable abbrev TI:=St->Hp->(It->Hp->Prop)->Prop
noncomputable def ZF (X:Cx) (pins:List (Addr × Obj)) (σ:St) (tg:Expr) (R:It->Hp->Prop) (itv:Value) (s2:Shared):Prop:=
 ∃ (it:Addr) (fp:List Addr) (tn:Nat->Heap->Prop) (J:It) (H':Hp),itv=.ref it/\zE X pins σ H' s2/\wG X.prog X.w X.K tg J fp it tn/\tn 0 s2.heap/\(∀ b∈fp,zp X pins H' b)/\R J H'
noncomputable def PI (X:Cx) (tg iter:Expr) (wi:TI):Prop:=
 ∀ (pins:List (Addr × Obj)) (s:Shared) (σ:St) (H:Hp) (R:It->Hp->Prop),zE X pins σ H s->wi σ H R->
  wpAny (model X.prog X.w) X.A (eval iter X.env) (λv s1=>wpAny (model X.prog X.w) X.A (pyIter v) (ZF X pins σ tg R) X.xe s1) X.xe s
theorem j4 {M:Model} {A:Around} {E:Value->Shared->Prop} {s:Shared} {tg:Expr} {it:Addr} {u:Value} {o:Obj} {n:String} {vs:Array Value} {Q:Unit->Shared->Prop} (ho:s.heap.get? it=some o) (hc:o.cls=.type n) (hd:o.data=.fields vs)
  (hn:["enumerate","zip","dict_itemiterator","dict_reverseitemiterator","odict_iterator","itertools.zip_longest","itertools.pairwise"].contains n=false) (hQ:Q () s):wpAny M A (letOwnedTupleGo tg (.ref it) u) Q E s:=by
 unfold letOwnedTupleGo
 cases tg <;> first
  | exact wpAny_pure hQ
  | (cases u <;> first
    | exact wpAny_pure hQ
    | (refine wpAny_bind (wpAny_load ho ?_)
       rw [hc,hd]
       show wpAny M A (if (["enumerate","zip","dict_itemiterator","dict_reverseitemiterator","odict_iterator","itertools.zip_longest","itertools.pairwise"].contains n && vs[0]? == some (rawInt _))=true then _ else _) Q E s
       rw [if_neg (by intro h; rw [hn,Bool.false_and] at h; cases h)]
       exact wpAny_pure hQ))
noncomputable def uv (K:PySem.W.Frag) (a:Addr):It:=
 ⟨λi H=>∃ xs x,zM K H a xs/\xs[i]? = some x,λi H x H'=>H'=H/\∀ xs,zM K H a xs->xs[i]? = some x,λi H=>∃ xs,zM K H a xs/\xs.length<=i⟩
noncomputable def qv (K:PySem.W.Frag) (a:Addr):It:=
 ⟨λi H=>∃ xs x,yD K H a xs/\xs[i]? = some x,λi H x H'=>H'=H/\∀ xs,yD K H a xs->xs[i]? = some x,λi H=>∃ xs,yD K H a xs/\xs.length<=i⟩
noncomputable def vy (lo:Int) (n:Nat):It:=⟨λi _=>i < n,λi H x H'=>H'=H/\x=.int (lo + i),λi _=>n<=i⟩
theorem Yu {P:Program} {w:World} {K:PySem.W.Frag} {tg:Expr} (a it:Addr):wG P w K tg (uv K a) [it] it (λi h=>h.IsListIter it a i) where
 mem:=by simp
 obj:=λi h st b hb=>by
  have e:b=it:=by simpa using hb
  subst e
  obtain ⟨o,e,c,d⟩:=st
  exact ⟨o,e,λv z=>by rw [d] at z; cases z⟩
 keep:=λi h h' st k=>st.at λo e=>k it (by simp) o e
 item:=by
  intro X hP hw hK hc i pins s σ H E I hf st hg
  subst hP hw hK
  obtain ⟨xs,x,hq,hx⟩:=hg
  obtain ⟨its,rv,p,hz⟩:=I.list hq
  obtain ⟨u,hu,ru⟩:=rv.get hx
  obtain ⟨f0,f1,f2,f3,f4,f5⟩:=hf it (by simp)
  refine wpAny_pyNext_list_item st p.isList (x:=u) (by simpa using hu) λh' st' sb=>?_
  have I1:zE X pins σ H { s with heap:=h' }:=I.turned (t':=s.toks) (λb o hb e=>(sb.2 b hb).trans e) f0 f1 f3 f4 f5
  obtain ⟨o,e,c,d⟩:=id st'
  exact ⟨u,rfl,j4 (s:={ s with heap:=h' }) e c d (by decide) ⟨x,H,I1,ru,⟨rfl,λys hy=>by rw [I.list_inj hy hq]; exact hx⟩,st',λb hb=>(hf b hb).1⟩⟩
 done:=by
  intro X hP hw hK hc i pins s σ H E I hf st hg
  subst hP hw hK
  obtain ⟨xs,hq,hx⟩:=hg
  obtain ⟨its,rv,p,hz⟩:=I.list hq
  obtain ⟨f0,f1,f2,f3,f4,f5⟩:=hf it (by simp)
  have hl:=rv.length
  exact wpAny_pyNext_list_end (I.ok.hd hc) st p.isList (by simp; omega) λh' eb=>⟨rfl,I.turned (t':=s.toks) (λb o hb e=>eb b o hb e) f0 f1 f3 f4 f5⟩
 self:=λ_ _ _ _ _ st h=>wpAny_pyIter_listiter st h
theorem Yv {P:Program} {w:World} {K:PySem.W.Frag} {tg:Expr} (a it:Addr):wG P w K tg (qv K a) [it] it (λi h=>h.IsTupleIter it a i) where
 mem:=by simp
 obj:=λi h st b hb=>by
  have e:b=it:=by simpa using hb
  subst e
  obtain ⟨o,e,c,d⟩:=st
  exact ⟨o,e,λv z=>by rw [d] at z; cases z⟩
 keep:=λi h h' st k=>st.at λo e=>k it (by simp) o e
 item:=by
  intro X hP hw hK hc i pins s σ H E I hf st hg
  subst hP hw hK
  obtain ⟨xs,x,hq,hx⟩:=hg
  obtain ⟨its,rv,p,hz⟩:=I.tuple hq
  obtain ⟨u,hu,ru⟩:=rv.get hx
  obtain ⟨f0,f1,f2,f3,f4,f5⟩:=hf it (by simp)
  refine wpAny_pyNext_tuple_item st (show s.heap.IsTuple a its.toArray from p) (x:=u) (by simpa using hu) λh' st' sb=>?_
  have I1:zE X pins σ H { s with heap:=h' }:=I.turned (t':=s.toks) (λb o hb e=>(sb.2 b hb).trans e) f0 f1 f3 f4 f5
  obtain ⟨o,e,c,d⟩:=id st'
  exact ⟨u,rfl,j4 (s:={ s with heap:=h' }) e c d (by decide) ⟨x,H,I1,ru,⟨rfl,λys hy=>by rw [I.tuple_inj hy hq]; exact hx⟩,st',λb hb=>(hf b hb).1⟩⟩
 done:=by
  intro X hP hw hK hc i pins s σ H E I hf st hg
  subst hP hw hK
  obtain ⟨xs,hq,hx⟩:=hg
  obtain ⟨its,rv,p,hz⟩:=I.tuple hq
  obtain ⟨f0,f1,f2,f3,f4,f5⟩:=hf it (by simp)
  have hl:=rv.length
  exact wpAny_pyNext_tuple_end (I.ok.hd hc) st (show s.heap.IsTuple a its.toArray from p) (by simp; omega) λh' eb=>⟨rfl,I.turned (t':=s.toks) (λb o hb e=>eb b o hb e) f0 f1 f3 f4 f5⟩
 self:=λ_ _ _ _ _ st h=>wpAny_pyIter_tupleiter st h
theorem Yx {P:Program} {w:World} {K:PySem.W.Frag} {tg:Expr} (it:Addr) (lo:Int) (n:Nat):wG P w K tg (vy lo n) [it] it (λi h=>IsRangeIter h it (lo + (i:Nat) * 1) ((n:Int) - (i:Nat)) 1) where
 mem:=by simp
 obj:=λi h st b hb=>by
  have e:b=it:=by simpa using hb
  subst e
  exact ⟨_,st,λv z=>by
   have z':Data.fields _=Data.cell v:=z
   cases z'⟩
 keep:=λi h h' st k=>k it (by simp) _ st
 item:=by
  intro X hP hw hK hc i pins s σ H E I hf st hg
  subst hP hw hK
  obtain ⟨f0,f1,f2,f3,f4,f5⟩:=hf it (by simp)
  have W:=Walks.range (prog:=X.prog) (w:=X.w) (I.ok.hd hc) it lo 1 n
  refine W.item i s _ _ hg st λv h' tk hv st' kk=>?_
  obtain ⟨t,rfl⟩:=hv
  have I1:zE X pins σ H { s with heap:=h',toks:=tk }:=I.turned (λb o hb e=>kk b o (by simpa using hb) e) f0 f1 f3 f4 f5
  refine ⟨_,rfl,j4 (s:={ s with heap:=h',toks:=tk }) (n:="range_iterator") st' rfl rfl (by decide) ⟨.int (lo + i),H,I1,⟨t,?_⟩,⟨rfl,rfl⟩,st',λb hb=>(hf b hb).1⟩⟩
  rw [Int.mul_one]
 done:=by
  intro X hP hw hK hc i pins s σ H E I hf st hg
  subst hP hw hK
  obtain ⟨f0,f1,f2,f3,f4,f5⟩:=hf it (by simp)
  exact wpAny_pyNext_range_end (I.ok.hd hc) st (by have:n<=i:=hg; omega) λh' eb=>⟨rfl,I.turned (t':=s.toks) (λb o hb e=>eb b o hb e) f0 f1 f3 f4 f5⟩
 self:=λ_ _ _ _ _ st h=>wpAny_pyIter_rangeiter st h
end L2
namespace L2
open PySem PySem.Spec PyProof.Rows
section
variable {X:Cx} {tg:Expr}
noncomputable def ZG (K:PySem.W.Frag) (tl:TE):TI:=λσ H R=>tl σ H λx H1=>∃ a,x=.ref a/\(∃ xs,zM K H1 a xs)/\R (uv K a) H1
noncomputable def qw (K:PySem.W.Frag) (tl:TE):TI:=λσ H R=>tl σ H λx H1=>∃ a,x=.ref a/\(∃ xs,yD K H1 a xs)/\R (qv K a) H1
theorem wu {l:Expr} {tl:TE} (hl:PE X l tl):PI X tg l (ZG X.K tl):=by
 intro pins s σ H R I h
 refine zb (hl pins s σ H _ I h) λv s1 ⟨x,H1,I1,r1,q1⟩=>?_
 obtain ⟨a,e,⟨xs,hq⟩,q⟩:=q1
 subst e
 cases r1
 obtain ⟨its,rv,p,hz⟩:=I1.list hq
 refine wpAny_pyIter_list p.isList ?_
 refine ⟨s1.heap.objs.size,[s1.heap.objs.size],_,_,H1,rfl,I1.kept (t':=s1.toks) λb o e=>Heap.get?_push_of_some _ e,Yu a _,⟨_,Heap.get?_push_size _ rfl,rfl,rfl⟩,λb hb=>?_,q⟩
 have e:b=s1.heap.objs.size:=by simpa using hb
 subst e
 exact I1.fpOk (Nat.le_refl _) (I1.hok.fresh (Nat.le_refl _))
theorem ZH {l:Expr} {tl:TE} (hl:PE X l tl):PI X tg l (qw X.K tl):=by
 intro pins s σ H R I h
 refine zb (hl pins s σ H _ I h) λv s1 ⟨x,H1,I1,r1,q1⟩=>?_
 obtain ⟨a,e,⟨xs,hq⟩,q⟩:=q1
 subst e
 cases r1
 obtain ⟨its,rv,p,hz⟩:=I1.tuple hq
 refine wpAny_pyIter_tuple (show s1.heap.IsTuple a its.toArray from p) ?_
 refine ⟨s1.heap.objs.size,[s1.heap.objs.size],_,_,H1,rfl,I1.kept (t':=s1.toks) λb o e=>Heap.get?_push_of_some _ e,Yv a _,⟨_,Heap.get?_push_size _ rfl,rfl,rfl⟩,λb hb=>?_,q⟩
 have e:b=s1.heap.objs.size:=by simpa using hb
 subst e
 exact I1.fpOk (Nat.le_refl _) (I1.hok.fresh (Nat.le_refl _))
theorem Yy {pins:List (Addr × Obj)} {σ:St} {H:Hp} {s:Shared} {R:It->Hp->Prop} {E:Value->Shared->Prop} {lo hi:Int} {t u v:Tok} {tk:Nat} (I:zE X pins σ H s) (h1 : -(2 ^ 62)<=lo) (h2:lo < 2 ^ 62) (h3 : -(2 ^ 62)<=hi) (h4:hi < 2 ^ 62)
  (q:R (vy lo (hi - lo).toNat) H):wpAny (model X.prog X.w) X.A (pyIter (.ref s.heap.objs.size)) (ZF X pins σ tg R) E { s with heap:=s.heap.push { cls:=.type "range",data:=.fields #[.int lo t,.int hi u,.int 1 v] },toks:=tk }:=by
 refine wpAny_pyIter_range (IsRange.new ..) (small_one h1 h2 h3 h4) ?_
 have I1:zE X pins σ H { s with heap:=s.heap.push { cls:=.type "range",data:=.fields #[.int lo t,.int hi u,.int 1 v] },toks:=tk }:=I.kept λb o e=>Heap.get?_push_of_some _ e
 refine ⟨(s.heap.push { cls:=.type "range",data:=.fields #[.int lo t,.int hi u,.int 1 v] }).objs.size,[(s.heap.push { cls:=.type "range",data:=.fields #[.int lo t,.int hi u,.int 1 v] }).objs.size],_,_,H,rfl,
  I1.kept (t':=tk) λb o e=>Heap.get?_push_of_some _ e,Yx _ lo (hi - lo).toNat,?_,λb hb=>?_,q⟩
 ·have e1:lo + ((0:Nat):Int) * 1=lo:=by simp
  have e2:(((hi - lo).toNat:Nat):Int) - ((0:Nat):Int)=Builtin.Range.rangeSize lo hi 1:=by rw [rangeSize_one]; split <;> omega
  show IsRangeIter _ _ (lo + ((0:Nat):Int) * 1) ((((hi - lo).toNat:Nat):Int) - ((0:Nat):Int)) 1
  rw [e1,e2]
  exact Heap.get?_push_size _ rfl
 ·have e:b=(s.heap.push { cls:=.type "range",data:=.fields #[.int lo t,.int hi u,.int 1 v] }).objs.size:=by simpa using hb
  subst e
  exact I1.fpOk (Nat.le_refl _) (I1.hok.fresh (Nat.le_refl _))
noncomputable def uw (ta:TA):TI:=λσ H R=>ta σ H λvs H1=>∃ j:Int,vs=[.int j]/\-(2 ^ 62)<=j/\j < 2 ^ 62/\R (vy 0 j.toNat) H1
theorem vO {a:Expr} {ta:TA} {p pos:Pos} (hg:Gl X "range") (hm:X.mg "range" = none) (ha:PA X [a] ta) (hs:starEach [a] X.env=[(false,eval a X.env)]:=by rfl):PI X tg (.Call (.Name "range" p) [a] [] pos) (uw ta):=by
 intro pins s σ H R I h
 refine Call_ (jz I hg hm boot_range (PyProof.Rows.callWith_type1 (zb (ha pos pins s σ H _ I h) λus s1 ⟨vs,H1,I1,r1,q1⟩=>?_) hs rfl))
 obtain ⟨j,e,q1,q2,q⟩:=q1
 subst e
 cases r1 with
 | cons r rr=>
  cases rr
  obtain ⟨t,rfl⟩:=r
  exact call_range_1 (Yy I1 (by omega) (by omega) q1 q2 (by simpa using q))
noncomputable def gA (wi:TI) (g:TG) (tb:TS):TS:=λD σ H=>wi σ H λJ H1=>∃ W:Nat->Nat->St->Hp->Prop,(∃ m,W 0 m σ H1)/\∀ i m σ H,W i m σ H->
 (J.stop i H/\D.nx σ H)\/(J.go i H/\∃ N:St->Hp->Prop,(∀ σ' H',N σ' H'->∃ m',m' < m/\W (i + 1) m' σ' H')/\∀ x H',J.yld i H x H'->g x σ H' λσ2 H2=>tb { D with nx:=N,ct:=N,bk:=D.nx } σ2 H2)
noncomputable def vz (fp:List Addr) (h:Heap):List (Addr × Obj):=fp.filterMap λb=>(h.get? b).map λo=>(b,o)
theorem wv {fp:List Addr} {h:Heap} {b:Addr} {o:Obj} (hb:b∈fp) (e:h.get? b=some o):(b,o)∈vz fp h:=List.mem_filterMap.mpr ⟨b,hb,by rw [e]; rfl⟩
theorem Yz {fp:List Addr} {h:Heap} {p:Addr × Obj} (hp:p∈vz fp h):p.1∈fp/\h.get? p.1=some p.2:=by
 obtain ⟨b,hb,e⟩:=List.mem_filterMap.mp hp
 cases q:h.get? b with
 | none=>rw [q] at e; cases e
 | some o=>
  rw [q] at e
  have e':(b,o)=p:=Option.some.inj e
  subst e'
  exact ⟨hb,q⟩
theorem zE.pinned {pins:List (Addr × Obj)} {σ:St} {H:Hp} {s:Shared} {fp:List Addr} (I:zE X pins σ H s) (hf:∀ b∈fp,zp X pins H b) (ho:∀ b∈fp,∃ o,s.heap.get? b=some o/\∀ v,o.data≠.cell v):zE X (pins++vz fp s.heap) σ H s:=
 I.pins_of λp hp=>(List.mem_append.mp hp).elim (λz=>I.pin p (List.mem_append_right _ z)) λz=>by
  obtain ⟨hb,e⟩:=Yz z
  obtain ⟨f0,f1,f2,_⟩:=hf p.1 hb
  obtain ⟨o,e',d⟩:=ho p.1 hb
  rw [e] at e'; cases e'
  exact ⟨e,f0,f1,f2,d⟩
theorem zE.unpinned {pins pl:List (Addr × Obj)} {σ:St} {H:Hp} {s:Shared} (I:zE X (pins++pl) σ H s):zE X pins σ H s:=I.pins_of λp hp=>I.pin p (List.mem_append_right _ (List.mem_append_left _ hp))
theorem gB {iter:Expr} {body:List Stmt} {wi:TI} {g:TG} {tb:TS} {pos:Pos} (hp:PassesOwn (model X.prog X.w) X.A X.env X.xe) (hc:X.calm=true) (hi:PI X tg iter wi) (hg:PG X tg g) (hb:yi X body tb)
  (hs:∀ x,foldedSetIterable iter X.env x=pure x:=by intro _; rfl):PS X (.For tg iter body [] pos) (gA wi g tb):=by
 intro pins s σ H D I h
 refine wpAny_For (zb (hi pins s σ H _ I h) λv s1 h1=>zb h1 λitv s2 h2=>?_) hs
 obtain ⟨it,fp,tn,J,H2,e,I2,T,st2,f2,W,⟨m0,w0⟩,turn⟩:=h2
 subst e
 have stat:∀ {H':Hp},(∀ b∈fp,H' b=none)->∀ b∈fp,zp X pins H' b:=λhn b hb=>⟨hn b hb,(f2 b hb).2⟩
 refine codeAny_forLoop_any (λn s'=>∃ i σ' H',zE X pins σ' H' s'/\tn i s'.heap/\(∀ b∈fp,H' b=none)/\W i n σ' H') ?_ m0 ⟨0,σ,H2,I2,st2,λb hb=>(f2 b hb).1,w0⟩
 rintro n s3 ⟨i,σ3,H3,I3,st3,fr3,w3⟩
 rcases turn i n σ3 H3 w3 with ⟨stop,qn⟩ | ⟨go,N,hN,step⟩
 ·refine wpAny_passesOwn hp (zb (T.done X rfl rfl rfl hc i pins s3 σ3 H3 X.xe I3 (stat fr3) st3 stop) λr s4 ⟨hr,I4⟩=>?_)
  subst hr
  exact wpAny_execs_nil ⟨σ3,H3,I4,qn⟩
 ·refine wpAny_passesOwn hp (zb (T.item X rfl rfl rfl hc i pins s3 σ3 H3 X.xe I3 (stat fr3) st3 go) λr s4 ⟨u,hr,h4⟩=>?_)
  subst hr
  refine wpAny_passesOwn hp (zb h4 λ_ s5 ⟨x,H5,I5,r5,y5,st5,fr5⟩=>?_)
  have I5':=I5.pinned (stat fr5) (T.obj _ _ st5)
  refine wpAny_passesOwn hp (zb (hg _ s5 σ3 H5 x u _ I5' r5 (step x H5 y5)) λ_ s6 ⟨σ6,H6,I6,q6⟩=>?_)
  refine wpAny_passesOwn hp (zb (hb _ s6 σ6 H6 _ I6 q6) λf s7 q7=>?_)
  have again:∀ {σ7:St} {H7:Hp},zE X (pins++vz fp s5.heap) σ7 H7 s7->N σ7 H7->∃ m,m < n/\∃ i σ' H',zE X pins σ' H' s7/\tn i s7.heap/\(∀ b∈fp,H' b=none)/\W i m σ' H':=λ{σ7 H7} I7 n7=>by
   obtain ⟨m',hm,w7⟩:=hN σ7 H7 n7
   refine ⟨m',hm,i + 1,σ7,H7,I7.unpinned,T.keep _ _ _ st5 λb hb o e=>(I7.pin (b,o) (List.mem_append_right _ (List.mem_append_right _ (wv hb e)))).1,λb hb=>?_,w7⟩
   obtain ⟨o,e,d⟩:=T.obj _ _ st5 b hb
   exact (I7.pin (b,o) (List.mem_append_right _ (List.mem_append_right _ (wv hb e)))).2.1
  cases f with
  | next=>obtain ⟨σ7,H7,I7,n7⟩:=q7; exact again I7 n7
  | cont=>obtain ⟨σ7,H7,I7,n7⟩:=q7; exact again I7 n7
  | brk=>obtain ⟨σ7,H7,I7,q7⟩:=q7; exact ⟨σ7,H7,I7.unpinned,q7⟩
  | ret v=>obtain ⟨x7,σ7,H7,I7,r7,q7⟩:=q7; exact ⟨x7,σ7,H7,I7.unpinned,r7,q7⟩
end
theorem gC {lo:Int} {n:Nat} {g:TG} {tb:TS} {D:xh} {σ:St} {H:Hp} (Pv:Nat->St->Hp->Prop) (h0:Pv 0 σ H)
  (hs:∀ i σ H,i < n->Pv i σ H->g (.int (lo + i)) σ H λσ2 H2=>tb { D with nx:=Pv (i + 1),ct:=Pv (i + 1),bk:=D.nx } σ2 H2) (hd:∀ σ H,Pv n σ H->D.nx σ H) :
  ∃ W:Nat->Nat->St->Hp->Prop,(∃ m,W 0 m σ H)/\∀ i m σ H,W i m σ H->
   ((vy lo n).stop i H/\D.nx σ H)\/((vy lo n).go i H/\∃ N:St->Hp->Prop,(∀ σ' H',N σ' H'->∃ m',m' < m/\W (i + 1) m' σ' H')/\∀ x H',(vy lo n).yld i H x H'->g x σ H' λσ2 H2=>tb { D with nx:=N,ct:=N,bk:=D.nx } σ2 H2):=by
 refine ⟨λi m σ H=>m=n - i/\i<=n/\Pv i σ H,⟨n,by simp,Nat.zero_le _,h0⟩,?_⟩
 rintro i m σ H ⟨rfl,hi,p⟩
 by_cases hlt:i < n
 ·refine .inr ⟨hlt,Pv (i + 1),λσ' H' p'=>⟨n - (i + 1),by omega,rfl,hlt,p'⟩,λx H' y=>?_⟩
  obtain ⟨e,y⟩:=y
  subst e y
  exact hs i σ _ hlt p
 ·have e:i=n:=by omega
  subst e
  exact .inl ⟨Nat.le_refl _,hd σ H p⟩
end L2
namespace L2
open PySem PySem.Spec PyProof.Rows
noncomputable abbrev R2:=V->V->Hp->VK->Prop
noncomputable def yj (X:Cx) (f:Value->Value->Sem Value) (r:R2):Prop:=
 ∀ (pins:List (Addr × Obj)) (s:Shared) (σ:St) (H:Hp) (x y:V) (v u:Value) (Q:VK),zE X pins σ H s->zV x v->zV y u->r x y H Q->
  wpAny (model X.prog X.w) X.A (f v u) (EP X pins σ Q) X.xe s
noncomputable def gD (X:Cx) (f:Value->Sem Value) (r:V->Hp->VK->Prop):Prop:=
 ∀ (pins:List (Addr × Obj)) (s:Shared) (σ:St) (H:Hp) (x:V) (v:Value) (Q:VK),zE X pins σ H s->zV x v->r x H Q->
  wpAny (model X.prog X.w) X.A (f v) (EP X pins σ Q) X.xe s
noncomputable def yk (X:Cx) (f:Value) (r:List V->Hp->VK->Prop):Prop:=
 ∀ (pins:List (Addr × Obj)) (s:Shared) (σ:St) (H:Hp) (xs:List V) (us:List Value) (Q:VK),zE X pins σ H s->zN xs us->r xs H Q->
  wpAny (model X.prog X.w) X.A (call f us) (EP X pins σ Q) X.xe s
noncomputable def j5 (r:R2) (ta tb:TE):TE:=λσ H Q=>ta σ H λx H1=>tb σ H1 λy H2=>r x y H2 Q
noncomputable def Y0 (r:V->Hp->VK->Prop) (ta:TE):TE:=λσ H Q=>ta σ H λx H1=>r x H1 Q
noncomputable def rI (C:Int->Int->Prop) (g:Int->Int->V):R2:=λx y H Q=>∃ i j,x=.int i/\y=.int j/\C i j/\Q (g i j) H
noncomputable def vP (g:Int->Int->V):R2:=λx y H Q=>∃ i j,x=.int i/\y=.int j/\Q (g i j) H
noncomputable def rU (g:Int->V):V->Hp->VK->Prop:=λx H Q=>∃ i,x=.int i/\Q (g i) H
section
variable {X:Cx} {a b c:Expr} {ta tb tc:TE} {pos:Pos}
theorem v5 (ha:PE X a ta) (hb:PE X b tb) {pins:List (Addr × Obj)} {s:Shared} {σ:St} {H:Hp} {R:V->V->Hp->Prop} (I:zE X pins σ H s)
  (h:ta σ H λx H1=>tb σ H1 λy H2=>R x y H2) {Q:Value->Shared->Prop} {f:Value->Value->Sem Value}
  (hf:∀ v u s2 x y H2,zE X pins σ H2 s2->zV x v->zV y u->R x y H2->wpAny (model X.prog X.w) X.A (f v u) Q X.xe s2) :
  wpAny (model X.prog X.w) X.A (eval a X.env) (λv s₁=>wpAny (model X.prog X.w) X.A (eval b X.env) (λu s₂=>wpAny (model X.prog X.w) X.A (f v u) Q X.xe s₂) X.xe s₁) X.xe s:=by
 refine zb (ha pins s σ H _ I h) λv s1 ⟨x,H1,I1,r1,q1⟩=>?_
 refine zb (hb pins s1 σ H1 _ I1 q1) λu s2 ⟨y,H2,I2,r2,q2⟩=>?_
 exact hf v u s2 x y H2 I2 r1 r2 q2
theorem zO {op:Operator} {r:R2} (ho:yj X (binaryOp op) r) (ha:PE X a ta) (hb:PE X b tb):PE X (.BinOp a op b pos) (j5 r ta tb):=by
 intro pins s σ H Q I h
 exact wpAny_BinOp (v5 ha hb I h λv u s2 x y H2 I2 rx ry q=>ho pins s2 σ H2 x y v u Q I2 rx ry q)
theorem ux {op:UnaryOp} {r:V->Hp->VK->Prop} (ho:gD X (unaryOp op) r) (ha:PE X a ta):PE X (.UnaryOp op a pos) (Y0 r ta):=by
 intro pins s σ H Q I h
 exact UnaryOp_ (zb (ha pins s σ H _ I h) λv s1 ⟨x,H1,I1,r1,q1⟩=>ho pins s1 σ H1 x v Q I1 r1 q1)
theorem j6 {f:Value->Value->Sem Value} {C:Int->Int->Prop} {g:Int->Int->Int}
  (rule:∀ (i j:Int) (t u:Tok) (s:Shared) (Q:Value->Shared->Prop) (E:Value->Shared->Prop),C i j->Q (.int (g i j) s.toks) { s with toks:=s.toks + 1 }->wpAny (model X.prog X.w) X.A (f (.int i t) (.int j u)) Q E s) :
  yj X f (rI C λi j=>.int (g i j)):=by
 intro pins s σ H x y v u Q I rx ry h
 obtain ⟨i,j,rfl,rfl,hc,q⟩:=h
 obtain ⟨t,rfl⟩:=rx
 obtain ⟨t',rfl⟩:=ry
 exact rule i j t t' s _ _ hc ⟨.int (g i j),H,I.tok _,⟨_,rfl⟩,q⟩
theorem uy {f:Value->Value->Sem Value} {g:Int->Int->Int}
  (rule:∀ (i j:Int) (t u:Tok) (s:Shared) (Q:Value->Shared->Prop) (E:Value->Shared->Prop),Q (.int (g i j) s.toks) { s with toks:=s.toks + 1 }->wpAny (model X.prog X.w) X.A (f (.int i t) (.int j u)) Q E s) :
  yj X f (vP λi j=>.int (g i j)):=by
 intro pins s σ H x y v u Q I rx ry h
 obtain ⟨i,j,rfl,rfl,q⟩:=h
 obtain ⟨t,rfl⟩:=rx
 obtain ⟨t',rfl⟩:=ry
 exact rule i j t t' s _ _ ⟨.int (g i j),H,I.tok _,⟨_,rfl⟩,q⟩
theorem vQ {f:Value->Value->Sem Value} {g:Int->Int->Bool}
  (rule:∀ (i j:Int) (t u:Tok) (s:Shared) (Q:Value->Shared->Prop) (E:Value->Shared->Prop),Q (.bool (g i j)) s->wpAny (model X.prog X.w) X.A (f (.int i t) (.int j u)) Q E s) :
  yj X f (vP λi j=>.bl (g i j)):=by
 intro pins s σ H x y v u Q I rx ry h
 obtain ⟨i,j,rfl,rfl,q⟩:=h
 obtain ⟨t,rfl⟩:=rx
 obtain ⟨t',rfl⟩:=ry
 exact rule i j t t' s _ _ ⟨.bl (g i j),H,I,rfl,q⟩
noncomputable def gE (i j:Int):Prop:=0<=j/\j<=1000000/\i.natAbs < 2 ^ 64
noncomputable def uz (i j:Int):Prop:=(-(2 ^ 64) < i/\i < 2 ^ 64)\/(-(2 ^ 64) < j/\j < 2 ^ 64)
theorem uz.ok {i j:Int} (h:uz i j):IntMulOk i j:=by
 rcases h with ⟨h1,h2⟩ | ⟨h1,h2⟩
 ·exact .of_left (intBits_le_64 h1 h2)
 ·exact .of_right (intBits_le_64 h1 h2)
theorem ym:yj X (binaryOp .Add) (vP λi j=>.int (i + j)):=uy λ_ _ _ _ _ _ _ q=>add_int q
theorem wx:yj X (binaryOp .Sub) (vP λi j=>.int (i - j)):=uy λ_ _ _ _ _ _ _ q=>sub_int q
theorem yI:yj X (binaryOp .Mod) (rI (λ_ j=>j≠0) λi j=>.int (i.fmod j)):=j6 λ_ _ _ _ _ _ _ hc q=>mod_int' hc q
theorem j7:yj X (binaryOp .Pow) (rI gE λi j=>.int (i ^ j.toNat)):=j6 λ_ _ _ _ _ _ _ hc q=>pow_int_small hc.1 hc.2.1 hc.2.2 q
theorem Y1 {f:Value->Sem Value} {g:Int->Int}
  (rule:∀ (i:Int) (t:Tok) (s:Shared) (Q:Value->Shared->Prop) (E:Value->Shared->Prop),Q (.int (g i) s.toks) { s with toks:=s.toks + 1 }->wpAny (model X.prog X.w) X.A (f (.int i t)) Q E s) :
  gD X f (rU λi=>.int (g i)):=by
 intro pins s σ H x v Q I rx h
 obtain ⟨i,rfl,q⟩:=h
 obtain ⟨t,rfl⟩:=rx
 exact rule i t s _ _ ⟨.int (g i),H,I.tok _,⟨_,rfl⟩,q⟩
theorem Y2:gD X (unaryOp .USub) (rU λi=>.int (-i)):=Y1 λ_ _ _ _ _ q=>neg_int q
end
noncomputable def u0:V->V->Bool
 | .non,.non=>true | .non,.int _=>true | .int _,.non=>true | .non,.bl _=>true | .bl _,.non=>true | .non,.str _=>true | .str _,.non=>true
 | .int _,.int _=>true | .bl _,.bl _=>true | .str _,.str _=>true | .byt _,.byt _=>true
 | .int _,.str _=>true | .str _,.int _=>true | .bl _,.str _=>true | .str _,.bl _=>true
 | _,_=>false
noncomputable def Y3:R2:=λx y H Q=>u0 x y=true/\Q (.bl (decide (x=y))) H
noncomputable def Y4:R2:=λx y H Q=>u0 x y=true/\Q (.bl (!decide (x=y))) H
theorem ZI {i j:Int}:decide (V.int i=V.int j)=(i == j):=by
 rw [Bool.eq_iff_iff]
 simp
theorem ZJ {i j:Bool}:decide (V.bl i=V.bl j)=(i == j):=by
 rw [Bool.eq_iff_iff]
 simp
theorem ZK {i j:Str}:decide (V.str i=V.str j)=(i == j):=by
 rw [Bool.eq_iff_iff]
 simp
theorem ZL {i j:Array UInt8}:decide (V.byt i=V.byt j)=(i.toList == j.toList):=by
 rw [Bool.eq_iff_iff]
 cases i
 cases j
 simp
section
variable {X:Cx} {a b c:Expr} {ta tb tc:TE} {pos:Pos}
theorem yh {pins:List (Addr × Obj)} {σ:St} {H:Hp} {s:Shared} {Q:VK} {k k':Bool} (I:zE X pins σ H s) (q:Q (.bl k) H) (e:k=k'):EP X pins σ Q (.bool k') s:=by
 subst e
 exact ⟨.bl k,H,I,rfl,q⟩
theorem xO:yj X (compareOp .Eq) Y3:=by
 intro pins s σ H x y v u Q I rx ry h
 obtain ⟨hs,q⟩:=h
 cases x with
 | non=>
  cases rx
  cases y with
  | non=>cases ry; exact PySem.EqNone.eq_none_none (yh I q (by simp))
  | bl j=>cases ry; exact PySem.EqNone.eq_none_bool (yh I q (by simp))
  | int j=>obtain ⟨t',rfl⟩:=ry; exact PySem.EqNone.eq_none_int (yh I q (by simp))
  | str j=>obtain ⟨t',rfl⟩:=ry; exact PySem.EqNone.eq_none_str (yh I q (by simp))
  | _=>exact absurd (show false=true from hs) Bool.false_ne_true
 | bl i=>
  cases rx
  cases y with
  | non=>cases ry; exact PySem.EqNone.eq_bool_none (yh I q (by simp))
  | bl j=>cases ry; exact eq_bool (yh I q ZJ)
  | str j=>obtain ⟨t',rfl⟩:=ry; exact PySem.EqMixed.eq_bool_str (yh I q (by simp))
  | _=>exact absurd (show false=true from hs) Bool.false_ne_true
 | int i=>
  obtain ⟨t,rfl⟩:=rx
  cases y with
  | non=>cases ry; exact PySem.EqNone.eq_int_none (yh I q (by simp))
  | int j=>obtain ⟨t',rfl⟩:=ry; exact eq_int (yh I q ZI)
  | str j=>obtain ⟨t',rfl⟩:=ry; exact PySem.EqMixed.eq_int_str (yh I q (by simp))
  | _=>exact absurd (show false=true from hs) Bool.false_ne_true
 | str i=>
  obtain ⟨t,rfl⟩:=rx
  cases y with
  | non=>cases ry; exact PySem.EqNone.eq_str_none (yh I q (by simp))
  | bl j=>cases ry; exact PySem.EqMixed.eq_str_bool (yh I q (by simp))
  | int j=>obtain ⟨t',rfl⟩:=ry; exact PySem.EqMixed.eq_str_int (yh I q (by simp))
  | str j=>obtain ⟨t',rfl⟩:=ry; exact eq_str (yh I q ZK)
  | _=>exact absurd (show false=true from hs) Bool.false_ne_true
 | byt i=>
  obtain ⟨t,rfl⟩:=rx
  cases y with
  | byt j=>obtain ⟨t',rfl⟩:=ry; exact PySem.W.eq_bytes (yh I q ZL)
  | _=>exact absurd (show false=true from hs) Bool.false_ne_true
 | _=>cases y <;> exact absurd (show false=true from hs) Bool.false_ne_true
theorem j8:yj X (compareOp .NotEq) Y4:=by
 intro pins s σ H x y v u Q I rx ry h
 obtain ⟨hs,q⟩:=h
 cases x with
 | non=>
  cases rx
  cases y with
  | non=>cases ry; exact PySem.EqNone.ne_none_none (yh I q (by simp))
  | bl j=>cases ry; exact PySem.EqNone.ne_none_bool (yh I q (by simp))
  | int j=>obtain ⟨t',rfl⟩:=ry; exact PySem.EqNone.ne_none_int (yh I q (by simp))
  | str j=>obtain ⟨t',rfl⟩:=ry; exact PySem.EqNone.ne_none_str (yh I q (by simp))
  | _=>exact absurd (show false=true from hs) Bool.false_ne_true
 | bl i=>
  cases rx
  cases y with
  | non=>cases ry; exact PySem.EqNone.ne_bool_none (yh I q (by simp))
  | bl j=>cases ry; exact ne_bool (yh I q (congrArg not ZJ))
  | str j=>obtain ⟨t',rfl⟩:=ry; exact PySem.EqMixed.ne_bool_str (yh I q (by simp))
  | _=>exact absurd (show false=true from hs) Bool.false_ne_true
 | int i=>
  obtain ⟨t,rfl⟩:=rx
  cases y with
  | non=>cases ry; exact PySem.EqNone.ne_int_none (yh I q (by simp))
  | int j=>obtain ⟨t',rfl⟩:=ry; exact ne_int (yh I q (congrArg not ZI))
  | str j=>obtain ⟨t',rfl⟩:=ry; exact PySem.EqMixed.ne_int_str (yh I q (by simp))
  | _=>exact absurd (show false=true from hs) Bool.false_ne_true
 | str i=>
  obtain ⟨t,rfl⟩:=rx
  cases y with
  | non=>cases ry; exact PySem.EqNone.ne_str_none (yh I q (by simp))
  | bl j=>cases ry; exact PySem.EqMixed.ne_str_bool (yh I q (by simp))
  | int j=>obtain ⟨t',rfl⟩:=ry; exact PySem.EqMixed.ne_str_int (yh I q (by simp))
  | str j=>obtain ⟨t',rfl⟩:=ry; exact ne_str (yh I q (congrArg not ZK))
  | _=>exact absurd (show false=true from hs) Bool.false_ne_true
 | byt i=>
  obtain ⟨t,rfl⟩:=rx
  cases y with
  | byt j=>obtain ⟨t',rfl⟩:=ry; exact PySem.W.ne_bytes (yh I q (congrArg not ZL))
  | _=>exact absurd (show false=true from hs) Bool.false_ne_true
 | _=>cases y <;> exact absurd (show false=true from hs) Bool.false_ne_true
theorem gF:yj X (compareOp .Lt) (vP λi j=>.bl (decide (i < j))):=vQ λ_ _ _ _ _ _ _ q=>lt_int q
theorem u3:yj X (compareOp .LtE) (vP λi j=>.bl (decide (i<=j))):=vQ λ_ _ _ _ _ _ _ q=>le_int q
theorem gG:yj X (compareOp .Gt) (vP λi j=>.bl (decide (j < i))):=vQ λ_ _ _ _ _ _ _ q=>gt_int q
theorem ZM:yj X (compareOp .GtE) (vP λi j=>.bl (decide (j<=i))):=vQ λ_ _ _ _ _ _ _ q=>ge_int q
theorem yb (b:Expr) {op:CmpOp} (h:op≠.In:=by decide) (h2:op≠.NotIn:=by decide):behindInMarks op b=false:=by
 have e1:(op == CmpOp.In)=false:=by cases op <;> first | rfl | exact absurd rfl h
 have e2:(op == CmpOp.NotIn)=false:=by cases op <;> first | rfl | exact absurd rfl h2
 cases b <;> simp [behindInMarks,e1,e2]
theorem u4 {op:CmpOp} {r:R2} (ho:yj X (compareOp op) r) (ha:PE X a ta) (hb:PE X b tb) (hm:behindInMarks op b=false):PE X (.Compare a [op] [b] pos) (j5 r ta tb):=by
 intro pins s σ H Q I h
 exact wpAny_Compare1 (v5 ha hb I h λv u s2 x y H2 I2 rx ry q=>ho pins s2 σ H2 x y v u Q I2 rx ry q) hm
noncomputable def u5 (t:TE):TT:=λσ H Q=>t σ H λx H'=>∃ k,x=.bl k/\Q k H'
theorem yo {op:CmpOp} {r:R2} (ho:yj X (compareOp op) r) (ha:PE X a ta) (hb:PE X b tb) (hm:behindInMarks op b=false):PT X (.Compare a [op] [b] pos) (u5 (j5 r ta tb)):=by
 intro pins s σ H Q I h
 refine wpAny_isTrue_Compare1 (zb (ha pins s σ H _ I h) λv s1 ⟨x,H1,I1,r1,q1⟩=>zb (hb pins s1 σ H1 _ I1 q1) λu s2 ⟨y,H2,I2,r2,q2⟩=>
  zb (ho pins s2 σ H2 x y v u _ I2 r1 r2 q2) λc s3 ⟨z,H3,I3,r3,k,e,q3⟩=>?_) hm
 subst e
 cases r3
 exact wpAny_truthy_bool ⟨H3,I3,q3⟩
theorem gH:(sizeLine:Nat) < 2 ^ 63:=by rw [sizeLine_eq]; decide
theorem qA {x:V} {us:List Value} (r:zN [x] us):∃ u,us=[u]/\zV x u:=by
 cases r with
 | cons r1 r2=>cases r2; exact ⟨_,rfl,r1⟩
theorem qB {x y:V} {us:List Value} (r:zN [x,y] us):∃ u w',us=[u,w']/\zV x u/\zV y w':=by
 cases r with
 | cons r1 r2=>
  cases r2 with
  | cons r3 r4=>cases r4; exact ⟨_,_,rfl,r1,r3⟩
end
end L2
namespace L2
open PySem PySem.Spec PyProof.Rows
structure wH (h:Heap) (x dx C:Addr) (mA:Str->Option Value):Prop where
 obj:h.get? x=some (PySem.W.instObj C dx)
 ns:h.Ns1 dx mA
 ne:dx≠x
theorem Y5 {h:Heap} {dx:Addr} {mA:Str->Option Value} (n:h.Ns1 dx mA):∃ od,h.get? dx=some od/\∀ name,PySem.W.lookIn name od=some (mA name):=by
 obtain ⟨o,es,ep,ho,hd,hk,_,hm⟩:=n
 refine ⟨o,ho,λname=>?_⟩
 have e:=hm name
 unfold nsFind findBy at e
 rw [<- Array.find?_toList] at e
 unfold PySem.W.lookIn
 rw [hd]
 dsimp only
 split
 ·rename_i y q
  rw [q] at e
  exact congrArg some e
 ·rename_i q
  rw [q] at e
  have a:es.toList.any (·.refKey)=false:=by
   rw [List.any_eq_false]
   intro y hy
   obtain ⟨z,t,hkey⟩:=hk y (Array.mem_toList_iff.mp hy)
   simp [DictEntry.refKey,hkey]
  have a':¬ es.toList.any (·.refKey)=true:=by rw [a]; exact Bool.false_ne_true
  rw [if_neg a']
  exact congrArg some e
theorem wH.look {h:Heap} {x dx C:Addr} {mA:Str->Option Value} (I:wH h x dx C mA):∃ od,PySem.W.InstAt h x (PySem.W.instObj C dx) C (some od)/\∀ name,PySem.W.lookIn name od=some (mA name):=
 let ⟨od,ho,hl⟩:=Y5 I.ns
 ⟨od,⟨I.obj,rfl,rfl,ho⟩,hl⟩
section
variable {prog:Program} {w:World} {A:Around} {E:Value->Shared->Prop} {s:Shared} {K:PySem.W.Frag} {x dx C f:Addr} {mA:Str->Option Value} {name:Str} {v:Value}
theorem Y6 {expr:Bool} {Q:Value->Shared->Prop} (X:K.In s.heap) (I:wH s.heap x dx C mA) (hg:PySem.W.plainGet K C name=true) (hh:PySem.W.hasDictIn K C=true)
  (ha:PySem.W.findIn K (.ref C) name=some none) (hv:mA name=some v) (hv':PySem.W.handedIn v=true) (h:Q v { s with toks:=s.toks + 1 }) :
  wpAny (model prog w) A (getAttr (.ref x) name expr) Q E s:=by
 obtain ⟨od,J,hl⟩:=I.look
 exact PySem.W.get_value X J (PySem.W.plainGet_of hg).1 (PySem.W.findObj_own hh ha rfl (by rw [hl,hv])) hv' h
theorem Y7 {ns:List Str} {Q:Unit->Shared->Prop} (X:K.In s.heap) (I:wH s.heap x dx C mA)
  (hs:PySem.W.findIn K (.ref C) "__setattr__" = some (some (.builtin "object.__setattr__"))) (hp:PySem.W.plainOver K C=true) (ht:PySem.W.takerIn K C name=some none) (hh:PySem.W.hasDictIn K C=true)
  (hw:PySem.Within mA ns) (hsz:ns.length<=sizeLine)
  (h:∀ h',wH h' x dx C (λy=>if y=name then some v else mA y)->Heap.SameBut dx s.heap h'->Q () { s with heap:=h',toks:=s.toks + 2 }) :
  wpAny (model prog w) A (setAttr (.ref x) name v) Q E s:=by
 obtain ⟨od,J,hl⟩:=I.look
 refine PySem.W.set_plain X J hs (PySem.W.osa_open (s:={ s with toks:=s.toks + 1 }) (r:=none) X J hp ht λb=>?_)
 obtain ⟨cd,hc,hd'⟩:=PySem.W.any_some hh
 have hx:s.heap.get? x=some ⟨.ref C,some dx,.plain,#[]⟩:=I.obj
 refine wpAny_bind (wpAny_pure (wpAny_bind (wpAny_bind (wpAny_loadPart hx (wpAny_bind (PySem.W.Looks.here (s:={ s with toks:=s.toks + 1 }) (PySem.W.looks_clsIn X hc) ?_))))))
 rw [hd']
 refine wpAny_pure (a:=some dx) (wpAny_bind (wpAny_pure (wpAny_bind ?_)))
 refine wpAny_nsSet1 (s:={ s with toks:=s.toks + 1 }) I.ns λh' hn2 hs2=>?_
 obtain ⟨oD,esD,epD,hoD,hdD,hcD⟩:=hn2.count (PySem.Within.cons name v hw)
 refine wpAny_bind (wpAny_lookBehind hoD (by rw [hdD]; exact pastItsLine_dict (Nat.le_trans hcD (by rw [List.length_cons]; omega))) ?_)
 exact wpAny_pure (h _ ⟨(hs2.2 _ (Ne.symm I.ne)).trans I.obj,hn2,I.ne⟩ hs2)
theorem ZN {R:Result->Shared->Prop} {vs:List Value} {kw:List (Str × Value)} (X:K.In s.heap) (hm:PySem.W.makesIn K C=true)
  (hi:PySem.W.findIn K (.ref C) "__init__" = some (some (.ref f))) (hf:PySem.W.typeIn K (.ref f)=some (.type "function"))
  (h:codeAny (model prog w) (A.under (.builtin "type.__call__" ⟨.ref C :: vs,kw⟩)) (.call (.ref f) ⟨.ref (s.heap.objs.size + 1) :: vs,kw⟩) (PySem.W.InitBack (s.heap.objs.size + 1) R)
   { s with heap:=(s.heap.push PySem.W.emptyDict).push (PySem.W.instObj C s.heap.objs.size) }) :
  codeAny (model prog w) A (.call (.ref C) ⟨vs,kw⟩) R s:=by
 obtain ⟨hh,g,d,t,os⟩:=s
 exact PySem.W.make_core (PySem.W.makes_of X hm) (PySem.W.looks_findIn X hi) (λself=>PySem.W.bind_fn X self hf) (.inl rfl) h
end
noncomputable def zI (f:Str) (v:V):List (Str × V)->List (Str × V)
 | []=>[(f,v)]
 | (g,x) :: r=>if g=f then (g,v) :: r else (g,x) :: zI f v r
theorem ZO (f g:Str) (v:V):∀ fs:List (Str × V),(zI f v fs).lookup g=if g=f then some v else fs.lookup g
 | []=>by
  show List.lookup g [(f,v)]=_
  by_cases h:g=f
  ·have hb:(g == f)=true:=beq_iff_eq.mpr h
   simp only [List.lookup,hb,if_pos h]
  ·have hb:(g == f)=false:=beq_eq_false_iff_ne.mpr h
   simp only [List.lookup,hb,if_neg h]
 | (k,x) :: r=>by
  have ih:=ZO f g v r
  rw [show zI f v ((k,x) :: r)=(if k=f then (k,v) :: r else (k,x) :: zI f v r) from rfl]
  by_cases hk:k=f
  ·rw [if_pos hk]
   by_cases h:g=k
   ·have hb:(g == k)=true:=beq_iff_eq.mpr h
    simp only [List.lookup,hb,if_pos (h.trans hk)]
   ·have hb:(g == k)=false:=beq_eq_false_iff_ne.mpr h
    simp only [List.lookup,hb,if_neg (λe:g=f=>h (e.trans hk.symm))]
  ·rw [if_neg hk]
   by_cases h:g=k
   ·have hb:(g == k)=true:=beq_iff_eq.mpr h
    simp only [List.lookup,hb,if_neg (λe:g=f=>hk (h.symm.trans e))]
   ·have hb:(g == k)=false:=beq_eq_false_iff_ne.mpr h
    simp only [List.lookup,hb]
    exact ih
theorem gI (f:Str) (v:V):∀ fs:List (Str × V),f∈(zI f v fs).map (·.1)/\∀ g,g∈fs.map (·.1)->g∈(zI f v fs).map (·.1)
 | []=>⟨by simp [zI],λg h=>by simp at h⟩
 | (k,x) :: r=>by
  obtain ⟨i1,i2⟩:=gI f v r
  rw [show zI f v ((k,x) :: r)=(if k=f then (k,v) :: r else (k,x) :: zI f v r) from rfl]
  by_cases hk:k=f
  ·rw [if_pos hk]
   subst hk
   exact ⟨by simp,λg h=>by simpa using h⟩
  ·rw [if_neg hk]
   refine ⟨?_,λg h=>?_⟩
   ·rw [List.map_cons]
    exact List.mem_cons_of_mem _ i1
   ·rw [List.map_cons] at h |-
    rcases List.mem_cons.mp h with e | e
    ·exact List.mem_cons.mpr (.inl e)
    ·exact List.mem_cons_of_mem _ (i2 g e)
theorem ZP (f:Str) (v:V):∀ fs:List (Str × V),(zI f v fs).length<=fs.length + 1
 | []=>by simp [zI]
 | (k,x) :: r=>by
  have ih:=ZP f v r
  rw [show zI f v ((k,x) :: r)=(if k=f then (k,v) :: r else (k,x) :: zI f v r) from rfl]
  by_cases hk:k=f
  ·rw [if_pos hk,List.length_cons,List.length_cons]; omega
  ·rw [if_neg hk,List.length_cons,List.length_cons]; omega
theorem yt.some_of {v:V} {o:Option Value} (r:yt (some v) o):∃ u,o=some u/\zV v u:=by
 cases o with
 | none=>exact (show False from r).elim
 | some u=>exact ⟨u,rfl,r⟩
theorem yt.none_of {o:Option Value} (r:yt none o):o=none:=by
 cases o with
 | none=>rfl
 | some u=>exact (show False from r).elim
theorem Y8 {v:V} {u:Value} (r:zV v u):PySem.W.handedIn u=true:=by
 cases v with
 | non=>cases (show u=Value.none from r); rfl
 | bl b=>cases (show u=Value.bool b from r); rfl
 | int i=>obtain ⟨t,e⟩:=(show ∃ t,u=Value.int i t from r); cases e; rfl
 | str x=>obtain ⟨t,e⟩:=(show ∃ t,u=Value.str x t from r); cases e; rfl
 | byt b=>obtain ⟨t,e⟩:=(show ∃ t,u=Value.bytes b t from r); cases e; rfl
 | flt b=>obtain ⟨t,e⟩:=(show ∃ t,u=Value.float b t from r); cases e; rfl
 | ref a=>cases (show u=Value.ref a from r); rfl
 | ty n=>cases (show u=Value.type n from r); rfl
section
variable {P:Program} {w:World} {H H':Hp} {h h':Heap} {a C dx:Addr} {fs fs':List (Str × V)}
theorem gJ (hok:yW P w H h) (e:H a=some (.ins C dx fs)):∃ mA,wH h a dx C mA/\(∀ f,yt (fs.lookup f) (mA f))/\PySem.Within mA (fs.map (·.1))/\fs.length<=1000/\H dx=some (.own a):=by
 obtain ⟨d,z,ne,ob,mA,n,r,q⟩:=(show yu P w H h a (.ins C dx fs) from hok a _ e)
 exact ⟨mA,⟨ob,n,ne⟩,r,q,z,d⟩
end
structure vh (K:PySem.W.Frag) (C:Addr):Prop where
 pg:PySem.W.plainGet K C Str.empty=true
 hd:PySem.W.hasDictIn K C=true
 po:PySem.W.plainOver K C=true
 sa:PySem.W.findIn K (.ref C) "__setattr__" = some (some (.builtin "object.__setattr__"))
theorem vh.get {K:PySem.W.Frag} {C:Addr} (c:vh K C) (f:Str):PySem.W.plainGet K C f=true:=c.pg
noncomputable def xw (K:PySem.W.Frag) (C:Addr) (f:Str):Prop:=PySem.W.findIn K (.ref C) f=some none
theorem xw.taker {K:PySem.W.Frag} {C:Addr} {f:Str} (n:xw K C f):PySem.W.takerIn K C f=some none:=by
 unfold PySem.W.takerIn
 rw [show PySem.W.findIn K (.ref C) f=some none from n]
 rfl
structure u6 (K:PySem.W.Frag) (C:Addr) (m:Str) (f:Addr):Prop where
 at_:PySem.W.findIn K (.ref C) m=some (some (.ref f))
 fn:PySem.W.isFn K (.ref f)=true
 kp:PySem.W.keepIn K (.ref f)=true
section
variable {X:Cx} {pins:List (Addr × Obj)} {σ:St} {H:Hp} {s:Shared} {a C dx:Addr} {fs:List (Str × V)} {f:Str} {v:V} {A:Around} {E:Value->Shared->Prop}
theorem Y9 {b:Bool} {Q:Value->Shared->Prop} (I:zE X pins σ H s) (e:H a=some (.ins C dx fs)) (c:vh X.K C) (n:xw X.K C f) (l:fs.lookup f=some v)
  (h:∀ u s',zE X pins σ H s'->zV v u->Q u s'):wpAny (model X.prog X.w) A (getAttr (.ref a) f b) Q E s:=by
 obtain ⟨mA,O,r,_,_,_⟩:=gJ I.hok e
 obtain ⟨u,hu,ru⟩:=yt.some_of (v:=v) (o:=mA f) (by rw [<- l]; exact r f)
 exact Y6 I.kIn O (c.get f) c.hd n hu (Y8 ru) (h u _ (I.tok _) ru)
theorem XA {y:V} {u:Value} {Q:Unit->Shared->Prop} (I:zE X pins σ H s) (e:H a=some (.ins C dx fs)) (c:vh X.K C) (n:xw X.K C f) (hl:fs.length < 1000) (ry:zV y u)
  (h:∀ s',zE X pins σ (upd H a (.ins C dx (zI f y fs))) s'->Q () s'):wpAny (model X.prog X.w) A (setAttr (.ref a) f u) Q E s:=by
 obtain ⟨mA,O,r,wi,_,ho⟩:=gJ I.hok e
 have hz:(fs.map (·.1)).length<=sizeLine:=by rw [List.length_map,sizeLine_eq]; omega
 refine Y7 I.kIn O c.sa c.po n.taker c.hd wi hz λh' O' sb=>h _ ?_
 have hd:∃ o,h'.get? dx=some o:=let ⟨o,_,_,e',_⟩:=O'.ns; ⟨o,e'⟩
 refine I.write (x:=a) (e:=dx) (by rw [e]; exact True.intro) (.inr ho) (λb q hb z=>(sb.2 b hb).trans z) hd ?_
 refine ⟨by rw [zi O.ne]; exact ho,?_,O.ne,O'.obj,_,O'.ns,λg=>?_,λg hg=>?_⟩
 ·have:=ZP f y fs; omega
 ·show yt ((zI f y fs).lookup g) (if g=f then some u else mA g)
  rw [ZO]
  by_cases q:g=f
  ·rw [if_pos q,if_pos q]; exact ry
  ·rw [if_neg q,if_neg q]; exact r g
 ·by_cases q:g=f
  ·rw [q]; exact (gI f y fs).1
  ·refine (gI f y fs).2 g (wi g λz=>hg ?_)
   show (if g=f then some u else mA g)=none
   rw [if_neg q]; exact z
theorem zE.made (I:zE X pins σ H s):zE X pins σ (upd (upd H s.heap.objs.size (.own (s.heap.objs.size + 1))) (s.heap.objs.size + 1) (.ins C s.heap.objs.size []))
  { s with heap:=(s.heap.push PySem.W.emptyDict).push (PySem.W.instObj C s.heap.objs.size) }:=by
 have e1:(s.heap.push PySem.W.emptyDict).get? s.heap.objs.size=some PySem.W.emptyDict:=Heap.get?_push_size s.heap rfl
 have e2:((s.heap.push PySem.W.emptyDict).push (PySem.W.instObj C s.heap.objs.size)).get? (s.heap.objs.size + 1)=some (PySem.W.instObj C s.heap.objs.size):=by
  have:=Heap.get?_push_size (s.heap.push PySem.W.emptyDict) (o:=PySem.W.instObj C s.heap.objs.size) rfl
  rwa [Heap.size_push] at this
 have e3:(s.heap.push PySem.W.emptyDict).Ns s.heap.objs.size (λ_=>none):=⟨PySem.W.emptyDict,#[],_,e1,rfl,(λe he=>absurd he (by simp)),λ_=>rfl⟩
 have I1:=I.laid (a:=s.heap.objs.size) (o:=.own (s.heap.objs.size + 1)) (h':=s.heap.push PySem.W.emptyDict) (t':=s.toks) (λb u q=>Heap.get?_push_of_some _ q) (Nat.le_refl _) ⟨_,e1⟩
 refine I1.laid (a:=s.heap.objs.size + 1) (o:=.ins C s.heap.objs.size []) (t':=s.toks) (λb u q=>Heap.get?_push_of_some _ q) (Nat.le_of_eq (Heap.size_push _ _)) ?_
 have ne:s.heap.objs.size≠s.heap.objs.size + 1:=Nat.ne_of_lt (Nat.lt_succ_self _)
 refine ⟨by rw [zi ne,zJ],Nat.zero_le _,ne,e2,λ_=>none,(Heap.Ns1.of_empty e3).at λo q=>Heap.get?_push_of_some _ q,λ_=>True.intro,λy hy=>absurd rfl hy⟩
theorem XB {prog:Program} {w:World} {env:Env} {e:Expr} {f:Str} {pos:Pos} {s:Shared} {Q:Value->Shared->Prop} (hb:attributeBase e f env (eval e env)=eval e env)
  (h:wpAny (model prog w) A (eval e env) (λo s₁=>wpAny (model prog w) A (getAttr o f true) Q E s₁) E s):wpAny (model prog w) A (eval (.Attribute e f pos) env) Q E s:=
 Attribute_any_ h (by rw [arm_eval_Attribute,hb])
end
noncomputable def gK (K:PySem.W.Frag) (ta:TE) (f:Str):TE:=λσ H Q=>ta σ H λx H1=>∃ a C dx fs v,x=.ref a/\H1 a=some (.ins C dx fs)/\vh K C/\xw K C f/\fs.lookup f=some v/\Q v H1
noncomputable def gL (K:PySem.W.Frag) (ta tv:TE) (f:Str):TS:=λD σ H=>tv σ H λy H1=>ta σ H1 λx H2=>∃ a C dx fs,x=.ref a/\H2 a=some (.ins C dx fs)/\vh K C/\xw K C f/\fs.length < 1000∧
 D.nx σ (upd H2 a (.ins C dx (zI f y fs)))
section
variable {X:Cx} {o e value:Expr} {f:Str} {pos pos' tpos:Pos} {ta tv:TE}
theorem v7 (he:PE X e ta) (hb:attributeBase e f X.env (eval e X.env)=eval e X.env):PE X (.Attribute e f pos) (gK X.K ta f):=by
 intro pins s σ H Q I h
 refine XB hb (zb (he pins s σ H _ I h) λu s1 ⟨x,H1,I1,rx,a,C,dx,fs,v,ex,ea,c,n,l,q⟩=>?_)
 subst ex
 obtain rfl:u=Value.ref a:=rx
 exact Y9 I1 ea c n l λu' s2 I2 ru=>⟨v,H1,I2,ru,q⟩
theorem vR (ha:PE X o ta) (hv:PE X value tv) (hs:swapsWith value (some (.Attribute o f pos')) pos.line X.env=pure false):PS X (.Assign [.Attribute o f pos'] value pos) (gL X.K ta tv f):=by
 intro pins s σ H D I h
 refine plainObj_wpAny_Assign_Attribute (zb (hv pins s σ H _ I h) λu s1 ⟨y,H1,I1,ry,q⟩=>zb (ha pins s1 σ H1 _ I1 q) λov s2 ⟨x,H2,I2,rx,a,C,dx,fs,ex,ea,c,n,l,q2⟩=>?_) hs
 subst ex
 obtain rfl:ov=Value.ref a:=rx
 exact XA I2 ea c n l ry λs3 I3=>⟨σ,_,I3,q2⟩
end
section
variable {X:Cx} {pins:List (Addr × Obj)} {σ:St} {H:Hp} {s:Shared} {A:Around} {E:Value->Shared->Prop} {Q:Value->Shared->Prop} {c:Value} {b:Bool}
inductive yP (K:PySem.W.Frag) (H:Hp):V->Value->Prop where
 | non:yP K H .non (.type "NoneType")
 | bl (x:Bool):yP K H (.bl x) (.type "bool")
 | int (i:Int):yP K H (.int i) (.type "int")
 | str (x:Str):yP K H (.str x) (.type "str")
 | flt (x:UInt64):yP K H (.flt x) (.type "float")
 | lst {a:Addr} {xs:List V} (e:H a=some (.lst xs)):yP K H (.ref a) (.type "list")
 | frz {a:Addr} {o:Obj} {xs:List V} (e:H a=some (.frz o (.lst xs))):yP K H (.ref a) (.type "list")
 | tup {a:Addr} {xs:List V} (e:H a=some (.tup xs)):yP K H (.ref a) (.type "tuple")
 | dK {a:Addr} {kvs:List (yO × V)} (e:H a=some (.dK kvs)):yP K H (.ref a) (.type "dict")
 | dT {a:Addr} {kvs:List (List yO × V)} (e:H a=some (.dT kvs)):yP K H (.ref a) (.type "dict")
 | ins {a C dx:Addr} {fs:List (Str × V)} (e:H a=some (.ins C dx fs)) (cl:vh K C) (ha:PySem.W.findIn K (.ref C) "__class__" = some (some (.builtin "object.__class__")))
   (hn:PySem.W.specialIn K (.builtin "object.__class__") "__get__" = some (some (.builtin "getset_descriptor.__get__"))) (htk:PySem.W.takesIn K (.builtin "object.__class__")=some true)
   (hm:PySem.W.mroIn K C (.type "object")=some true):yP K H (.ref a) (.ref C)
theorem ZQ {x:V} {u t:Value} (I:zE X pins σ H s) (rx:zV x u) (ty:yP X.K H x t) (e:PySem.W.kitOne X.K t c=some b) (h:∀ tk,Q (.bool b) { s with toks:=tk }) :
  wpAny (model X.prog X.w) A (call (.builtin "isinstance") [u,c]) Q E s:=by
 cases ty with
 | non=>cases (show u=Value.none from rx); exact PySem.W.kia_one PySem.W.kitx_none I.kIn True.intro e (λz=>nomatch z) h
 | bl y=>cases (show u=Value.bool y from rx); exact PySem.W.kia_one PySem.W.kitx_bool I.kIn True.intro e (λz=>nomatch z) h
 | int i=>obtain ⟨t,q⟩:=(show ∃ t,u=Value.int i t from rx); cases q; exact PySem.W.kia_one PySem.W.kitx_int I.kIn True.intro e (λz=>nomatch z) h
 | str y=>obtain ⟨t,q⟩:=(show ∃ t,u=Value.str y t from rx); cases q; exact PySem.W.kia_one PySem.W.kitx_str I.kIn True.intro e (λz=>nomatch z) h
 | flt y=>obtain ⟨t,q⟩:=(show ∃ t,u=Value.float y t from rx); cases q; exact PySem.W.kia_one PySem.W.kitx_float I.kIn True.intro e (λz=>nomatch z) h
 | @lst a xs ea=>
  cases (show u=Value.ref a from rx)
  obtain ⟨_,_,n,_,h1⟩:=(show yu X.prog X.w H s.heap a (.lst xs) from I.hok a _ ea)
  exact PySem.W.kia_one PySem.W.kitx_list I.kIn ⟨_,h1,rfl⟩ e (λz=>nomatch z) h
 | @frz a ob xs ea=>
  cases (show u=Value.ref a from rx)
  obtain ⟨_,_,_,n,_,h1⟩:=(show yu X.prog X.w H s.heap a (.frz ob (.lst xs)) from I.hok a _ ea)
  exact PySem.W.kia_one PySem.W.kitx_list I.kIn ⟨_,h1,rfl⟩ e (λz=>nomatch z) h
 | @tup a xs ea=>
  cases (show u=Value.ref a from rx)
  obtain ⟨_,_,_,p⟩:=(show yu X.prog X.w H s.heap a (.tup xs) from I.hok a _ ea)
  obtain ⟨o,h1,h2,_⟩:=p
  exact PySem.W.kia_one PySem.W.kitx_tuple I.kIn ⟨o,h1,h2⟩ e (λz=>nomatch z) h
 | @dK a kvs ea=>
  cases (show u=Value.ref a from rx)
  obtain ⟨_,_,vs,_,p⟩:=(show yu X.prog X.w H s.heap a (.dK kvs) from I.hok a _ ea)
  obtain ⟨o,es,ep,h1,h2,_⟩:=p
  exact PySem.W.kia_one PySem.W.kitx_dict I.kIn ⟨o,h1,h2.1⟩ e (λz=>nomatch z) h
 | @dT a kvs ea=>
  cases (show u=Value.ref a from rx)
  obtain ⟨_,_,xs,_,o,es,ep,h1,h2,_⟩:=(show yu X.prog X.w H s.heap a (.dT kvs) from I.hok a _ ea)
  exact PySem.W.kia_one PySem.W.kitx_dict I.kIn ⟨o,h1,h2.1⟩ e (λz=>nomatch z) h
 | @ins a C dx fs ea cl ha hn htk hm=>
  cases (show u=Value.ref a from rx)
  obtain ⟨mA,O,_⟩:=gJ I.hok ea
  obtain ⟨od,J,_⟩:=O.look
  exact PySem.W.kia_one (PySem.W.kitx_own (cl.get _) cl.hd ha hn htk hm) I.kIn J e (λz=>nomatch z) h
end
end L2
namespace L2
open PySem PySem.Spec PyProof.Rows
structure zd (k:Nat) (A:Around):Prop where
 hd:A.handled=none
 dp:A.depth + 3 * k + 5 < recursionLimit
 un:A.units + 16 * k + 200 < cLine
theorem zd.mono {j k:Nat} {A:Around} (r:zd k A) (h:j<=k):zd j A:=⟨r.hd,by have:=r.dp; omega,by have:=r.un; omega⟩
theorem zd.deeper {k:Nat} {A:Around} (r:zd (k + 1) A) (env:Env):zd k (A.deeper env):=
 ⟨r.hd,by have:=r.dp; show A.depth + 1 + 3 * k + 5 < _; omega,by have:=r.un; show A.units + 3 + 16 * k + 200 < _; omega⟩
theorem zd.in1 {k:Nat} {A:Around} (r:zd (k + 1) A):zd k A.in1:=
 ⟨r.hd,by have:=r.dp; show A.depth + 3 * k + 5 < _; omega,by have:=r.un; show A.units + 1 + 16 * k + 200 < _; omega⟩
theorem XC {A:Around} {C:Addr} {us:List Value} {kw:List (Str × Value)}:(A.under (.builtin "type.__call__" ⟨.ref C :: us,kw⟩)).depth=A.depth + 1:=by
 first | rfl | simp [Around.under,Code.weight,Code.isCreation,Code.isGuard,Code.isCaller,Code.frames,Code.isFrame,guardIds]
theorem XD {A:Around} {C:Addr} {us:List Value} {kw:List (Str × Value)}:(A.under (.builtin "type.__call__" ⟨.ref C :: us,kw⟩)).units=A.units + 1:=by
 first | rfl | simp [Around.under,Code.cUnits,Code.frames,Code.isFrame]
theorem zd.make {k:Nat} {A:Around} (r:zd (k + 1) A) (C:Addr) (us:List Value) (kw:List (Str × Value)):zd k (A.under (.builtin "type.__call__" ⟨.ref C :: us,kw⟩)):=
 ⟨r.hd,by have:=r.dp; rw [XC]; omega,by have:=r.un; rw [XD]; omega⟩
theorem zd.depth {k:Nat} {A:Around} (r:zd k A):A.depth < recursionLimit:=by have:=r.dp; omega
theorem zd.units {k:Nat} {A:Around} (r:zd k A):A.units + 64 < cLine:=by have:=r.un; omega
noncomputable def u7:TA:=λ_ H Q=>Q [] H
noncomputable def ZR (ta:TE) (tr:TA):TA:=λσ H Q=>ta σ H λx H1=>tr σ H1 λxs H2=>Q (x :: xs) H2
section
variable {X:Cx} {e:Expr} {es:List Expr} {te:TE} {t:TA} {pos:Pos}
theorem zH:PA X [] u7:=λ_ _ _ _ H Q I h=>Calls.spliced_nil ⟨[],H,I,.nil,h⟩
theorem zA (ha:PE X e te) (hr:PA X es t) (hs:starEach (e :: es) X.env=(false,eval e X.env) :: starEach es X.env:=by rfl):PA X (e :: es) (ZR te t):=by
 intro pos pins s σ H Q I h
 rw [hs]
 show wpAny _ _ (spliced ((false,eval e X.env) :: backTo pos (starEach es X.env))) _ _ s
 refine Calls.spliced_cons (zb (ha pins s σ H _ I h) λu s1 ⟨x,H1,I1,r1,q1⟩=>?_)
 exact zb (hr pos pins s1 σ H1 _ I1 q1) λus s2 ⟨xs,H2,I2,r2,q2⟩=>⟨x :: xs,H2,I2,.cons r1 r2,q2⟩
noncomputable def gM (t:TA):TE:=λσ H Q=>t σ H λxs H1=>xs.length<=sizeLine/\∀ p,H1 p=none->Q (.ref p) (upd H1 p (.tup xs))
noncomputable def gN (t:TA):TE:=λσ H Q=>t σ H λxs H1=>xs.length<=sizeLine/\∀ p,H1 p=none->Q (.ref p) (upd H1 p (.lst xs))
theorem xi {x1} (h:PA X es t):PE X (.Tuple es x1 pos) (gM t):=by
 intro pins s σ H Q I hq
 refine wpAny_Tuple_spliced (zb (h pos pins s σ H _ I hq) λus s1 ⟨xs,H1,I1,r,z,q⟩=>⟨by rw [<- r.length]; exact z,?_⟩)
 have hf:H1 s1.heap.objs.size=none:=I1.hok.fresh (Nat.le_refl _)
 refine ⟨.ref s1.heap.objs.size,upd H1 s1.heap.objs.size (.tup xs),I1.laid (t':=s1.toks) (λb u e=>Heap.get?_push_of_some _ e) (Nat.le_refl _) ?_,rfl,q _ hf⟩
 exact ⟨z,us,r,⟨_,Heap.get?_push_size _ rfl,rfl,_,rfl⟩⟩
theorem zn (h:PA X es t):PE X (.List es pos) (gN t):=by
 intro pins s σ H Q I hq
 refine wpAny_List_spliced (zb (h pos pins s σ H _ I hq) λus s1 ⟨xs,H1,I1,r,z,q⟩=>⟨by rw [<- r.length]; exact z,?_⟩)
 have hf:H1 s1.heap.objs.size=none:=I1.hok.fresh (Nat.le_refl _)
 refine ⟨.ref s1.heap.objs.size,upd H1 s1.heap.objs.size (.lst xs),I1.laid (t':=s1.toks) (λb u e=>Heap.get?_push_of_some _ e) (Nat.le_refl _) ?_,rfl,q _ hf⟩
 exact ⟨z,us,0,r,Heap.get?_push_size _ rfl⟩
end
noncomputable abbrev Sp:=List V->Hp->VK->XK->Prop
noncomputable abbrev xL:=List Env->Hp->Shared->XK->Value->Shared->Prop
structure y6 (P:Program) (w:World) (K:PySem.W.Frag) (mg:Str->Option Value) (base:Heap) (A:Around) (outer:List Env) (s:Shared) (H:Hp):Prop where
 frames:A.frames=some outer
 mod:Mod K mg base
 bs:∀ b o,base.get? b=some o->s.heap.get? b=some o/\H b=none
 bsz:base.objs.size<=s.heap.objs.size
 funs:s.heap.FunFrames base outer
 frf:∀ b∈yw outer,H b=none
 hok:yW P w H s.heap
 bare:AllBare s.gens
noncomputable def CE (outer:List Env) (P:Program) (w:World) (H:Hp) (s:Shared) (Q:VK) (u:Value) (s':Shared):Prop:=
 ∃ v H',s'.os=s.os/\AllBare s'.gens/\Un (yw outer) [] H H' s.heap s'.heap/\yW P w H' s'.heap/\zV v u/\Q v H'
noncomputable def CR (CX:xL) (outer:List Env) (P:Program) (w:World) (H:Hp) (s:Shared) (Q:VK) (E:XK) (r:Result) (s':Shared):Prop:=
 match r with
 | .ok (.ret u)=>CE outer P w H s Q u s'
 | .ok _=>False
 | .error e=>CX outer H s E e s'
structure zP (P:Program) (w:World) (K:PySem.W.Frag) (mg:Str->Option Value) (base:Heap) (CX:xL) (k:Nat) (f:Addr) (fd:FuncData) (ps:List Str) (sp:Sp):Prop where
 len:∀ vs H Q E,sp vs H Q E->vs.length=ps.length
 run:∀ (A:Around) (outer:List Env) (s:Shared) (H:Hp) (args:Args) (us:List Value) (vs:List V) (Q:VK) (E:XK),zd k A->y6 P w K mg base A outer s H->BindsTo s fd args (ps.zip us)->zN vs us->sp vs H Q E->
  codeAny (model P w) A (.call (.ref f) args) (CR CX outer P w H s Q E) s
theorem zP.mono {P:Program} {w:World} {K:PySem.W.Frag} {mg:Str->Option Value} {base:Heap} {CX:xL} {j k:Nat} {f:Addr} {fd:FuncData} {ps:List Str} {sp:Sp} (F:zP P w K mg base CX j f fd ps sp) (h:j<=k) :
  zP P w K mg base CX k f fd ps sp:=⟨F.len,λA outer s H args us vs Q E hr=>F.run A outer s H args us vs Q E (hr.mono h)⟩
theorem zP.imp {P:Program} {w:World} {K:PySem.W.Frag} {mg:Str->Option Value} {base:Heap} {CX:xL} {k:Nat} {f:Addr} {fd:FuncData} {ps:List Str} {sp sp':Sp} (F:zP P w K mg base CX k f fd ps sp)
  (h:∀ vs H Q E,sp' vs H Q E->sp vs H Q E):zP P w K mg base CX k f fd ps sp':=
 ⟨λvs H Q E q=>F.len vs H Q E (h _ _ _ _ q),λA outer s H args us vs Q E hr he hb hv hs=>F.run A outer s H args us vs Q E hr he hb hv (h _ _ _ _ hs)⟩
theorem y6.make {P:Program} {w:World} {K:PySem.W.Frag} {mg:Str->Option Value} {base:Heap} {A:Around} {outer:List Env} {s:Shared} {H:Hp} (e:y6 P w K mg base A outer s H) (C:Addr) (us:List Value) (kw:List (Str × Value)) :
  y6 P w K mg base (A.under (.builtin "type.__call__" ⟨.ref C :: us,kw⟩)) outer s H:=⟨by first | exact e.frames | (simpa [Around.under,Code.envs,Code.isFrame,pushEnvs] using e.frames),e.mod,e.bs,e.bsz,e.funs,e.frf,e.hok,e.bare⟩
theorem y6.in1 {P:Program} {w:World} {K:PySem.W.Frag} {mg:Str->Option Value} {base:Heap} {A:Around} {outer:List Env} {s:Shared} {H:Hp} (e:y6 P w K mg base A outer s H) :
  y6 P w K mg base A.in1 outer s H:=⟨e.frames,e.mod,e.bs,e.bsz,e.funs,e.frf,e.hok,e.bare⟩
section
variable {X:Cx} {pins:List (Addr × Obj)} {σ:St} {H:Hp} {s s':Shared}
theorem zE.env0 (I:zE X pins σ H s):y6 X.prog X.w X.K X.mg X.base X.A X.stack s H:=
 ⟨I.ok.frames,I.ok.mod,I.bs,Nat.le_trans I.ok.bsz I.sz,I.stack,I.stkFree,I.hok,I.bare⟩
theorem zE.after {Q:VK} {u:Value} (I:zE X pins σ H s) (h:CE X.stack X.prog X.w H s Q u s'):EP X pins σ Q u s':=by
 obtain ⟨v,H',os,bare,un,hok,r,q⟩:=h
 obtain ⟨hh,g,d,t,os'⟩:=s'
 obtain rfl:os'=s.os:=os
 exact ⟨v,H',I.call (h':=hh) (g':=g) (d':=d) (t':=t) (ch:=[]) un hok bare (λb z=>absurd z (by simp)),r,q⟩
end
noncomputable def u8 (sp:Sp) (dvs:List V) (E:XK) (t:TA):TE:=λσ H Q=>t σ H λvs H1=>sp (vs++dvs) H1 Q E
noncomputable def gO (C:Addr) (sp:Sp) (dvs:List V) (E:XK) (t:TA):TE:=λσ H Q=>t σ H λvs H1=>∀ x dx,H1 x=none->H1 dx=none->dx≠x->
 sp (.ref x :: (vs++dvs)) (upd (upd H1 dx (.own x)) x (.ins C dx [])) (λv H2=>v=.non/\Q (.ref x) H2) E
noncomputable def xF (K:PySem.W.Frag) (fd:FuncData) (ps:List Str) (ds:List Value):Prop:=
 ∀ (s:Shared) (us:List Value),K.In s.heap->(us++ds).length=ps.length->BindsTo s fd ⟨us,[]⟩ (ps.zip (us++ds))
theorem xF.all {K:PySem.W.Frag} {fd:FuncData} {ps:List Str} (h:∀ us:List Value,us.length=ps.length->bindArgs fd ⟨us,[]⟩=pure (ps.zip us)):xF K fd ps []:=λs us _ hl=>by
 rw [List.append_nil] at hl |-
 exact .of_eq (h us hl)
noncomputable def v8 (CX:xL) (X:Cx) (E:XK):Prop:=∀ (pins:List (Addr × Obj)) (σ:St) (H:Hp) (s:Shared) (e:Value) (s':Shared),zE X pins σ H s->CX X.stack H s E e s'->X.xe e s'
section
variable {X:Cx} {CX:xL} {k:Nat} {f C:Addr} {fd:FuncData} {ps:List Str} {sp:Sp} {dvs:List V} {ds:List Value} {E:XK} {x m:Str} {p pos apos:Pos} {e o:Expr} {es:List Expr} {ta:TE} {t:TA}
theorem XE {pins:List (Addr × Obj)} {σ:St} {H:Hp} {s:Shared} {Q:VK} {us:List Value} {vs:List V} (F:zP X.prog X.w X.K X.mg X.base CX k f fd ps sp) (hr:zd k X.A) (hb:xF X.K fd ps ds) (hd:zN dvs ds) (hx:v8 CX X E)
  (I:zE X pins σ H s) (r:zN vs us) (h:sp (vs++dvs) H Q E):wpAny (model X.prog X.w) X.A (call (.ref f) us) (EP X pins σ Q) X.xe s:=by
 have r2:zN (vs++dvs) (us++ds):=r.append hd
 have hl:(us++ds).length=ps.length:=by rw [<- r2.length]; exact F.len _ _ _ _ h
 refine wpAny_call (codeAny_mono (F.run X.A X.stack s H ⟨us,[]⟩ (us++ds) (vs++dvs) Q E hr I.env0 (hb s us I.kIn hl) r2 h) λr s' hq=>?_)
 cases r with
 | error e=>exact hx pins σ H s e s' I hq
 | ok fl=>
  cases fl with
  | ret u=>exact I.after hq
  | next=>exact False.elim hq
  | brk=>exact False.elim hq
  | cont=>exact False.elim hq
theorem ZS (F:zP X.prog X.w X.K X.mg X.base CX k f fd ps sp) (hr:zd k X.A) (hg:Gl X x) (hm:X.mg x=some (.ref f)) (hk:PySem.W.keepIn X.K (.ref f)=true) (hb:xF X.K fd ps ds) (hd:zN dvs ds) (hx:v8 CX X E)
  (ha:PA X (e :: es) t) (hdb:(x == ("__debug__" : Str))=false:=by decide) (he:starEach (e :: es) X.env=(false,eval e X.env) :: starEach es X.env:=by rfl) (hpl:(backTo pos (starEach es X.env)).any (·.1)=false:=by rfl) :
  PE X (.Call (.Name x p) (e :: es) [] pos) (u8 sp dvs E t):=by
 intro pins s σ H Q I h
 refine wpAny_Call_Name_kw (vv I hg hm ?_ hdb)
 refine PySem.W.callWith_K (h₀:=X.base) I.ok.mod.kin hk (zb (ha pos pins s σ H _ I h) λus s1 ⟨vs,H1,I1,r,q⟩=>⟨I1.kIn,?_⟩) he hpl
 exact XE F hr hb hd hx I1 r q
structure Mk (K:PySem.W.Frag) (C f:Addr):Prop where
 makes:PySem.W.makesIn K C=true
 init:PySem.W.findIn K (.ref C) "__init__" = some (some (.ref f))
 fn:PySem.W.isFn K (.ref f)=true
 kp:PySem.W.keepIn K (.ref C)=true
theorem XF {pins:List (Addr × Obj)} {σ:St} {H:Hp} {s:Shared} {Q:VK} {us:List Value} {vs:List V} (M:Mk X.K C f) (F:zP X.prog X.w X.K X.mg X.base CX k f fd ps sp) (hr:zd (k + 1) X.A) (hb:xF X.K fd ps ds) (hd:zN dvs ds)
  (hx:v8 CX X E) (I:zE X pins σ H s) (r:zN vs us)
  (h:∀ x dx,H x=none->H dx=none->dx≠x->sp (.ref x :: (vs++dvs)) (upd (upd H dx (.own x)) x (.ins C dx [])) (λv H2=>v=.non/\Q (.ref x) H2) E) :
  wpAny (model X.prog X.w) X.A (call (.ref C) us) (EP X pins σ Q) X.xe s:=by
 have hq:=h (s.heap.objs.size + 1) s.heap.objs.size (I.hok.fresh (Nat.le_succ _)) (I.hok.fresh (Nat.le_refl _)) (Nat.ne_of_lt (Nat.lt_succ_self _))
 have I2:=zE.made (C:=C) I
 have r2:zN (V.ref (s.heap.objs.size + 1) :: (vs++dvs)) (Value.ref (s.heap.objs.size + 1) :: (us++ds)):=.cons rfl (r.append hd)
 have hl:(Value.ref (s.heap.objs.size + 1) :: us++ds).length=ps.length:=by
  have e:=r2.length
  rw [F.len _ _ _ _ hq] at e
  exact e.symm
 refine wpAny_call (ZN (f:=f) I.kIn M.makes M.init (beq_iff_eq.mp M.fn) (codeAny_mono (F.run _ X.stack _ _ ⟨Value.ref (s.heap.objs.size + 1) :: us,[]⟩ (Value.ref (s.heap.objs.size + 1) :: (us++ds)) _ _ E (hr.make C us [])
  (I2.env0.make C us []) (hb _ (Value.ref (s.heap.objs.size + 1) :: us) I2.kIn hl) r2 hq) λr s' hq'=>?_))
 cases r with
 | error e=>exact hx pins σ _ _ e s' I2 hq'
 | ok fl=>
  cases fl with
  | ret u=>
   obtain ⟨v,H',I3,rv,ev,q3⟩:=I2.after hq'
   subst ev
   exact ⟨rv,⟨V.ref (s.heap.objs.size + 1),H',I3,rfl,q3⟩⟩
  | next=>exact False.elim hq'
  | brk=>exact False.elim hq'
  | cont=>exact False.elim hq'
theorem XG (M:Mk X.K C f) (F:zP X.prog X.w X.K X.mg X.base CX k f fd ps sp) (hr:zd (k + 1) X.A) (hg:Gl X x) (hm:X.mg x=some (.ref C)) (hb:xF X.K fd ps ds) (hd:zN dvs ds) (hx:v8 CX X E)
  (ha:PA X (e :: es) t) (hdb:(x == ("__debug__" : Str))=false:=by decide) (he:starEach (e :: es) X.env=(false,eval e X.env) :: starEach es X.env:=by rfl) (hpl:(backTo pos (starEach es X.env)).any (·.1)=false:=by rfl) :
  PE X (.Call (.Name x p) (e :: es) [] pos) (gO C sp dvs E t):=by
 intro pins s σ H Q I h
 refine wpAny_Call_Name_kw (vv I hg hm ?_ hdb)
 refine PySem.W.callWith_K (h₀:=X.base) I.ok.mod.kin M.kp (zb (ha pos pins s σ H _ I h) λus s1 ⟨vs,H1,I1,r,q⟩=>⟨I1.kIn,?_⟩) he hpl
 exact XF M F hr hb hd hx I1 r q
end
noncomputable def PK (X:Cx) (kws:List Keyword) (t:TA):Prop:=
 ∀ (pos:Pos) (pins:List (Addr × Obj)) (s:Shared) (σ:St) (H:Hp) (Q:List V->Hp->Prop),zE X pins σ H s->t σ H Q->wpAny (model X.prog X.w) X.A (evalAll ((backToKw pos (keywordEach kws X.env)).map (·.2))) (AP X pins σ Q) X.xe s
section
variable {X:Cx} {CX:xL} {k:Nat} {f C:Addr} {fd:FuncData} {ps ks:List Str} {sp:Sp} {E:XK} {x m:Str} {p pos apos kpos:Pos} {e o:Expr} {es:List Expr} {kws:List Keyword} {te ta:TE} {t tk:TA} {nm:Option Str}
theorem wa:PK X [] u7:=λ_ _ _ _ H Q I h=>wpAny_evalAll_nil ⟨[],H,I,.nil,h⟩
theorem zg (ha:PE X e te) (hr:PK X kws t):PK X (⟨nm,e,kpos⟩ :: kws) (ZR te t):=by
 intro pos pins s σ H Q I h
 show wpAny _ _ (evalAll ((do let v <- eval e X.env; standAt pos; pure v) :: (backToKw pos (keywordEach kws X.env)).map (·.2))) _ _ s
 refine wpAny_evalAll_cons (wpAny_bind (zb (ha pins s σ H _ I h) λu s1 ⟨x,H1,I1,r1,q1⟩=>wpAny_bind (wpAny_standAt (wpAny_pure ?_))))
 exact zb (hr pos pins s1 σ H1 _ I1 q1) λus s2 ⟨xs,H2,I2,r2,q2⟩=>⟨x :: xs,H2,I2,.cons r1 r2,q2⟩
variable {g:List Value->List Value->List Value} {gV:List V->List V->List V}
end
structure yS (N P:List Str) (sc:Scope):Prop where
 kind:sc.kind=.function
 co:sc.isCoroutine=false
 gen:sc.isGenerator=false
 nd:N.Nodup
 pre:N.take P.length=P
 par:∀ x∈P,sc.names.lookup x=some .local\/sc.names.lookup x=some .cell
 nofree:∀ y∈sc.names,y.2≠.free
theorem yS.a {N P:List Str} {s:Scope} (a:s.kind=.function:=by rfl) (b:s.isCoroutine=false:=by rfl) (c:s.isGenerator=false:=by rfl) (d:N.Nodup:=by decide +kernel) (e:N.take P.length=P:=by rfl) (f:∀ x∈P,s.names.lookup x=some .local\/s.names.lookup x=some .cell:=by decide +kernel) (g:∀ y∈s.names,y.2≠.free:=by decide +kernel):yS N P s:=⟨a,b,c,d,e,f,g⟩
theorem ZT {kindOf:Str->Option NameKind} {x:Str}:∀ {binds:List (Str × Value)} {m:Str->Option Value},(∀ v,(x,v)∉binds)->bindL kindOf binds m x=m x
 | [],_,_=>rfl
 | (n,v) :: r,m,h=>by
  unfold bindL
  rw [ZT λw hw=>h w (List.mem_cons_of_mem _ hw)]
  split
  ·have:x≠n:=by rintro rfl; exact h v List.mem_cons_self
   simp [this]
  ·rfl
theorem ZU {kindOf:Str->Option NameKind} {x:Str}:∀ {binds:List (Str × Value)} {m:Str->Option Value},(∀ v,(x,v)∉binds)->bindC kindOf binds m x=m x
 | [],_,_=>rfl
 | (n,v) :: r,m,h=>by
  unfold bindC
  rw [ZU λw hw=>h w (List.mem_cons_of_mem _ hw)]
  split
  ·rfl
  ·have:x≠n:=by rintro rfl; exact h v List.mem_cons_self
   simp [this]
theorem gP {kindOf:Str->Option NameKind} {x:Str} {v:Value}:∀ {P:List Str} {vs:List Value} {i:Nat} {m:Str->Option Value},P.Nodup->P[i]? = some x->vs[i]? = some v->kindOf x=some .local->
  bindL kindOf (P.zip vs) m x=some v
 | [],_,_,_,_,h,_,_=>by simp at h
 | _ :: _,[],_,_,_,_,h,_=>by simp at h
 | p :: P,w :: vs,0,m,nd,h1,h2,hk=>by
  simp at h1 h2; subst h1; subst h2
  show bindL kindOf ((p,w) :: P.zip vs) m p=_
  unfold bindL
  rw [ZT λv hv=>(List.nodup_cons.mp nd).1 (List.of_mem_zip hv).1,if_pos hk]
  simp
 | p :: P,w :: vs,i + 1,m,nd,h1,h2,hk=>by
  show bindL kindOf ((p,w) :: P.zip vs) m x=_
  unfold bindL
  exact gP (i:=i) (List.nodup_cons.mp nd).2 (by simpa using h1) (by simpa using h2) hk
theorem gQ {kindOf:Str->Option NameKind} {x:Str} {v:Value}:∀ {P:List Str} {vs:List Value} {i:Nat} {m:Str->Option Value},P.Nodup->P[i]? = some x->vs[i]? = some v->kindOf x≠some .local->
  bindC kindOf (P.zip vs) m x=some v
 | [],_,_,_,_,h,_,_=>by simp at h
 | _ :: _,[],_,_,_,_,h,_=>by simp at h
 | p :: P,w :: vs,0,m,nd,h1,h2,hk=>by
  simp at h1 h2; subst h1; subst h2
  show bindC kindOf ((p,w) :: P.zip vs) m p=_
  unfold bindC
  rw [ZU λv hv=>(List.nodup_cons.mp nd).1 (List.of_mem_zip hv).1,if_neg hk]
  simp
 | p :: P,w :: vs,i + 1,m,nd,h1,h2,hk=>by
  show bindC kindOf ((p,w) :: P.zip vs) m x=_
  unfold bindC
  exact gQ (i:=i) (List.nodup_cons.mp nd).2 (by simpa using h1) (by simpa using h2) hk
noncomputable def xT (N:List Str) (vs:List V):St:=vs.map some++List.replicate (N.length - vs.length) none
noncomputable def zF (CX:xL) (P:Program) (w:World) (K:PySem.W.Frag) (mg:Str->Option Value) (base:Heap) (N:List Str) (qual:Str) (scope:Scope) (f:Addr) (cd:Value) (A:Around) (outer:List Env) (s:Shared) (H:Hp) (E:XK):Cx where
 prog:=P
 w:=w
 K:=K
 mg:=mg
 base:=base
 A:=A.deeper (envOfC qual scope s.heap.objs.size f cd)
 N:=N
 s₀:=s
 H₀:=H
 env:=envOfC qual scope s.heap.objs.size f cd
 outer:=outer
 stack:=envOfC qual scope s.heap.objs.size f cd :: outer
 ex:=[]
 calm:=true
 fn:=λ_=>true
 pn:=[]
 xe:=λe s'=>wpAny (model P w) (A.deeper (envOfC qual scope s.heap.objs.size f cd)) (leaving (envOfC qual scope s.heap.objs.size f cd) e) (λ_ s''=>CX outer H s E e s'') (λe' s''=>CX outer H s E e' s'') s'
theorem qC {sc:Scope} {n:Nat} {x:Str} (h:sc.names.lookup x=some .cell):∃ c,(cellsFrom n sc.names []).lookup x=some c:=by
 have q:=PySem.W.cellsFrom_some sc.names n [] (.inl h)
 exact Option.isSome_iff_exists.mp q
theorem XH {CX:xL} {P:Program} {w:World} {K:PySem.W.Frag} {mg:Str->Option Value} {base:Heap} {N ps:List Str} {qual:Str} {scope:Scope} {f:Addr} {cd:Value} {A:Around} {outer:List Env} {s s1:Shared} {H:Hp} {E:XK} {us:List Value} {vs:List V}
  (S:yS N ps scope) (hd:A.handled=none) (e0:y6 P w K mg base A outer s H) (hl:vs.length=ps.length) (r:zN vs us)
  (x:InCallC s s.heap.objs.size (bindL (envOfC qual scope s.heap.objs.size f cd).kindOf (ps.zip us) λ_=>none) (cellsFrom (s.heap.objs.size + 1) scope.names []) (bindC (envOfC qual scope s.heap.objs.size f cd).kindOf (ps.zip us) λ_=>none) s1) :
  zE (zF CX P w K mg base N qual scope f cd A outer s H E) [] (xT N vs) H s1:=by
 have hpl:ps.length<=N.length:=by have:=congrArg List.length S.pre; rw [List.length_take] at this; omega
 obtain ⟨h1,tk,rfl,hk⟩:=x.done
 have noA:∀ b:Addr,b∉(zF CX P w K mg base N qual scope f cd A outer s H E).ex:=λb z=>absurd (show b∈([]:List Addr) from z) (by simp)
 refine ⟨⟨e0.mod,S.kind,rfl,rfl,Nat.le_refl _,λy z c h1 h2=>?_,λy hy=>?_,λy c _ h=>?_,λ_=>hd,Around.frames_deeper e0.frames,.inr ⟨rfl,rfl⟩,λb z=>absurd z (noA b),e0.bs,e0.bsz,λb _ _=>noA b,λb z=>absurd z (noA b),e0.funs,e0.frf⟩,
  rfl,e0.bare,Un.kept hk,⟨_,x.toInCall.ns,λi y v h1 h2 h3=>?_⟩,λy c h=>⟨_,x.cell y c h⟩,e0.hok.fresh (Nat.le_refl _),λy c h=>?_,λp hp=>absurd (show p∈([]:List (Addr × Obj)) from hp) (by simp),e0.hok.kept hk,?_⟩
 ·exact name_of_addr x.apart (PySem.mem_of_lookup h1) (PySem.mem_of_lookup h2)
 ·have hy:scope.names.lookup y=some .cell\/scope.names.lookup y=some .free:=hy
  rcases hy with hy | hy
  ·exact qC hy
  ·exact absurd rfl (S.nofree _ (PySem.mem_of_lookup hy))
 ·exact Nat.le_of_lt (x.above y c (PySem.mem_of_lookup h))
 ·have hi:i < vs.length:=by
   unfold xT at h2
   by_cases hi:i < vs.length
   ·exact hi
   ·rw [List.getElem?_append_right (by simpa using hi)] at h2
    rw [List.getElem?_replicate] at h2
    split at h2 <;> cases h2
  have ha:vs[i]? = some v:=by
   unfold xT at h2
   rw [List.getElem?_append_left (by simpa using hi),List.getElem?_map] at h2
   cases e:vs[i]? with
   | none=>rw [e] at h2; cases h2
   | some a=>rw [e] at h2; cases h2; rfl
  obtain ⟨u,hu,rv⟩:=r.get ha
  have hp:ps[i]? = some y:=by
   rw [<- S.pre,List.getElem?_take_of_lt (by omega)]; exact h1
  have ndP:ps.Nodup:=by rw [<- S.pre]; exact S.nd.sublist (List.take_sublist _ _)
  refine ⟨u,rv,?_⟩
  rcases S.par y (List.mem_of_getElem? hp) with k | k
  ·exact .inl ⟨k,gP ndP hp hu k⟩
  ·obtain ⟨c,e⟩:=qC (n:=s.heap.objs.size + 1) k
   refine .inr ⟨.inl k,c,e,?_⟩
   have q:=x.cell y c e
   rw [gQ ndP hp hu (by show scope.names.lookup y≠_; rw [k]; decide)] at q
   exact q
 ·exact e0.hok.fresh (Nat.le_of_lt (x.above y c (PySem.mem_of_lookup h)))
 ·unfold xT
  show _=N.length
  rw [List.length_append,List.length_map,List.length_replicate]
  omega
theorem qD {CX:xL} {P:Program} {w:World} {K:PySem.W.Frag} {mg:Str->Option Value} {base:Heap} {k:Nat} {f:Addr} {name qual:Str} {params:Arguments} {body:List Stmt} {scope:Scope} {dV kV doc pm cdv ct oc:Value} {an od:Option Addr}
  {osl:Array (Option Value)} {N ps:List Str} {sp:Sp} (lk:K.lookup f=some ⟨oc,od,.func (PySem.W.fnOf name qual params body scope dV kV doc pm an cdv ct),osl⟩) (hcd:PySem.W.codeIn K cdv qual=true) (S:yS N ps scope)
  (len:∀ vs H Q E,sp vs H Q E->vs.length=ps.length)
  (hbody:∀ (A:Around) (outer:List Env) (s:Shared) (H:Hp) (vs:List V) (Q:VK) (E:XK),zd k (A.deeper (envOfC qual scope s.heap.objs.size f cdv))->sp vs H Q E->
   ∃ t,yi (zF CX P w K mg base N qual scope f cdv A outer s H E) body t/\t { nx:=λ_ H'=>Q .non H',rt:=Q } (xT N vs) H) :
  zP P w K mg base CX (k + 1) f (PySem.W.fnOf name qual params body scope dV kV doc pm an cdv ct) ps sp:=by
 refine ⟨len,λA outer s H args us vs Q E hr e0 hb r hsp=>?_⟩
 have hl:=len _ _ _ _ hsp
 have KX:K.In s.heap:=e0.mod.kin.keeps λb o e=>(e0.bs b o e).1
 have lim:s.heap.NoLimit:=e0.mod.nolimit.keeps λb o e=>(e0.bs b o e).1
 have hkind:∀ y∈ps.zip us,scope.names.lookup y.1=some .local\/(scope.names.lookup y.1=some .cell/\((cellsFrom (s.heap.objs.size + 1) scope.names []).lookup y.1).isSome=true):=λ⟨n,v⟩ hy=>by
  rcases S.par n (List.of_mem_zip hy).1 with q | q
  ·exact .inl q
  ·exact .inr ⟨q,PySem.W.cellsFrom_some _ _ _ (.inl q)⟩
 refine codeAny_call_function hr.depth (KX _ _ lk) rfl S.co S.gen rfl (PySem.W.codeRec_of KX hcd) (hb _ _ _ _ ?_)
 refine wpAny_newFunctionEnv_cells S.kind hkind λenv he s1 x=>?_
 subst he
 refine ⟨lim.keeps x.toInCall.keep,codeAny_func ?_⟩
 obtain ⟨t,ht,hq⟩:=hbody A outer s H vs Q E (hr.deeper _) hsp
 have I:zE (zF CX P w K mg base N qual scope f cdv A outer s H E) [] (xT N vs) H s1:=XH S hr.hd e0 hl r x
 refine wpAny_mono (ht [] s1 (xT N vs) H _ I hq) (λfl s' hs=>?_) λe s' hs=>hs
 have fin:∀ {σ':St} {H':Hp} {v:V} {u:Value},zE (zF CX P w K mg base N qual scope f cdv A outer s H E) [] σ' H' s'->zV v u->Q v H'->CE outer P w H s Q u s':=
  λ{σ' H' v u} J rv q=>⟨v,H',J.os,J.bare,J.base,J.hok,rv,q⟩
 cases fl with
 | ret u=>
  obtain ⟨v,σ',H',J,rv,q⟩:=hs
  exact fin J rv q
 | next=>
  obtain ⟨σ',H',J,q⟩:=hs
  exact fin (v:=V.non) (u:=Value.none) J rfl q
 | brk=>
  obtain ⟨_,_,_,q⟩:=hs
  exact False.elim q
 | cont=>
  obtain ⟨_,_,_,q⟩:=hs
  exact False.elim q
end L2
namespace L2
open PySem PySem.Spec PyProof.Rows
section
variable {X:Cx} {x:Str} {p pos:Pos} {e:Expr} {es:List Expr} {t:TA} {id T:String} {r:List V->Hp->VK->Prop}
noncomputable def ZV (r:List V->Hp->VK->Prop) (t:TA):TE:=λσ H Q=>t σ H λvs H1=>r vs H1 Q
theorem zr (hc:yk X (.builtin id) r) (hg:Gl X x) (hm:X.mg x=none) (hv:bootBuiltins x=some (.builtin id)) (ha:PA X (e :: es) t) (hn:x≠"__name__":=by decide) (hdb:(x == ("__debug__" : Str))=false:=by decide)
  (he:starEach (e :: es) X.env=(false,eval e X.env) :: starEach es X.env:=by rfl) (hpl:(backTo pos (starEach es X.env)).any (·.1)=false:=by rfl):PE X (.Call (.Name x p) (e :: es) [] pos) (ZV r t):=by
 intro pins s σ H Q I h
 refine wpAny_Call_Name_kw (jz I hg hm hv ?_ hn hdb)
 exact PyProof.Rows.callWith_builtin1 (zb (ha pos pins s σ H _ I h) λus s1 ⟨vs,H1,I1,r1,q1⟩=>hc pins s1 σ H1 vs us Q I1 r1 q1) he hpl
theorem wQ (hc:yk X (.type T) r) (hg:Gl X x) (hm:X.mg x=none) (hv:bootBuiltins x=some (.type T)) (ha:PA X (e :: es) t) (hn:x≠"__name__":=by decide) (hdb:(x == ("__debug__" : Str))=false:=by decide)
  (he:starEach (e :: es) X.env=(false,eval e X.env) :: starEach es X.env:=by rfl) (hpl:(backTo pos (starEach es X.env)).any (·.1)=false:=by rfl):PE X (.Call (.Name x p) (e :: es) [] pos) (ZV r t):=by
 intro pins s σ H Q I h
 refine wpAny_Call_Name_kw (jz I hg hm hv ?_ hn hdb)
 exact PyProof.Rows.callWith_type1 (zb (ha pos pins s σ H _ I h) λus s1 ⟨vs,H1,I1,r1,q1⟩=>hc pins s1 σ H1 vs us Q I1 r1 q1) he hpl
end
end L2
namespace HT
open PySem PyProof.Rows
section
open PySem.SeqAt
open PySem.AutoSeq1 (wpAny_loadPart')
open PySem.MeetsSeq PySem.MeetsSeq2 PySem.MeetsSeq3
end
section
variable {prog:Program} {w:World} {A:Around} {E:Value->Shared->Prop} {s:Shared}
theorem cat_tup {t b:Addr} {vs ws:List Value} {Q:Value->Shared->Prop} (ht:IsTup s.heap t vs.toArray) (hb:IsTup s.heap b ws.toArray) (hv:vs≠[])
  (h1:ws=[]->Q (.ref t) s) (h2:ws≠[]->Q (.ref s.heap.objs.size) { s with heap:=s.heap.push { cls:=.type "tuple",data:=.seq (vs++ws).toArray } })
  (hsz:vs.length + ws.length<=sizeLine):wpAny (model prog w) A (binaryOp .Add (.ref t) (.ref b)) Q E s:=by
 obtain ⟨⟨cls,dd,data,sl⟩,ho,hc,n,hd⟩:=id ht
 obtain ⟨⟨cls2,dd2,data2,sl2⟩,ho2,hc2,n2,hd2⟩:=id hb
 simp only at hc hd hc2 hd2
 subst hc hd hc2 hd2
 have e:vs.toArray++ws.toArray=(vs++ws).toArray:=by simp
 by_cases hw:ws=[]
 ·exact concat_meets ⟨_,ho,rfl⟩ ⟨_,ho2,rfl⟩ noFill_tuple_add seq_tuple_add PySem.F.slot_tuple_add PySem.F.entry_tuple_add (PySem.F.args_tuple_add_2 _ _)
   (tuple_addW1 t b vs.toArray ws.toArray n n2 dd dd2 sl sl2 (by simpa using hv) (by simp [hw])) ⟨ho,ho2,h1 hw⟩
 ·refine concat_meets ⟨_,ho,rfl⟩ ⟨_,ho2,rfl⟩ noFill_tuple_add seq_tuple_add PySem.F.slot_tuple_add PySem.F.entry_tuple_add (PySem.F.args_tuple_add_2 _ _)
   (tuple_addW2 t b vs.toArray ws.toArray n n2 dd dd2 sl sl2 (by simpa using hv) (by simpa using hw) (by rw [List.size_toArray,List.size_toArray]; exact hsz)) ⟨ho,ho2,?_⟩
  rw [e]
  exact h2 hw
noncomputable def sIx (n d:Nat):Option Int->Nat
 | none=>d
 | some v=>if v < 0 then (v + (n:Int)).toNat else min v.toNat n
theorem sIx_none (n d:Nat):sIx n d none=d:=rfl
theorem sIx_nat (n d k:Nat):sIx n d (some (k:Int))=min k n:=by
 show (if (k:Int) < 0 then ((k:Int) + (n:Int)).toNat else min (k:Int).toNat n)=min k n
 rw [if_neg (by omega),Int.toNat_natCast]
theorem XI (n d:Nat) (hd:d<=n) (o:Option Int):sIx n d o<=n:=by
 cases o with
 | none=>exact hd
 | some v=>
  show (if v < 0 then (v + (n:Int)).toNat else min v.toNat n)<=n
  by_cases hv:v < 0
  ·rw [if_pos hv]; omega
  ·rw [if_neg hv]; exact Nat.min_le_right _ _
theorem ZW (v:Int) (n d:Nat):(if v < 0 then max (v + (n:Int)) 0 else min v (n:Int))=((sIx n d (some v):Nat):Int):=by
 show (if v < 0 then max (v + (n:Int)) 0 else min v (n:Int))=(((if v < 0 then (v + (n:Int)).toNat else min v.toNat n):Nat):Int)
 by_cases hv:v < 0
 ·simp only [if_pos hv]; omega
 ·simp only [if_neg hv]; omega
theorem XJ (lo hi:Option Int) (n:Nat):Builtin.Slice.sliceAdjust lo hi 1 (n:Int)=(((sIx n 0 lo:Nat):Int),((sIx n n hi:Nat):Int)):=by
 have h1:¬ ((1:Int) < 0):=by omega
 unfold Builtin.Slice.sliceAdjust
 simp only [h1,if_false]
 refine Prod.ext ?_ ?_
 ·cases lo with
  | none=>rfl
  | some v=>exact ZW v n 0
 ·cases hi with
  | none=>rfl
  | some v=>exact ZW v n n
theorem XM (i j:Nat):Builtin.Slice.slicePlaces (i:Int) (j:Int) 1=j - i:=by
 unfold Builtin.Slice.slicePlaces
 have h1:(1:Int) > 0:=by omega
 simp only [h1,if_true,Int.ediv_one]
 split <;> omega
theorem ZX {v:Value} {o:Option Int} {Q:Option Int->Shared->Prop} (p:IsPart v o) (h:Q o s):wpAny (model prog w) A (Builtin.Slice.slicePartIndex v) Q E s:=by
 cases p with
 | none=>exact slicePart_none h
 | int i t=>exact slicePart_int h
theorem ZY {sl:Addr} {vl vu:Value} {lo hi:Option Int} {n:Nat} {Q:Int × Int × Nat->Shared->Prop} (hs:s.heap.IsSliceOf sl vl vu .none) (pl:IsPart vl lo) (pu:IsPart vu hi)
  (h:Q (((sIx n 0 lo:Nat):Int),1,sIx n n hi - sIx n 0 lo) s):wpAny (model prog w) A (Builtin.Slice.sliceApplied (.ref sl) (pure (n:Int))) Q E s:=by
 obtain ⟨os,hos,hcs,hds⟩:=id hs
 unfold Builtin.Slice.sliceApplied Builtin.Slice.sliceFields
 refine wpAny_bind (wpAny_bind (wpAny_field hos hds (x:=vl) rfl (wpAny_bind (wpAny_field hos hds (x:=vu) rfl (wpAny_bind (wpAny_field hos hds (x:=.none) rfl (wpAny_pure ?_)))))))
 refine wpAny_bind (slicePart_none ?_)
 show wpAny _ _ (if ((1:Int) == 0)=true then _ else _) _ _ s
 rw [if_neg (by decide)]
 refine wpAny_bind (ZX pl (wpAny_bind (ZX pu (wpAny_bind (wpAny_pure ?_)))))
 show wpAny _ _ (match Builtin.Slice.sliceAdjust lo hi 1 (n:Int) with | (lo,hi)=>pure (lo,(1:Int),Builtin.Slice.slicePlaces lo hi 1)) _ _ s
 rw [XJ lo hi n]
 show wpAny _ _ (pure (((sIx n 0 lo:Nat):Int),(1:Int),Builtin.Slice.slicePlaces ((sIx n 0 lo:Nat):Int) ((sIx n n hi:Nat):Int) 1)) _ _ s
 rw [XM]
 exact wpAny_pure h
theorem XN (xs:Array Value) (i k:Nat):((List.range k).filterMap λ(m:Nat)=>xs[((i:Int) + (m:Int) * 1).toNat]?).toArray=((xs.toList.drop i).take k).toArray:=by
 have e:(λ(m:Nat)=>xs[((i:Int) + (m:Int) * 1).toNat]?)=λm=>xs[i + m]?:=by
  funext m
  have:((i:Int) + (m:Int) * 1).toNat=i + m:=by omega
  rw [this]
 rw [e]
 have:=pick_run xs i k
 rw [List.filterMap_map] at this
 have e2:((λx=>xs[x]?) ∘ λx=>i + x)=λm=>xs[i + m]?:=rfl
 rw [e2] at this
 rw [this]
theorem getItem_tuple_cut {t sl:Addr} {items:Array Value} {vl vu:Value} {lo hi:Option Int} {Q:Value->Shared->Prop} (ht:IsTup s.heap t items) (hs:s.heap.IsSliceOf sl vl vu .none) (pl:IsPart vl lo) (pu:IsPart vu hi)
  (hw:¬ (sIx items.size 0 lo=0/\sIx items.size items.size hi=items.size))
  (h:Q (.ref s.heap.objs.size) { s with heap:=s.heap.push { cls:=.type "tuple",data:=.seq ((items.toList.drop (sIx items.size 0 lo)).take (sIx items.size items.size hi - sIx items.size 0 lo)).toArray } })
  (hsz:items.size<=sizeLine):wpAny (model prog w) A (getItem (.ref t) (.ref sl)) Q E s:=by
 have htake:sizeOk (.seq ((items.toList.drop (sIx items.size 0 lo)).take (sIx items.size items.size hi - sIx items.size 0 lo)).toArray):=by
  show ((items.toList.drop (sIx items.size 0 lo)).take (sIx items.size items.size hi - sIx items.size 0 lo)).toArray.size<=sizeLine
  rw [List.size_toArray,List.length_take,List.length_drop,Array.length_toList]
  omega
 have hj:sIx items.size items.size hi<=items.size:=XI _ _ (Nat.le_refl _) hi
 obtain ⟨os,hos,hcs,hds⟩:=id hs
 have hTs:s.TypeIs (.ref sl) "slice":=⟨os,hos,hcs⟩
 unfold getItem
 try with_reducible refine wpAny_holding ?_
 first | refine wpAny_bind (wpAny_pure ?_) | skip
 refine wpAny_bind (wpAny_sequenceKey ht.typeIs (by decide) ?_)
 refine wpAny_bind (wpAny_callSpecial?_slot (name:=Str.ofString "__getitem__") ht.typeIs PyProof.Rows.slot_tuple_getitem
  (wpAny_call_entry PyProof.Rows.slot_tuple_getitem ht.typeIs entry_tuple_getitem ?_ (args_tuple_getitem _ _)))
 show wpAny _ _ (Builtin.Tuple.tupleItemsOf (.ref t) >>= _) _ _ s
 refine wpAny_bind (tupleItemsOf_ ht ?_)
 refine wpAny_bind (wpAny_typeOf hTs ?_)
 rw [if_pos (by decide)]
 refine wpAny_bind (ZY hs pl pu ?_)
 have hno:¬ ((((sIx items.size 0 lo:Nat):Int) == 0 && (1:Int) == 1 && (sIx items.size items.size hi - sIx items.size 0 lo) == items.size)=true):=by
  intro q
  rw [Bool.and_eq_true,Bool.and_eq_true] at q
  have q1:((sIx items.size 0 lo:Nat):Int)=0:=eq_of_beq q.1.1
  have q2:sIx items.size items.size hi - sIx items.size 0 lo=items.size:=eq_of_beq q.2
  exact hw ⟨by omega,by omega⟩
 show wpAny _ _ (if (((sIx items.size 0 lo:Nat):Int) == 0 && (1:Int) == 1 && (sIx items.size items.size hi - sIx items.size 0 lo) == items.size)=true then _ else _) _ _ s
 rw [if_neg hno,XN]
 first
  | exact wpAny_bind (m:=Builtin.Tuple.tupleExact _) (wpAny_newObj_type (wpAny_pure ⟨_,rfl,wpAny_pure h⟩) htake)
  | exact wpAny_bind (m:=Builtin.Tuple.tupleExact _) (wpAny_newObj_type (wpAny_bind (wpAny_pure (wpAny_pure ⟨_,rfl,wpAny_pure h⟩))) htake)
  | exact wpAny_bind (wpAny_bind (m:=Builtin.Tuple.tupleExact _) (wpAny_newObj_type (wpAny_pure (wpAny_pure ⟨_,rfl,wpAny_pure h⟩)) htake))
  | exact wpAny_bind (wpAny_bind (m:=Builtin.Tuple.tupleExact _) (wpAny_newObj_type (wpAny_pure ⟨_,rfl,wpAny_pure h⟩) htake))
end
end HT
namespace L2
open PySem PySem.Spec PyProof.Rows
noncomputable abbrev TO:=St->Hp->(Option Int->Hp->Prop)->Prop
noncomputable def PO (X:Cx) (e:Option Expr) (t:TO):Prop:=
 ∀ (pins:List (Addr × Obj)) (s:Shared) (σ:St) (H:Hp) (Q:Option Int->Hp->Prop),zE X pins σ H s->t σ H Q->
  wpAny (model X.prog X.w) X.A (evalPart e X.env) (λu s'=>∃ o H',zE X pins σ H' s'/\IsPart u o/\Q o H') X.xe s
noncomputable def XO:TO:=λ_ H Q=>Q none H
noncomputable def u9 (t:TE):TO:=λσ H Q=>t σ H λx H1=>∃ i,x=.int i/\Q (some i) H1
section
variable {X:Cx} {e:Expr} {te:TE} {lo hi:Option Expr} {tl th:TO} {pos p2:Pos}
theorem yp:PO X none XO:=by
 intro pins s σ H Q I h
 rw [evalPart_none]
 exact wpAny_pure ⟨none,H,I,.none,h⟩
theorem yM (h:PE X e te):PO X (some e) (u9 te):=by
 intro pins s σ H Q I hw
 rw [evalPart_some]
 refine zb (h pins s σ H _ I hw) λu s1 ⟨x,H1,I1,r1,q1⟩=>?_
 obtain ⟨i,rfl,q⟩:=q1
 obtain ⟨t,rfl⟩:=r1
 exact ⟨some i,H1,I1,.int i t,q⟩
noncomputable def w4 (X:Cx) (r:V->Option Int->Option Int->Hp->VK->Prop):Prop:=
 ∀ (pins:List (Addr × Obj)) (s:Shared) (σ:St) (H:Hp) (x:V) (v vl vu:Value) (lo hi:Option Int) (sl:Addr) (Q:VK),zE X pins σ H s->zV x v->s.heap.IsSliceOf sl vl vu .none->IsPart vl lo->IsPart vu hi->r x lo hi H Q->
  ∃ T id,typeLookup (.type T) "__getitem__" = pure (some (.builtin id))/\s.TypeIs v T/\wpAny (model X.prog X.w) X.A (getItem v (.ref sl)) (EP X pins σ Q) X.xe s
noncomputable def XQ (r:V->Option Int->Option Int->Hp->VK->Prop) (te:TE) (tl th:TO):TE:=λσ H Q=>te σ H λx H1=>tl σ H1 λl H2=>th σ H2 λu H3=>r x l u H3 Q
theorem yc {r:V->Option Int->Option Int->Hp->VK->Prop} (hr:w4 X r) (he:PE X e te) (hl:PO X lo tl) (hu:PO X hi th):PE X (.Subscript e (.Slice lo hi none p2) pos) (XQ r te tl th):=by
 intro pins s σ H Q I h
 refine Subscript_ (zb (he pins s σ H _ I h) λv s1 ⟨x,H1,I1,r1,q1⟩=>?_)
 refine wpAny_Slice (zb (hl pins s1 σ H1 _ I1 q1) λvl s2 ⟨l,H2,I2,pl,q2⟩=>zb (hu pins s2 σ H2 _ I2 q2) λvu s3 ⟨u,H3,I3,pu,q3⟩=>?_)
 rw [evalPart_none]
 refine wpAny_pure ?_
 have I4:zE X pins σ H3 { s3 with heap:=s3.heap.push { cls:=.type "slice",data:=.fields #[vl,vu,.none] } }:=I3.kept (t':=s3.toks) λb ob q=>Heap.get?_push_of_some _ q
 obtain ⟨T,id,hT,ht,hg⟩:=hr pins { s3 with heap:=s3.heap.push { cls:=.type "slice",data:=.fields #[vl,vu,.none] } } σ H3 x v vl vu l u s3.heap.objs.size Q I4 r1 (Heap.IsSliceOf.new ..) pl pu q3
 show wpAny (model X.prog X.w) X.A (subscriptTail e (.Slice lo hi none p2) v (.ref s3.heap.objs.size)) (EP X pins σ Q) X.xe { s3 with heap:=s3.heap.push { cls:=.type "slice",data:=.fields #[vl,vu,.none] } }
 exact tail_any (ops:=[.ref s3.heap.objs.size,v]) ht hT hg (by with_unfolding_all rfl)
noncomputable def zT (xs:List V) (lo hi:Option Int):List V:=(xs.drop (HT.sIx xs.length 0 lo)).take (HT.sIx xs.length xs.length hi - HT.sIx xs.length 0 lo)
theorem ZZ (xs:List V) (lo hi:Option Int):(zT xs lo hi).length<=xs.length:=by
 unfold zT
 rw [List.length_take,List.length_drop]
 omega
noncomputable def gR (K:PySem.W.Frag):V->Option Int->Option Int->Hp->VK->Prop:=λx lo hi H Q=>∃ a xs,x=.ref a/\yD K H a xs∧
 ¬ (HT.sIx xs.length 0 lo=0/\HT.sIx xs.length xs.length hi=xs.length)/\∀ p,H p=none->Q (.ref p) (upd H p (.tup (zT xs lo hi)))
theorem XR:w4 X (gR X.K):=by
 intro pins s σ H x v vl vu lo hi sl Q I rx hs pl pu h
 obtain ⟨a,xs,rfl,hx,hw,q⟩:=h
 cases rx
 obtain ⟨its,r,ht,hz⟩:=I.tuple hx
 have hlen:its.toArray.size=xs.length:=by rw [List.size_toArray]; exact r.length.symm
 refine ⟨"tuple",_,PyProof.Rows.slot_tuple_getitem.lookup,ht.typeIs,?_⟩
 refine HT.getItem_tuple_cut ht hs pl pu (by rw [hlen]; exact hw) ?_ (by rw [hlen]; exact hz)
 rw [hlen]
 refine ⟨.ref s.heap.objs.size,_,I.laid (t':=s.toks) (o:=.tup (zT xs lo hi)) (λb ob q=>Heap.get?_push_of_some _ q) (Nat.le_refl _) ?_,rfl,q _ (I.hok.fresh (Nat.le_refl _))⟩
 exact ⟨Nat.le_trans (ZZ xs lo hi) hz,_,(r.drop (HT.sIx xs.length 0 lo)).take (HT.sIx xs.length xs.length hi - HT.sIx xs.length 0 lo),IsTup.new _ _⟩
noncomputable def jA (K:PySem.W.Frag):R2:=λx y H Q=>∃ a b xs ys,x=.ref a/\y=.ref b/\yD K H a xs/\yD K H b ys/\xs≠[]/\xs.length + ys.length<=sizeLine∧
 (ys=[]->Q (.ref a) H)/\(ys≠[]->∀ p,H p=none->Q (.ref p) (upd H p (.tup (xs++ys))))
theorem zN.nil_iff {xs:List V} {us:List Value} (r:zN xs us):us=[] ↔ xs=[]:=by
 cases r with
 | nil=>simp
 | cons _ _=>simp
theorem XS:yj X (binaryOp .Add) (jA X.K):=by
 intro pins s σ H x y v u Q I rx ry h
 obtain ⟨a,b,xs,ys,rfl,rfl,ha,hb,hx,hz,q1,q2⟩:=h
 cases rx
 cases ry
 obtain ⟨its,r1,p1,_⟩:=I.tuple ha
 obtain ⟨its2,r2,p2,_⟩:=I.tuple hb
 refine HT.cat_tup p1 p2 (λz=>hx (r1.nil_iff.mp z)) (λz=>⟨.ref a,H,I,rfl,q1 (r2.nil_iff.mp z)⟩) (λz=>?_) (by rw [<- r1.length,<- r2.length]; exact hz)
 refine ⟨.ref s.heap.objs.size,_,I.laid (t':=s.toks) (o:=.tup (xs++ys)) (λb ob q=>Heap.get?_push_of_some _ q) (Nat.le_refl _) ?_,rfl,q2 (λw=>z (r2.nil_iff.mpr w)) _ (I.hok.fresh (Nat.le_refl _))⟩
 exact ⟨by rw [List.length_append]; exact hz,_,r1.append r2,IsTup.new _ _⟩
end
end L2
namespace L2
open PySem PySem.Spec PyProof.Rows
noncomputable def uS (n:Nat) (i:Int):Option Nat:=if 0<=i then (if i < n then some i.toNat else none) else if -(n:Int)<=i then some (i + n).toNat else none
noncomputable def xb {α:Type} (xs:List α) (i:Int):Option α:=(uS xs.length i).bind λj=>xs[j]?
theorem XT {n:Nat} {i:Int} {j:Nat} (h:uS n i=some j):seqIndex? i n=some j/\j < n/\-(n:Int)<=i/\i < n:=by
 unfold uS at h
 by_cases h0:0<=i
 ·rw [if_pos h0] at h
  by_cases h1:i < n
  ·rw [if_pos h1] at h
   have e:i.toNat=j:=Option.some.inj h
   exact ⟨by rw [seqIndex_of h0 h1,e],by omega,by omega,h1⟩
  ·rw [if_neg h1] at h; cases h
 ·rw [if_neg h0] at h
  by_cases h1 : -(n:Int)<=i
  ·rw [if_pos h1] at h
   have e:(i + n).toNat=j:=Option.some.inj h
   exact ⟨by rw [seqIndex_neg (by omega) h1,e],by omega,h1,by omega⟩
  ·rw [if_neg h1] at h; cases h
theorem Za {α:Type} {xs:List α} {i:Int} {v:α} (h:xb xs i=some v):∃ j,seqIndex? i xs.length=some j/\xs[j]? = some v/\j < xs.length/\-(xs.length:Int)<=i/\i < xs.length:=by
 unfold xb at h
 cases e:uS xs.length i with
 | none=>rw [e] at h; cases h
 | some j=>
  rw [e] at h
  obtain ⟨h1,h2,h3,h4⟩:=XT e
  exact ⟨j,h1,h,h2,h3,h4⟩
theorem wR {α:Type} {xs:List α} {j:Nat} {v:α} (h:xs[j]? = some v):xb xs (j:Int)=some v:=by
 have hj:j < xs.length:=(List.getElem?_eq_some_iff.mp h).1
 have e:uS xs.length (j:Int)=some j:=by
  unfold uS
  rw [if_pos (by omega),if_pos (by omega)]; simp
 unfold xb; rw [e]; exact h
noncomputable def XU (b:Expr):Prop:=∀ o i,subscripted b false o i=operate [o,i] (getItem o i)
noncomputable def wI (X:Cx) (r:R2):Prop:=
 ∀ (value slice:Expr) (pins:List (Addr × Obj)) (s:Shared) (σ:St) (H:Hp) (x y:V) (v u:Value) (Q:VK),zE X pins σ H s->zV x v->zV y u->r x y H Q->
  subscripted slice false v u=operate [v,u] (getItem v u)->wpAny (model X.prog X.w) X.A (subscriptTail value slice v u) (EP X pins σ Q) X.xe s
noncomputable def Zb (X:Cx) (id:String) (r:V->List V->Hp->VK->Prop):Prop:=
 ∀ (pins:List (Addr × Obj)) (s:Shared) (σ:St) (H:Hp) (x:V) (xs:List V) (v:Value) (us:List Value) (Q:VK),zE X pins σ H s->zV x v->zN xs us->r x xs H Q->
  wpAny (model X.prog X.w) X.A (call (.builtin id) (v :: us)) (EP X pins σ Q) X.xe s
section
variable {X:Cx} {a b:Expr} {ta tb:TE} {pos:Pos}
theorem yJ {r:R2} (hr:wI X r) (ha:PE X a ta) (hb:PE X b tb) (hs:XU b):PE X (.Subscript a b pos) (j5 r ta tb):=by
 intro pins s σ H Q I h
 exact Subscript_ (v5 ha hb I h λv u s2 x y H2 I2 rx ry q=>hr a b pins s2 σ H2 x y v u Q I2 rx ry q (hs _ _))
noncomputable def gS (K:PySem.W.Frag):R2:=λx y H Q=>∃ p xs i v,x=.ref p/\y=.int i/\zM K H p xs/\xb xs i=some v/\Q v H
noncomputable def gT (K:PySem.W.Frag):R2:=λx y H Q=>∃ p xs i v,x=.ref p/\y=.int i/\yD K H p xs/\xb xs i=some v/\Q v H
theorem XV:wI X (gS X.K):=by
 intro value slice pins s σ H x y v u Q I rx ry h hs
 obtain ⟨p,xs,i,z,rfl,rfl,hq,he,q⟩:=h
 cases rx
 obtain ⟨t,rfl⟩:=ry
 obtain ⟨its,r,pl,hz⟩:=I.list hq
 obtain ⟨j,h1,h2,h3,h4,h5⟩:=Za he
 obtain ⟨w,ew,rw'⟩:=r.get h2
 have hl:=r.length
 have hn:=gH
 have fin:EP X pins σ Q w s:=⟨z,H,I,rw',q⟩
 by_cases h0:0<=i
 ·have hj:i.toNat=j:=by
   rw [seqIndex_of h0 h5] at h1
   exact Option.some.inj h1
  exact item_listR pl.isList h0 (by omega) (by rw [hj]; simpa using ew) fin hs
 ·have hj:(i + (its.toArray.size:Int)).toNat=j:=by
   rw [seqIndex_neg (by omega) h4] at h1
   rw [List.size_toArray,<- hl]
   exact Option.some.inj h1
  exact subscriptTail_builtinR (x:=w) pl.isList.typeIs slot_list_getitem.lookup
   (wpAny_getItem_list_neg (Q:=λr s'=>r=w/\EP X pins σ Q r s') pl.isList (by omega) (by rw [List.size_toArray] <;> omega) (by omega) (by rw [hj]; simpa using ew) ⟨rfl,fin⟩) hs
theorem XW:wI X (gT X.K):=by
 intro value slice pins s σ H x y v u Q I rx ry h hs
 obtain ⟨p,xs,i,z,rfl,rfl,hq,he,q⟩:=h
 cases rx
 obtain ⟨t,rfl⟩:=ry
 obtain ⟨its,r,pl,hz⟩:=I.tuple hq
 obtain ⟨j,h1,h2,h3,h4,h5⟩:=Za he
 obtain ⟨w,ew,rw'⟩:=r.get h2
 have hl:=r.length
 have hn:=gH
 have fin:EP X pins σ Q w s:=⟨z,H,I,rw',q⟩
 exact subscriptTail_builtinR (x:=w) pl.typeIs slot_tuple_getitem.lookup
  (getItem_tuple (j:=j) (Q:=λr s'=>r=w/\EP X pins σ Q r s') pl (by omega) (by omega) (by rw [List.size_toArray,<- hl]; exact h1) (by simpa using ew) ⟨rfl,fin⟩) hs
theorem zE.lst {pins:List (Addr × Obj)} {σ:St} {H:Hp} {s:Shared} {p:Addr} {xs:List V} (I:zE X pins σ H s) (h:H p=some (.lst xs)) :
  ∃ (its:List Value) (n:Nat),zN xs its/\s.heap.get? p=some { cls:=.type "list",data:=.seq its.toArray n }/\xs.length<=sizeLine:=by
 obtain ⟨z,its,n,r,e⟩:=I.hok p _ h
 exact ⟨its,n,r,e,z⟩
theorem XX (lo hi:Option Int) (n:Nat):(sliceBounds lo hi none n).1=((HT.sIx n 0 lo:Nat):Int)/\(sliceBounds lo hi none n).2.1=((HT.sIx n n hi:Nat):Int)/\(sliceBounds lo hi none n).2.2=1:=by
 refine ⟨?_,?_,rfl⟩
 ·cases lo with
  | none=>simp [sliceBounds,HT.sIx]
  | some i=>
   simp only [sliceBounds,HT.sIx,Option.getD_none,show (1:Int) > 0 by decide,if_true]
   by_cases h:i < 0
   ·simp only [h,if_true] <;> omega
   ·simp only [h,if_false] <;> omega
 ·cases hi with
  | none=>simp [sliceBounds,HT.sIx]
  | some i=>
   simp only [sliceBounds,HT.sIx,Option.getD_none,show (1:Int) > 0 by decide,if_true]
   by_cases h:i < 0
   ·simp only [h,if_true] <;> omega
   ·simp only [h,if_false] <;> omega
theorem XY (its:List Value) (lo hi:Option Int):slicePick its.toArray lo hi none=((its.drop (HT.sIx its.length 0 lo)).take (HT.sIx its.length its.length hi - HT.sIx its.length 0 lo)).toArray:=by
 obtain ⟨h1,h2,h3⟩:=XX lo hi its.toArray.size
 unfold slicePick
 rw [h1,h2,h3]
 simp only [sliceRange_one,pick_run,List.size_toArray] <;> rfl
noncomputable def gU (K:PySem.W.Frag):V->Option Int->Option Int->Hp->VK->Prop:=λx lo hi H Q=>∃ a xs,x=.ref a/\zM K H a xs/\∀ p,H p=none->Q (.ref p) (upd H p (.lst (zT xs lo hi)))
theorem XZ:w4 X (gU X.K):=by
 intro pins s σ H x v vl vu lo hi sl Q I rx hs pl pu h
 obtain ⟨a,xs,rfl,hx,q⟩:=h
 cases rx
 obtain ⟨its,r,ht,hz⟩:=I.list hx
 have hlen:=r.length
 refine ⟨"list",_,slot_list_getitem.lookup,ht.isList.typeIs,?_⟩
 refine wpAny_getItem_list_slice ht.isList hs pl pu .none (by simp) ?_ (by rw [List.size_toArray] <;> omega)
 rw [XY,<- hlen]
 refine ⟨.ref s.heap.objs.size,_,I.laid (t':=s.toks) (o:=.lst (zT xs lo hi)) (λb ob q=>Heap.get?_push_of_some _ q) (Nat.le_refl _) ?_,rfl,q _ (I.hok.fresh (Nat.le_refl _))⟩
 exact ⟨Nat.le_trans (ZZ xs lo hi) hz,_,0,(r.drop (HT.sIx xs.length 0 lo)).take (HT.sIx xs.length xs.length hi - HT.sIx xs.length 0 lo),Heap.get?_push_size _ rfl⟩
theorem Xa:yk X (.builtin "len") (λxs H Q=>∃ p ys,xs=[.ref p]/\(zM X.K H p ys\/yD X.K H p ys)/\Q (.int ys.length) H):=by
 intro pins s σ H xs us Q I r h
 obtain ⟨p,ys,rfl,hq,q⟩:=h
 obtain ⟨u,rfl,rx⟩:=qA r
 cases rx
 have hn:=gH
 rcases hq with hq | hq
 ·obtain ⟨its,r',pl,hz⟩:=I.list hq
  have hlen:=r'.length
  exact Calls.call_len_list pl.isList (by simp only [List.size_toArray] <;> omega) ⟨.int ys.length,H,I.tok _,⟨s.toks + 1,by rw [List.size_toArray,hlen]⟩,q⟩
 ·obtain ⟨its,r',pl,hz⟩:=I.tuple hq
  have hlen:=r'.length
  exact len_tuple pl (by simp only [List.size_toArray] <;> omega) ⟨.int ys.length,H,I.tok _,⟨s.toks + 1,by rw [List.size_toArray,hlen]⟩,q⟩
theorem qF:yk X (.type "list") (λxs H Q=>∃ p ys,xs=[.ref p]/\(zM X.K H p ys\/yD X.K H p ys)/\∀ l,H l=none->Q (.ref l) (upd H l (.lst ys))):=by
 intro pins s σ H xs us Q I r h
 obtain ⟨p,ys,rfl,hq,q⟩:=h
 obtain ⟨u,rfl,rx⟩:=qA r
 cases rx
 have fin:∀ (its:List Value),zN ys its->ys.length<=sizeLine->∀ (h':Heap) (c':Nat),(∀ b o',s.heap.get? b=some o'->h'.get? b=some o')->
   h'.get? s.heap.objs.size=some { cls:=.type "list",dict:=none,data:=.seq its.toArray c',slots:=#[] }->EP X pins σ Q (.ref s.heap.objs.size) { s with heap:=h' }:=λits r' hz h' c' kp e=>
  ⟨.ref s.heap.objs.size,_,I.laid (t':=s.toks) kp (Nat.le_refl _) (show yu X.prog X.w _ h' _ (.lst ys) from ⟨hz,its,c',r',e⟩),rfl,q _ (I.hok.fresh (Nat.le_refl _))⟩
 rcases hq with hq | hq
 ·obtain ⟨its,r',pl,hz⟩:=I.list hq
  have hlen:=r'.length
  obtain ⟨o,ho,hc,n,hd⟩:=pl.isList
  exact call_list_seq p (.inl rfl) ho hc hd (λh' c' kp e=>fin its r' hz h' c' kp e) (by simp only [List.size_toArray] <;> omega)
 ·obtain ⟨its,r',pl,hz⟩:=I.tuple hq
  have hlen:=r'.length
  obtain ⟨o,ho,hc,n,hd⟩:=pl
  exact call_list_seq p (.inr rfl) ho hc hd (λh' c' kp e=>fin its r' hz h' c' kp e) (by simp only [List.size_toArray] <;> omega)
theorem Xb:yk X (.type "tuple") (λxs H Q=>∃ p ys,xs=[.ref p]/\((zM X.K H p ys/\∀ l,H l=none->Q (.ref l) (upd H l (.tup ys)))\/(yD X.K H p ys/\Q (.ref p) H))):=by
 intro pins s σ H xs us Q I r h
 obtain ⟨p,ys,rfl,h⟩:=h
 obtain ⟨u,rfl,rx⟩:=qA r
 cases rx
 rcases h with ⟨hq,q⟩ | ⟨hq,q⟩
 ·obtain ⟨its,r',pl,hz⟩:=I.list hq
  have hlen:=r'.length
  refine call_tuple_list pl.isList (λh' kp=>?_) (by simp only [List.size_toArray] <;> omega)
  have I1:zE X pins σ H { s with heap:=h' }:=I.kept (t':=s.toks) kp
  have I2:zE X pins σ (upd H h'.objs.size (.tup ys)) { s with heap:=h'.push { cls:=.type "tuple",data:=.seq its.toArray } }:=
   I1.laid (t':=s.toks) (λb o e=>Heap.get?_push_of_some _ e) (Nat.le_refl _) (show yu X.prog X.w _ _ _ (.tup ys) from ⟨hz,its,r',IsTup.new _ _⟩)
  exact ⟨.ref h'.objs.size,_,I2,rfl,q _ (I1.hok.fresh (Nat.le_refl _))⟩
 ·obtain ⟨its,r',pl,hz⟩:=I.tuple hq
  exact call_tuple_same pl ⟨.ref p,H,I,rfl,q⟩
noncomputable def Zc (K:PySem.W.Frag) (T:String) (x:V) (H:Hp):Prop:=match x with
 | .str _=>T = "str"
 | .int _=>T = "int"
 | .ref p=>(T = "list"/\∃ xs,zM K H p xs)\/(T = "tuple"/\∃ o,K.lookup p=some o/\o.cls=.type "tuple"/\o.dict=none)∨
   (T = "dict"/\((∃ kvs,H p=some (.dK kvs))\/∃ kvs,H p=some (.dT kvs)))\/(T = "set"/\∃ S n,H p=some (.set S n))
 | _=>False
theorem Xc {pins:List (Addr × Obj)} {σ:St} {H:Hp} {s:Shared} {T:String} {x:V} {v:Value} (I:zE X pins σ H s) (r:zV x v) (ty:Zc X.K T x H) :
  s.TypeIs v T/\∀ a,v=.ref a->∃ ob,s.heap.get? a=some ob/\ob.dict=none:=by
 cases x with
 | str z=>
  obtain ⟨t,rfl⟩:=r
  cases (show T = "str" from ty)
  exact ⟨typeIs_str s z t,λ_ e=>nomatch e⟩
 | int i=>
  obtain ⟨t,rfl⟩:=r
  cases (show T = "int" from ty)
  exact ⟨typeIs_int s i t,λ_ e=>nomatch e⟩
 | ref p=>
  cases r
  rcases ty with ⟨rfl,xs,hq⟩ | ⟨rfl,o,hk,hc,hd⟩ | ⟨rfl,hk⟩ | ⟨rfl,S,n,hk⟩
  ·obtain ⟨its,_,pl,_⟩:=I.list hq
   refine ⟨pl.isList.typeIs,λa e=>?_⟩
   cases e
   obtain ⟨o,n,e,c,hd,_⟩:=pl
   exact ⟨o,e,hd⟩
  ·refine ⟨⟨o,I.kIn p o hk,hc⟩,λa e=>?_⟩
   cases e
   exact ⟨o,I.kIn _ o hk,hd⟩
  ·have z:∃ o,s.heap.get? p=some o/\o.ExactDict:=by
    rcases hk with ⟨kvs,hk⟩ | ⟨kvs,hk⟩
    ·obtain ⟨_,_,_,_,o,_,_,e,ex,_⟩:=I.hok p _ hk
     exact ⟨o,e,ex⟩
    ·obtain ⟨_,_,_,_,o,_,_,e,ex,_⟩:=I.hok p _ hk
     exact ⟨o,e,ex⟩
   obtain ⟨o,e,ex⟩:=z
   refine ⟨⟨o,e,ex.1⟩,λa e2=>?_⟩
   cases e2
   exact ⟨o,e,ex.2.1⟩
  ·obtain ⟨o,_,_,_,e,ex,_⟩:=I.hok p _ hk
   refine ⟨⟨o,e,ex.1⟩,λa e2=>?_⟩
   cases e2
   exact ⟨o,e,ex.2.1⟩
 | _=>exact False.elim ty
noncomputable def Xd (K:PySem.W.Frag) (T:String) (r:V->List V->Hp->VK->Prop) (to:TE) (t:TA):TE:=λσ H Q=>to σ H λx H1=>Zc K T x H1/\t σ H1 λxs H2=>r x xs H2 Q
variable {o e:Expr} {es:List Expr} {to:TE} {t:TA} {name:Str} {apos cpos:Pos} {T id:String} {r:V->List V->Hp->VK->Prop}
theorem gW (pa:PlainAttrs T) (slot:Slot T name id) (hty:typeOf (.builtin id)=pure (.type "method_descriptor")) (hm:Zb X id r) (ho:PE X o to) (ha:PA X (e :: es) t)
  (hbase:attributeBase o name X.env (eval o X.env)=eval o X.env:=by rfl)
  (hfew:((backTo cpos (starEach (e :: es) X.env)).all (λx=>!x.1) && (backToKw cpos (keywordEach [] X.env)).all (λx=>x.1.isSome)
   && decide ((e :: es).length + ([]:List Keyword).length + (if ([]:List Keyword).isEmpty then 0 else 1) < 30))=true:=by rfl)
  (hline:(apos.endLine == cpos.line)=true:=by rfl) (hs:starEach (e :: es) X.env=(false,eval e X.env) :: starEach es X.env:=by rfl) (hplain:(backTo cpos (starEach es X.env)).any (·.1)=false:=by rfl) :
  PE X (.Call (.Attribute o name apos) (e :: es) [] cpos) (Xd X.K T r to t):=by
 intro pins s σ H Q I h
 refine wpAny_Call_method_late hbase hfew hline rfl (zb (ho pins s σ H _ I h) λv s1 ⟨x,H1,I1,r1,ty,q1⟩=>?_)
 obtain ⟨h1,h2⟩:=Xc I1 r1 ty
 refine ⟨T,id,pa,slot,hty,h1,h2,?_⟩
 have hA:=ha cpos pins s1 σ H1 _ I1 q1
 rw [hs] at hA |-
 refine Calls.callWith_builtin (by show (false || (backTo cpos (starEach es X.env)).any (·.1))=false; rw [hplain] <;> rfl) (Calls.evalArgs_plain ?_)
 exact zb hA λus s2 ⟨vs,H2,I2,r2,q2⟩=>hm pins s2 σ H2 x vs v us Q I2 r1 r2 q2
/- xs.append(e),list.index on a module's tuple .. are Zb facts of 06m -/
end
end L2
namespace L2
open PySem PySem.Spec PyProof.Rows
noncomputable def gX (X:Cx) (id:String) (r:V->List V->Hp->VK->Prop):Prop:=
 ∀ (pins:List (Addr × Obj)) (s:Shared) (σ:St) (H:Hp) (x:V) (xs:List V) (v:Value) (us:List Value) (Q:VK),zE X pins σ H s->zV x v->zN xs us->r x xs H Q->
  wpAny (model X.prog X.w) X.A (call (.builtin id) (v :: us)) (EP X pins σ Q) X.xe s
theorem zN.one:∀ {x:V} {us:List Value},zN [x] us->∃ u,us=[u]/\zV x u
 | _,_,.cons r .nil=>⟨_,rfl,r⟩
theorem zN.zero:∀ {us:List Value},zN [] us->us=[]
 | _,.nil=>rfl
theorem zN.rep {xs:List V} {us:List Value} (h:zN xs us):∀ k:Nat,zN (List.replicate k xs).flatten (List.replicate k us).flatten
 | 0=>.nil
 | k + 1=>by
  rw [List.replicate_succ,List.replicate_succ,List.flatten_cons,List.flatten_cons]
  exact zN.append h (zN.rep h k)
theorem Zd (its:List Value):∀ (k:Nat) (acc:List Value),
  List.foldl (λx1 x2=>x1++x2) acc.toArray (List.replicate k its.toArray)=(acc++(List.replicate k its).flatten).toArray
 | 0,acc=>by simp
 | k + 1,acc=>by
  have e:acc.toArray++its.toArray=(acc++its).toArray:=by simp
  have e2:(acc++its)++(List.replicate k its).flatten=acc++(List.replicate (k + 1) its).flatten:=by
   rw [List.replicate_succ,List.flatten_cons,List.append_assoc]
  rw [<- e2,<- Zd its k (acc++its),<- e,List.replicate_succ,List.foldl_cons]
section
variable {X:Cx} {pins:List (Addr × Obj)} {σ:St} {H:Hp} {s:Shared} {l b:Addr} {xs ys zs:List V}
theorem zE.lset {its its':List Value} {n:Nat} {f:Array Value->Array Value} {t':Nat} (I:zE X pins σ H s) (hH:H l=some (.lst xs))
  (e:s.heap.get? l=some { cls:=.type "list",data:=.seq its.toArray n }) (hf:f its.toArray=its'.toArray) (hv:zN ys its') (hz:ys.length<=sizeLine) :
  zE X pins σ (upd H l (.lst ys)) { s with heap:=s.heap.update l (Obj.mapSeq f),toks:=t' }:=by
 have q:=PySem.IsL.update e f
 rw [hf] at q
 refine I.write (x:=l) (e:=l) (by rw [hH]; exact trivial) (.inl rfl) (λb' u hb hu=>(Heap.get?_update_other s.heap (Obj.mapSeq f) (Ne.symm hb)).trans hu) ⟨_,q⟩ ?_
 exact ⟨hz,its',_,hv,q⟩
theorem zE.lnew {its:List Value} {t':Nat} (I:zE X pins σ H s) (hv:zN ys its) (hz:ys.length<=sizeLine) :
  zE X pins σ (upd H s.heap.objs.size (.lst ys)) { s with heap:=s.heap.push { cls:=.type "list",data:=.seq its.toArray },toks:=t' }:=
 I.laid (λ_ _ q=>Heap.get?_push_of_some _ q) (Nat.le_refl _) ⟨hz,its,0,hv,Heap.get?_push_size _ rfl⟩
theorem zE.fresh (I:zE X pins σ H s):H s.heap.objs.size=none:=I.hok.fresh (Nat.le_refl _)
theorem zE.lstM (I:zE X pins σ H s) (hH:H l=some (.lst xs)):xs.length<=sizeLine/\∃ (its:List Value) (n:Nat),zN xs its/\xs.length=its.length/\s.heap.get? l=some { cls:=.type "list",data:=.seq its.toArray n }:=by
 obtain ⟨z,its,n,r,e⟩:=I.hok l _ hH
 exact ⟨z,its,n,r,r.length,e⟩
theorem Xe {n:Nat} (h:n<=sizeLine):Builtin.List.listTooLong n=false:=by
 unfold Builtin.List.listTooLong
 exact decide_eq_false (by omega)
end
section
variable {X:Cx}
noncomputable def Xf:V->List V->Hp->VK->Prop:=λx vs H Q=>∃ l xs y,x=.ref l/\vs=[y]/\H l=some (.lst xs)/\xs.length < sizeLine/\Q .non (upd H l (.lst (xs++[y])))
theorem Xg:gX X "list.append" Xf:=by
 intro pins s σ H x vs v us Q I rx rv h
 obtain ⟨l,xs,y,rfl,rfl,hH,hz,q⟩:=h
 cases rx
 obtain ⟨u,rfl,ru⟩:=rv.one
 obtain ⟨z,its,n,r,hl,e⟩:=I.lstM hH
 refine call_meets F.slot_list_append ⟨_,e,rfl⟩ F.entry_list_append (F.args_list_append_2 _ _) (PySem.list_append l its.toArray n u (by rw [List.size_toArray]; omega)) ⟨e,?_⟩
 refine ⟨.non,_,I.lset (its':=its++[u]) hH e (by simp) (r.append (.cons ru .nil)) ?_,rfl,q⟩
 rw [List.length_append,List.length_singleton]
 omega
noncomputable def gY:R2:=λx y H Q=>∃ l b xs zs,x=.ref l/\y=.ref b/\H l=some (.lst xs)/\H b=some (.lst zs)/\xs.length + zs.length<=sizeLine/\∀ p,H p=none->Q (.ref p) (upd H p (.lst (xs++zs)))
theorem Xh:yj X (binaryOp .Add) gY:=by
 intro pins s σ H x y v u Q I rx ry h
 obtain ⟨l,b,xs,zs,rfl,rfl,hH,hB,hz,q⟩:=h
 cases rx
 cases ry
 obtain ⟨z,its,n,r,hl,e⟩:=I.lstM hH
 obtain ⟨z2,its2,n2,r2,hl2,e2⟩:=I.lstM hB
 refine PySem.P.add_list e e2 ?_ (by rw [List.size_toArray,List.size_toArray]; omega)
 have ea:its.toArray++its2.toArray=(its++its2).toArray:=by simp
 rw [ea]
 exact ⟨.ref _,_,I.lnew (t':=s.toks) (r.append r2) (by rw [List.length_append]; omega),rfl,q _ I.fresh⟩
noncomputable def gZ:R2:=λx y H Q=>∃ l k xs,x=.ref l/\y=.int k/\H l=some (.lst xs)/\-(2 ^ 63)<=k/\k < 2 ^ 63/\xs.length * k.toNat<=sizeLine∧
 ∀ p,H p=none->Q (.ref p) (upd H p (.lst (List.replicate k.toNat xs).flatten))
theorem Xi {α:Type} (xs:List α) (k:Nat):(List.replicate k xs).flatten.length=k * xs.length:=by
 induction k with
 | zero=>simp
 | succ k ih=>rw [List.replicate_succ,List.flatten_cons,List.length_append,ih,Nat.succ_mul,Nat.add_comm]
theorem Xj:yj X (binaryOp .Mult) gZ:=by
 intro pins s σ H x y v u Q I rx ry h
 obtain ⟨l,k,xs,rfl,rfl,hH,h1,h2,hz,q⟩:=h
 cases rx
 obtain ⟨t,rfl⟩:=ry
 obtain ⟨z,its,n,r,hl,e⟩:=I.lstM hH
 have hlen:its.toArray.size * k.toNat<=sizeLine:=by rw [List.size_toArray,<- hl]; exact hz
 have hcap:¬ its.toArray.size * k.toNat > (2 ^ 63 - 1) / 8:=by
  have:(sizeLine:Nat)<=(2 ^ 63 - 1) / 8:=by decide
  omega
 have hfit:¬ (!Builtin.List.listFitsIndex k)=true:=by
  rw [fitsIndex_both h1 h2]
  exact Bool.false_ne_true
 have hlong:¬ Builtin.List.listTooLong (its.toArray.size * k.toNat)=true:=by
  rw [Xe hlen]
  exact Bool.false_ne_true
 have hnew:List.foldl (λx1 x2=>x1++x2) #[] (List.replicate (if its.toArray.isEmpty=true then 0 else k.toNat) its.toArray)=(List.replicate k.toNat its).flatten.toArray:=by
  have f0:∀ m:Nat,List.foldl (λx1 x2=>x1++x2) #[] (List.replicate m its.toArray)=(List.replicate m its).flatten.toArray:=λm=>by
   have:=Zd its m []
   rw [List.nil_append] at this
   exact this
  rw [f0]
  cases its with
  | nil=>simp
  | cons a r'=>rw [if_neg (by simp)]
 refine wpAny_binaryOp_repeat_ref (T:="list") (U:="int") (by decide) ⟨_,e,rfl⟩ (λs'=>typeIs_int s' k t) noFill_list_mul F.fills_int_mul F.slot_int_rmul repeat_list F.slot_int_index.lookup
  (call_meets F.slot_int_rmul (typeIs_int s k t) F.entry_int_rmul (F.args_int_rmul_2 _ _) (int___rmul___int_list k t l its.toArray n)
   ⟨e,rfl,⟨_,e,rfl⟩,call_meets F.slot_list_mul ⟨_,e,rfl⟩ F.entry_list_mul (F.args_list_mul_2 _ _) (AutoListH.list___mul___list_int_3 l its.toArray n k t hfit hcap hlong) ⟨e,?_⟩⟩)
 rw [hnew]
 exact ⟨.ref _,_,I.lnew (t':=s.toks) (r.rep k.toNat) (by rw [Xi,Nat.mul_comm]; exact hz),rfl,q _ I.fresh⟩
end
section
variable {prog:Program} {w:World} {A:Around} {E:Value->Shared->Prop} {s:Shared}
end
section
variable {X:Cx}
end
end L2
namespace Att
open PySem PySem.W PySem.Calls PyProof.Rows
theorem Xk {P:Params} {h:Heap}:∀ (ns:List Int) (vs:List Value),WellAll P h vs (ns.map WData.int)->IntsAre vs ns:=by
 intro ns
 induction ns with
 | nil=>
  intro vs w
  rw [List.map_nil] at w
  cases w
  exact .nil
 | cons n ns ih=>
  intro vs w
  rw [List.map_cons] at w
  cases w with
  | cons a b=>
   cases a
   exact .cons _ _ (ih _ b)
theorem Xl {l:OpenLaw} {n:Nat} (hn:l.most=some n) {P:Params} {h:Heap} {args:List WData} {vals:List Value}
  (hpre:l.row.toRowW.claim.pre args=true) (hwl:WellAll P h vals args) :
  ∃ a vs ns,vals=[Value.ref a]/\args=[WData.list (ns.map WData.int)]/\h.get? a=some { cls:=.type "list",data:=.seq vs.toArray }/\IntsAre vs ns/\ns.length<=n:=by
 have hsh:WShape.hasAll [] args [.list .int]=true:=(pre_splitW hpre).1
 have hc:l.pre.holds [] { args:=args }=true:=(pre_splitW hpre).2
 obtain ⟨d,r,rfl,h1,h2⟩:=hasAllW_cons hsh
 obtain rfl:=hasAllW_nil h2
 obtain ⟨xs,rfl,h3⟩:=hasW_list h1
 obtain ⟨ns,rfl⟩:=items_int h3
 have hlen:ns.length<=n:=by
  unfold OpenLaw.pre at hc
  have h4:(WTm.not (.lt (.lit (.int (n:Int))) (.len (.arg 0)))).holds [] { args:=[.list (ns.map .int)] }=true:=by
   have h4:=(holds_andW hc).1
   rw [hn] at h4
   exact h4
  have h5:=condW_of h4 (w_not (w_lt w_lit (w_len_list (w_arg rfl))))
  rw [List.length_map] at h5
  refine Nat.le_of_not_lt λq=>?_
  have q':(n:Int) < ((ns.length:Nat):Int):=by omega
  first
   | (rw [decide_eq_true q'] at h5; exact absurd h5 (by decide))
   | (simp at h5; omega)
 cases hwl with
 | cons w1 w2=>
  cases w2
  cases w1 with
  | list ho hall=>exact ⟨_,_,ns,rfl,rfl,ho,Xk ns _ hall,hlen⟩
theorem Xm (l:OpenLaw) (args:List WData):l.row.toRowW.claim.post args (.bool true) args=true:=
 postW_of (r:=l.row.toRowW) (X:=(true == true))
  (show WShape.has [] (.bool true) .bool=true by first | rfl | decide | simp [WShape.has,WShape.arms,WShape.armsAll])
  (show (WTm.eq .res (.lit (.bool true))).value [] { args:=args,res:=some (.bool true),after:=args }=some (.bool (true == true)) from w_eq_bool (w_res rfl) w_lit) rfl
theorem attach_call {l:OpenLaw} {n:Nat} {q:Program} {loose:List Str} {XP:(Str->Option Value)->Heap->Prop} {YP:World->Heap->Prop} {d:DefRec}
  (hn:l.most=some n) (hdf:d.params.defaults=[])
  (call:∀ (w:World) (s₀ s₁:Shared) (mg mb:Str->Option Value) (fa:Addr) (o:Obj) (pm cd doc:Value) (a:Addr) (vs:List Value) (ns:List Int),
   Ground q loose [] XP w s₀ mg mb s₁.heap->YP w s₁.heap->
   s₁.heap.get? fa=some o->o.data=.func (docDef d.name d.params d.body d.scope pm cd doc)->s₁.heap.CodeRec cd d.name->mg d.name=some (.ref fa)->
   s₁.heap.get? a=some { cls:=.type "list",data:=.seq vs.toArray }->IntsAre vs ns->ns.length<=n->s₁.gens=#[]->
   codeAny (model l.prog w) callerA (.call (.ref fa) ⟨[.ref a],[]⟩) (λr s'=>r=.ok (.ret (.bool true))/\OldK s₁.heap s'.heap/\s'.os=s₁.os/\AllBare s'.gens) s₁) :
  WalkO q loose XP YP l.row.toRowW d [] (λf vs=>PySem.call f vs):=by
 intro w s₀ s₁ mg mb G Y fa o pm cd doc dV kV ho hd hcd hD hmg hg args vals as hpre hlay hrd hwl hlo
 obtain rfl:dV=.none:=Dflts.none hD hdf
 obtain rfl:kV=.none:=Dflts.noKw hD
 obtain ⟨a,vs,ns,rfl,rfl,hobj,hints,hlen⟩:=Xl hn hpre hwl
 refine enter_call (codeAny_mono (call w s₀ s₁ mg mb fa o pm cd doc a vs ns G Y ho (fd_plain hd) hcd hmg hobj hints hlen hg) λr s' hq=>?_)
 obtain ⟨rfl,h2,h3,h4⟩:=hq
 exact ⟨.inl ⟨.bool true,.bool true,[],rfl,λ_=>rfl,.bool true,Xm l _,λ_=>⟨List.Pairwise.nil,λ_ hm=>(nomatch hm)⟩⟩,h2,h3,h4⟩
section
variable {prog:Program} {w:World} {A:Around} {E:Value->Shared->Prop} {s:Shared} {K:Frag}
end
end Att
namespace L2
open PySem PySem.Spec PyProof.Rows
theorem Ze:∀ {vs:List Value} {ns:List Int},IntsAre vs ns->zN (ns.map V.int) vs
 | _,_,.nil=>.nil
 | _,_,.cons n t h=>.cons ⟨t,rfl⟩ (Ze h)
noncomputable def uA (H:Hp):Prop:=∀ b,H b=none\/∃ o xs,H b=some (.frz o (.lst xs))
theorem law_call {P:Program} {w:World} {K:PySem.W.Frag} {mg mb:Str->Option Value} {CX:xL} {k:Nat} {fa a:Addr} {fd:FuncData} {x:Str} {sp:Sp} {s₁:Shared} {vs:List Value} {ns:List Int}
  (KX:K.In s₁.heap) (hns:s₁.heap.Ns mainGlobals mg) (hb:s₁.heap.Ns builtinsNs mb) (hbb:∀ x:Str,x≠"__name__"->mb x=bootBuiltins x) (hlim:s₁.heap.NoLimit) (hg:s₁.gens=#[])
  (ha:s₁.heap.get? a=some { cls:=.type "list",data:=.seq vs.toArray }) (hi:IntsAre vs ns) (hl:ns.length<=sizeLine) (hr:zd k callerA)
  (F:∀ base:Heap,K.In base->base.Ns mainGlobals mg->zP P w K mg base CX k fa fd [x] sp) (hbind:∀ (s:Shared) (u:Value),BindsTo s fd ⟨[u],[]⟩ [(x,u)])
  (hsp:∀ H:Hp,uA H->zM K H a (ns.map V.int)->sp [.ref a] H (λv _=>v=.bl true) λ_ _ _=>False)
  (hCX:∀ H e s',CX [] H s₁ (λ_ _ _=>False) e s'->False) :
  codeAny (model P w) callerA (.call (.ref fa) ⟨[.ref a],[]⟩) (λr s'=>r=.ok (.ret (.bool true))/\OldK s₁.heap s'.heap/\s'.os=s₁.os/\AllBare s'.gens) s₁:=by
 have rv:=Ze hi
 have lenV:=hi.length
 have core:∀ H:Hp,uA H->zM K H a (ns.map V.int)->yW P w H s₁.heap->(∀ b,H b≠none->b=a)->(H a≠none->K.lookup a=none)->
   codeAny (model P w) callerA (.call (.ref fa) ⟨[.ref a],[]⟩) (λr s'=>r=.ok (.ret (.bool true))/\OldK s₁.heap s'.heap/\s'.os=s₁.os/\AllBare s'.gens) s₁:=by
  intro H hO hS hok hA hK
  have base_of:∀ {b:Addr} {o:Obj},s₁.heap.get? b=some o->H b=none->(xR s₁.heap H).get? b=some o:=λe n=>Yo e n
  have noA:∀ {b:Addr} {o:Obj} {es:Array DictEntry} {ep:Nat},s₁.heap.get? b=some o->o.data=.dict es ep->H b=none:=λ{b o es ep} e d=>by
   cases q:H b with
   | none=>rfl
   | some u=>
    have e':b=a:=hA b (by rw [q]; simp)
    subst e'
    rw [ha] at e; cases e
    have d':Data.seq vs.toArray _=Data.dict es ep:=d
    cases d'
  have nsK:∀ {b:Addr} {m:Str->Option Value},s₁.heap.Ns b m->(xR s₁.heap H).Ns b m:=λ{b m} ⟨o,es,ep,e,d,r⟩=>⟨o,es,ep,base_of e (noA e d),d,r⟩
  have hKb:K.In (xR s₁.heap H):=λb o e=>base_of (KX b o e) (by
   cases q:H b with
   | none=>rfl
   | some u=>
    have e':b=a:=hA b (by rw [q]; simp)
    subst e'
    rw [hK (by rw [q]; simp)] at e; cases e)
  have hM:Mod K mg (xR s₁.heap H):=⟨hKb,nsK hns,⟨mb,nsK hb,hbb⟩,let ⟨mc,h1,h2⟩:=hlim; ⟨mc,nsK h1,h2⟩⟩
  have e0:y6 P w K mg (xR s₁.heap H) callerA [] s₁ H:=⟨rfl,hM,λb o e=>Yp e,Nat.le_of_eq (Yn _ _),trivial,λb hb=>absurd (show b∈([]:List Addr) from hb) (by simp),hok,.of_eq hg⟩
  refine codeAny_mono ((F _ hKb (nsK hns)).run callerA [] s₁ H ⟨[.ref a],[]⟩ [.ref a] [.ref a] _ _ hr e0 (hbind s₁ (.ref a)) (.cons rfl .nil) (hsp H hO hS)) λr s' h=>?_
  cases r with
  | error e=>exact (hCX H e s' h).elim
  | ok fl=>
   cases fl with
   | next=>exact False.elim h
   | brk=>exact False.elim h
   | cont=>exact False.elim h
   | ret u=>
    obtain ⟨v,H',os,bare,un,hok',r',q⟩:=h
    have q':v=.bl true:=q
    subst q'
    obtain rfl:u=Value.bool true:=r'
    refine ⟨rfl,OldK.of_keep λb o e=>?_,os,bare⟩
    cases q:H b with
    | none=>exact un.keep b o e q (by intro z; exact absurd (show b∈([]:List Addr) from z) (by simp)) (by simp)
    | some u=>
     rcases hO b with z | ⟨ob,xs,z⟩
     ·rw [q] at z; cases z
     ·have z2:=un.frzs b ob _ z
      obtain ⟨e1,_⟩:=hok b _ z
      obtain ⟨e2,_⟩:=hok' b _ z2
      rw [e] at e1; cases e1
      exact e2
 cases hk:K.lookup a with
 | some o=>
  have e:=KX a o hk
  rw [ha] at e
  cases e
  refine core (λ_=>none) (λ_=>.inl rfl) (.inr ⟨_,vs.toArray,_,hk,rfl,rfl,rfl,by rw [List.size_toArray,lenV]; exact hl,by simpa using rv⟩) (λb u z=>by have z':(none:Option HO)=some u:=z; cases z') (λb z=>absurd rfl z) λz=>absurd rfl z
 | none=>
  refine core (λb=>if b=a then some (.frz { cls:=.type "list",data:=.seq vs.toArray } (.lst (ns.map V.int))) else none) (λb=>?_) (.inl (.inr ⟨{ cls:=.type "list",data:=.seq vs.toArray },if_pos rfl⟩)) (λb u z=>?_) (λb z=>?_) λ_=>hk
  ·by_cases hb:b=a
   ·exact .inr ⟨_,_,if_pos hb⟩
   ·exact .inl (if_neg hb)
  ·by_cases hb:b=a
   ·have z':=(if_pos hb).symm.trans z
    cases z'
    subst hb
    exact ⟨ha,by rw [List.length_map]; exact hl,vs,_,rv,ha⟩
   ·have z':=(if_neg hb).symm.trans z
    cases z'
  ·by_cases hb:b=a
   ·exact hb
   ·exact absurd (if_neg hb) z
end L2
namespace L2
open PySem PySem.Spec PyProof.Rows
theorem Xn {l:PySem.W.OpenLaw} {n k:Nat} {q:Program} {loose:List Str} {XP:(Str->Option Value)->Heap->Prop} {YP:World->Heap->Prop} {d:DefRec} {K:Params->PySem.W.Frag} {CX:World->xL} {sp:World->Sp} {x:Str}
  (hn:l.most=some n) (hn2:n<=sizeLine) (hdf:d.params.defaults=[]) (hr:zd k callerA)
  (hY:∀ (w:World) (h:Heap),YP w h->(K w.params).In h)
  (F:∀ (w:World) (mg:Str->Option Value) (fa:Addr) (h:Heap),(K w.params).In h->h.Ns mainGlobals mg->mg d.name=some (.ref fa)->
   ∃ fd:FuncData,(∀ (s:Shared) (u:Value),BindsTo s fd ⟨[u],[]⟩ [(x,u)])∧
    ∀ base:Heap,(K w.params).In base->base.Ns mainGlobals mg->zP l.prog w (K w.params) mg base (CX w) k fa fd [x] (sp w))
  (hsp:∀ (w:World) (H:Hp) (a:Addr) (ns:List Int),ns.length<=n->uA H->zM (K w.params) H a (ns.map V.int)->sp w [.ref a] H (λv _=>v=.bl true) λ_ _ _=>False)
  (hCX:∀ (w:World) (H:Hp) (s:Shared) (e:Value) (s':Shared),CX w [] H s (λ_ _ _=>False) e s'->False) :
  PySem.W.WalkO q loose XP YP l.row.toRowW d [] (λf vs=>PySem.call f vs):=by
 refine Att.attach_call hn hdf λw s₀ s₁ mg mb fa o pm cd doc a vs ns G Y ho hd hcd hmg hobj hints hlen hg=>?_
 have KX:=hY w _ Y
 obtain ⟨fd,hb,hF⟩:=F w mg fa _ KX G.T.g hmg
 exact law_call KX G.T.g G.T.b G.T.builtins G.T.nolimit hg hobj hints (Nat.le_trans hlen hn2) hr hF hb (λH hO hS=>hsp w H a ns hlen hO hS) λH e s'=>hCX w H s₁ e s'
end L2
namespace L2
open PySem PySem.Spec PyProof.Rows
noncomputable def Zf (s:Stmt) (j:Nat):Stmt:=match s with
 | .ClassDef _ _ _ body _ _ _ _ _ _ _=>body.getD j (.Pass ⟨0,0,0,0⟩)
 | _=>.Pass ⟨0,0,0,0⟩
noncomputable def xr (s:Stmt):Arguments:=match s with
 | .FunctionDef _ a _ _ _ _ _ _ _ _=>a
 | _=>{ posonlyargs:=[],args:=[],vararg:=none,kwonlyargs:=[],kw_defaults:=[],kwarg:=none,defaults:=[] }
noncomputable def yQ (s:Stmt):List Stmt:=match s with
 | .FunctionDef _ _ b _ _ _ _ _ _ _=>b
 | _=>[]
noncomputable def zQ (s:Stmt):Scope:=match s with
 | .FunctionDef _ _ _ _ _ _ sc _ _ _=>sc
 | _=>{ kind:=.function,names:=[],isGenerator:=false,isCoroutine:=false }
noncomputable abbrev zX:xL:=λ_ _ _ _ _ _=>False
noncomputable abbrev E0:XK:=λ_ _ _=>False
theorem qG {X:Cx}:v8 zX X E0:=λ_ _ _ _ _ _ _ h=>h.elim
structure yT (K:PySem.W.Frag) (x qual:Str) (st:Stmt) (f:Addr) (fd:FuncData):Prop where
 ex:∃ (oc:Value) (od:Option Addr) (kV doc pm:Value) (an:Option Addr) (cdv ct:Value) (osl:Array (Option Value)),
  fd=PySem.W.fnOf x qual (xr st) (yQ st) (zQ st) .none kV doc pm an cdv ct/\K.lookup f=some ⟨oc,od,.func fd,osl⟩/\PySem.W.codeIn K cdv qual=true
 kp:PySem.W.keepIn K (.ref f)=true
section
variable {P:Program} {w:World} {K:PySem.W.Frag} {mg:Str->Option Value} {base:Heap}
theorem yT.ok {x qual:Str} {st:Stmt} {f:Addr} {fd:FuncData} {N ps:List Str} {k:Nat} {sp:Sp} (F:yT K x qual st f fd) (S:yS N ps (zQ st)) (len:∀ vs H Q E,sp vs H Q E->vs.length=ps.length)
  (hbody:∀ (cdv:Value) (A:Around) (outer:List Env) (s:Shared) (H:Hp) (vs:List V) (Q:VK) (E:XK),zd k (A.deeper (envOfC qual (zQ st) s.heap.objs.size f cdv))->sp vs H Q E->
   ∃ t,yi (zF zX P w K mg base N qual (zQ st) f cdv A outer s H E).nox (yQ st) t/\t { nx:=λ_ H'=>Q .non H',rt:=Q } (xT N vs) H):zP P w K mg base zX (k + 1) f fd ps sp:=by
 obtain ⟨oc,od,kV,doc,pm,an,cdv,ct,osl,rfl,lk,hcd⟩:=F.ex
 refine qD lk hcd S len λA outer s H vs Q E hr hsp=>?_
 obtain ⟨t,h,q⟩:=hbody cdv A outer s H vs Q E hr hsp
 exact ⟨t,h.nox,q⟩
theorem yT.binds {x qual:Str} {st:Stmt} {f:Addr} {fd:FuncData} {ps:List Str} (F:yT K x qual st f fd)
  (h:∀ (kV doc pm:Value) (an:Option Addr) (cdv ct:Value) (us:List Value),us.length=ps.length->bindArgs (PySem.W.fnOf x qual (xr st) (yQ st) (zQ st) .none kV doc pm an cdv ct) ⟨us,[]⟩=pure (ps.zip us)):xF K fd ps []:=by
 obtain ⟨oc,od,kV,doc,pm,an,cdv,ct,osl,rfl,lk,hcd⟩:=F.ex
 exact .all (h kV doc pm an cdv ct)
theorem Zg {x qual:Str} {st:Stmt} {f:Addr} {oc:Value} {od an:Option Addr} {osl:Array (Option Value)} {kV doc pm cdv ct:Value} (l:K.lookup f=some ⟨oc,od,.func (PySem.W.fnOf x qual (xr st) (yQ st) (zQ st) .none kV doc pm an cdv ct),osl⟩)
  (c:PySem.W.codeIn K cdv qual=true) (k:PySem.W.keepIn K (.ref f)=true):yT K x qual st f (PySem.W.fnOf x qual (xr st) (yQ st) (zQ st) .none kV doc pm an cdv ct):=⟨⟨oc,od,kV,doc,pm,an,cdv,ct,osl,rfl,l,c⟩,k⟩
end
theorem zq {n:Nat} (h:n<=1000):n < sizeLine:=Nat.lt_of_le_of_lt h (by decide)
section
variable {X:Cx}
theorem pv (i:Nat) {x:Str} {pos:Pos} (hN:X.N[i]? = some x:=by rfl) (hv:vt X.env.scope x:=by first | exact Or.inl rfl | exact Or.inr (Or.inl rfl) | exact Or.inr (Or.inr rfl)) (hd:(x == ("__debug__" : Str))=false:=by decide)
  (hcd:(x == ("__classdict__" : Str))=false:=by decide):PE X (.Name x pos) (um i):=ZB hN hv hd hcd
end
theorem xU {A B:Prop} (h:B):if false=true then A else B:=by
 rw [if_neg Bool.false_ne_true]
 exact h
theorem xj {A B:Prop} (h:A):if true=true then A else B:=by
 rw [if_pos rfl]
 exact h
theorem yR {c A B:Prop} [Decidable c] (h1:c->A) (h2:¬ c->B):if c then A else B:=by
 by_cases h:c
 ·rw [if_pos h]
  exact h1 h
 ·rw [if_neg h]
  exact h2 h
noncomputable def zC (H H':Hp):Prop:=∀ b o,H b=some o->H' b=some o
theorem zC.refl (H:Hp):zC H H:=λ_ _ h=>h
theorem zC.trans {H H1 H2:Hp} (a:zC H H1) (b:zC H1 H2):zC H H2:=λc o h=>b c o (a c o h)
theorem zC.free {H H':Hp} (e:zC H H') {l:Addr} (h:H' l=Option.none):H l=Option.none:=by
 cases q:H l with
 | none=>rfl
 | some o=>
  rw [e l o q] at h
  cases h
theorem zC.seq {K:PySem.W.Frag} {H H':Hp} {a:Addr} {xs:List V} (e:zC H H') (h:zM K H a xs):zM K H' a xs:=by
 rcases h with (h | ⟨o,h⟩) | h
 ·exact .inl (.inl (e _ _ h))
 ·exact .inl (.inr ⟨o,e _ _ h⟩)
 ·exact .inr h
end L2
set_option maxHeartbeats 4000000
namespace Sh
end Sh
namespace Sh
end Sh
namespace L2
open PySem
noncomputable def wb (env:Env) (cs:List (Str × Addr)) (p:Str × NameKind):List (Str × Addr):=if (p.2 == .free)=true then (p.1,(env.cells.lookup p.1).getD 0) :: cs else cs
noncomputable def xP (scope:Scope) (env:Env):List (Str × Addr):=scope.names.foldl (wb env) []
theorem Xo {env:Env}:∀ (names:List (Str × NameKind)) (cs:List (Str × Addr)),(∀ p∈names,p.2=.free->(env.cells.lookup p.1).isSome=true)->
  (forIn names cs (λ(p:Str × NameKind) (r:List (Str × Addr))=>(if (p.2 == .free)=true then do let a <- cellOf env p.1; pure (ForInStep.yield ((p.1,a) :: r)) else pure (ForInStep.yield r):Sem (ForInStep (List (Str × Addr))))))=pure (names.foldl (wb env) cs):=by
 intro names
 induction names with
 | nil=>intro cs _; rfl
 | cons p r ih=>
  intro cs h
  obtain ⟨n,k⟩:=p
  rw [List.forIn_cons]
  by_cases hk:k=.free
  ·subst hk
   obtain ⟨c,hc⟩:=Option.isSome_iff_exists.mp (h (n,.free) List.mem_cons_self rfl)
   have e:cellOf env n=pure c:=by unfold cellOf; dsimp only at hc; rw [hc]
   have z:wb env cs (n,.free)=(n,c) :: cs:=by unfold wb; dsimp only at hc |-; rw [hc]; rfl
   simp only [e,beq_self_eq_true,if_true,pure_bind,List.foldl_cons,z]
   exact ih _ λq hq=>h q (List.mem_cons_of_mem _ hq)
  ·have b:(k == NameKind.free)=false:=by simpa using hk
   have z:wb env cs (n,k)=cs:=by unfold wb; dsimp only; rw [b]; rfl
   simp only [b,Bool.false_eq_true,if_false,pure_bind,List.foldl_cons,z]
   exact ih _ λq hq=>h q (List.mem_cons_of_mem _ hq)
theorem jB {scope:Scope} {env:Env} (h:∀ p∈scope.names,p.2=.free->(env.cells.lookup p.1).isSome=true):closureFor scope env=pure (xP scope env):=by
 unfold closureFor xP
 have:=Xo scope.names [] h
 exact (congrArg (λm=>m >>= λr=>pure r) this).trans rfl
theorem Xp {env:Env}:∀ (names:List (Str × NameKind)) (cs:List (Str × Addr)) (x:Str) (c:Addr),(x,c)∈names.foldl (wb env) cs->(x,c)∈cs\/((x,NameKind.free)∈names/\c=(env.cells.lookup x).getD 0):=by
 intro names
 induction names with
 | nil=>intro cs x c h; exact .inl h
 | cons p r ih=>
  intro cs x c h
  obtain ⟨n,k⟩:=p
  rw [List.foldl_cons] at h
  rcases ih _ x c h with h1 | ⟨h1,h2⟩
  ·unfold wb at h1
   dsimp only at h1
   by_cases hk:k=.free
   ·subst hk
    simp only [beq_self_eq_true,if_true] at h1
    rcases List.mem_cons.mp h1 with e | h1
    ·injection e with e1 e2
     subst e1; subst e2
     exact .inr ⟨List.mem_cons_self,rfl⟩
    ·exact .inl h1
   ·have b:(k == NameKind.free)=false:=by simpa using hk
    simp only [b,Bool.false_eq_true,if_false] at h1
    exact .inl h1
  ·exact .inr ⟨List.mem_cons_of_mem _ h1,h2⟩
theorem vi {α β:Type} [BEq α] [LawfulBEq α]:∀ {l:List (α × β)} {a:α} {b:β},l.lookup a=some b->(a,b)∈l
 | [],_,_,h=>by simp at h
 | (x,y) :: r,a,b,h=>by
  rw [List.lookup_cons] at h
  by_cases e:a=x
  ·subst e
   simp only [beq_self_eq_true,if_true] at h
   cases h
   exact List.mem_cons_self
  ·have:(a == x)=false:=by simpa using e
   simp only [this] at h
   exact List.mem_cons_of_mem _ (vi h)
theorem Zh {α β:Type} [BEq α] [LawfulBEq α]:∀ {l:List (α × β)} {a:α} {b:β},(a,b)∈l->∃ c,l.lookup a=some c
 | [],_,_,h=>by cases h
 | (x,y) :: r,a,b,h=>by
  rw [List.lookup_cons]
  by_cases e:a=x
  ·subst e
   exact ⟨y,by simp⟩
  ·have z:(a == x)=false:=by simpa using e
   rcases List.mem_cons.mp h with q | q
   ·injection q with q1 _; exact absurd q1 e
   ·obtain ⟨c,hc⟩:=Zh q
    exact ⟨c,by simp only [z]; exact hc⟩
theorem Xq {env:Env}:∀ (names:List (Str × NameKind)) (cs:List (Str × Addr)) (x:Str),((x,NameKind.free)∈names\/∃ c,(x,c)∈cs)->∃ c,(x,c)∈names.foldl (wb env) cs:=by
 intro names
 induction names with
 | nil=>
  intro cs x h
  rcases h with h | h
  ·cases h
  ·exact h
 | cons p r ih=>
  intro cs x h
  rw [List.foldl_cons]
  refine ih _ x ?_
  rcases h with h | ⟨c,h⟩
  ·rcases List.mem_cons.mp h with e | h
   ·subst e
    exact .inr ⟨_,by unfold wb; simp only [beq_self_eq_true,if_true]; exact List.mem_cons_self⟩
   ·exact .inl h
  ·refine .inr ⟨c,?_⟩
   unfold wb
   split
   ·exact List.mem_cons_of_mem _ h
   ·exact h
theorem xk {scope:Scope} {env:Env} (h:∀ p∈scope.names,p.2=.free->(env.cells.lookup p.1).isSome=true) {x:Str} {c:Addr} (e:(xP scope env).lookup x=some c) :
  env.cells.lookup x=some c/\(x,NameKind.free)∈scope.names:=by
 rcases Xp scope.names [] x c (vi e) with z | ⟨z,q⟩
 ·cases z
 ·obtain ⟨d,hd⟩:=Option.isSome_iff_exists.mp (h _ z rfl)
  dsimp only at hd
  rw [hd] at q
  exact ⟨by rw [hd,q]; rfl,z⟩
theorem jC {scope:Scope} {env:Env} {x:Str} (h:(x,NameKind.free)∈scope.names):∃ c,(xP scope env).lookup x=some c:=by
 obtain ⟨c,hc⟩:=Xq (env:=env) scope.names [] x (.inl h)
 exact Zh hc
theorem Zi {scope:Scope} {env:Env} {x:Str} {k:NameKind} (h:(relabel scope env).names.lookup x=some k):(k=.cell/\((x,NameKind.free)∈scope.names\/(x,NameKind.cell)∈scope.names))\/(x,k)∈scope.names:=by
 have m:=vi h
 unfold relabel at m
 obtain ⟨⟨n,j⟩,hm,e⟩:=List.mem_map.mp m
 dsimp only at e
 split at e
 ·rename_i q
  injection e with e1 e2
  subst e1; subst e2
  have q1:j=NameKind.free:=by
   have:=(Bool.and_eq_true_iff.mp (Bool.and_eq_true_iff.mp q).1).1
   exact eq_of_beq this
  subst q1
  exact .inl ⟨rfl,.inl hm⟩
 ·injection e with e1 e2
  subst e1; subst e2
  exact .inr hm
end L2
namespace L2
open PySem
section
variable {prog:Program} {w:World} {A:Around} {R:Result->Shared->Prop} {s:Shared}
theorem Zj {elt target iter:Expr} {scope:Scope} {pos:Pos} {it acc:Value} {env:Env} (Wd:Nat->Shared->Prop)
  (turn:∀ n s,Wd n s->wpAny (model prog w) A (pyNext it) (λr s1=>match r with
   | none=>R (.ok .next) s1
   | some v=>wpAny (model prog w) A (letOwnedTupleGo target it v) (λ_ s2=>wpAny (model prog w) A (assign target env v) (λ_ s3=>wpAny (model prog w) A (eval elt env) (λx s4=>
     wpAny (model prog w) A (call (.builtin "list.append") [acc,x]) (λ_ s5=>∃ m,m < n/\Wd m s5) (λ_ _=>False) s4) (λ_ _=>False) s3) (λ_ _=>False) s2) (λ_ _=>False) s1) (λ_ _=>False) s)
  (n:Nat) (h:Wd n s):codeAny (model prog w) A (.compLoop (.ListComp elt [⟨target,iter,[],0⟩] scope pos) 0 it acc env) R s:=by
 refine codeAny_loop rfl Wd (λn s hI=>?_) n h
 show wpAny _ _ (Sem.onRaise (compTurn (.ListComp elt [⟨target,iter,[],0⟩] scope pos) 0 it acc env) _) _ _ s
 refine wpAny_noted ?_
 rw [compTurn_list1]
 refine wpAny_bind (wpAny_standAt (wpAny_bind (wpAny_mono (turn n s hI) (λr s1 h1=>?_) λ_ _ z=>False.elim z)))
 cases r with
 | none=>exact wpAny_pure h1
 | some v=>
  refine wpAny_bind (wpAny_mono h1 (λ_ s2 h2=>?_) λ_ _ z=>False.elim z)
  refine wpAny_bind (wpAny_mono h2 (λ_ s3 h3=>?_) λ_ _ z=>False.elim z)
  refine wpAny_bind (wpAny_bind (wpAny_mono h3 (λx s4 h4=>?_) λ_ _ z=>False.elim z))
  exact wpAny_bind (wpAny_mono h4 (λ_ s5 h5=>wpAny_pure (wpAny_pure ⟨rfl,h5⟩)) λ_ _ z=>False.elim z)
end
end L2
namespace L2
open PySem PySem.Spec PyProof.Rows
noncomputable def Bd (n:Nat) (i:Int):Prop:=i.natAbs < 2 ^ n
theorem Bd.mono {n m:Nat} {i:Int} (h:Bd n i) (k:n<=m:=by decide):Bd m i:=Nat.lt_of_lt_of_le h (Nat.pow_le_pow_right (by decide) k)
theorem Bd.of_le {n:Nat} {i j:Int} (h:Bd n j) (k:i.natAbs<=j.natAbs):Bd n i:=Nat.lt_of_le_of_lt k h
theorem Bd.add {n:Nat} {i j:Int} (h:Bd n i) (k:Bd n j):Bd (n + 1) (i + j):=by
 have h':i.natAbs < 2 ^ n:=h
 have k':j.natAbs < 2 ^ n:=k
 unfold Bd
 rw [Nat.pow_succ]
 have:=Int.natAbs_add_le i j
 omega
theorem Bd.neg {n:Nat} {i:Int} (h:Bd n i):Bd n (-i):=by
 unfold Bd
 rw [Int.natAbs_neg]
 exact h
theorem Bd.sub {n:Nat} {i j:Int} (h:Bd n i) (k:Bd n j):Bd (n + 1) (i - j):=by
 rw [Int.sub_eq_add_neg]
 exact h.add k.neg
theorem Bd.lit {n:Nat} {i:Int} (h:i.natAbs < 2 ^ n:=by decide):Bd n i:=h
theorem Bd.bits {n:Nat} {i:Int} (h:Bd n i):Builtin.Int.intBits i<=n:=by
 have h':i.natAbs < 2 ^ n:=h
 unfold Builtin.Int.intBits
 split
 ·exact Nat.zero_le _
 ·rename_i z
  have nz:i.natAbs≠0:=by
   intro q
   apply z
   rw [Int.natAbs_eq_zero.mp q]
   rfl
  exact (Nat.log2_lt nz).mpr h'
theorem Bd.fdiv {n:Nat} {i:Int} (h:Bd n i) (j:Int):Bd n (i.fdiv j):=
 h.of_le (Int.natAbs_fdiv_le_natAbs i j)
noncomputable def gb (i j:Int):Prop:=Bd 60000 i/\Bd 60000 j
noncomputable def jD (_ j:Int):Prop:=j≠0/\Bd 8000 j
section
variable {X:Cx}
theorem gb.ok {i j:Int} (h:gb i j):IntMulOk i j:=by
 have h1:=h.1.bits
 have h2:=h.2.bits
 have hc:Builtin.Int.intTooBig (Builtin.Int.intBits i + Builtin.Int.intBits j)=false:=by
  unfold Builtin.Int.intTooBig
  rw [bitsLine_eq]
  exact decide_eq_false (by omega)
 unfold IntMulOk
 rw [hc]
 simp
theorem vA:yj X (binaryOp .Mult) (rI gb λi j=>.int (i * j)):=j6 λ_ _ _ _ _ _ _ hc q=>mul_int q hc.ok
theorem xu:yj X (binaryOp .FloorDiv) (rI jD λi j=>.int (i.fdiv j)):=j6 λ_ _ _ _ _ _ _ hc q=>by
 refine floordiv_int hc.1 q (.inl (PyProof.noPylong_of_log2 ?_))
 have h':_ < 2 ^ 8000:=hc.2
 have nz:_≠0:=λz=>hc.1 (Int.natAbs_eq_zero.mp z)
 exact Nat.lt_trans ((Nat.log2_lt nz).mpr h') (by decide)
end
section
variable {X:Cx}
noncomputable def jE (K:PySem.W.Frag):List V->Hp->VK->Prop:=λxs H Q=>∃ x c t b,xs=[x,.ty c]/\yP K H x t/\PySem.W.kitOne K t (.type c)=some b/\Q (.bl b) H
theorem Xr:yk X (.builtin "isinstance") (jE X.K):=by
 intro pins s σ H xs us Q I r h
 obtain ⟨x,c,t,b,rfl,ty,e,q⟩:=h
 obtain ⟨u,v,rfl,ru,rv⟩:=qB r
 cases (show v=Value.type c from rv)
 exact ZQ I ru ty e λtk=>⟨.bl b,H,I.tok tk,rfl,q⟩
end
section
variable {X:Cx} {pins:List (Addr × Obj)} {σ:St} {H:Hp} {s:Shared}
end
section
variable {X:Cx}
end
section
variable {X:Cx}
theorem uT (hc:X.calm=true):yk X (.builtin "all") (λxs H Q=>∃ (p:Addr) (bs:List Bool),xs=[.ref p]/\zM X.K H p (bs.map V.bl)/\Q (.bl (bs.all id)) H):=by
 intro pins s σ H xs us Q I r h
 obtain ⟨p,bs,rfl,hq,q⟩:=h
 obtain ⟨u,rfl,ru⟩:=qA r
 cases ru
 obtain ⟨its,rv,pl,hz⟩:=I.list hq
 have hh:X.A.in1.handled=none:=I.ok.hd hc
 have hlt:p < s.heap.objs.size:=by obtain ⟨o,n,e,_⟩:=pl; exact Heap.lt_size e
 refine call_all_walk (wpAny_pyIter_list pl.isList ?_)
 have hlen:its.length=bs.length:=by rw [<- rv.length,List.length_map]
 refine ⟨s.heap.objs.size,_,_,_,_,_,λi=>bs.getD i true,rfl,Walks.list hh s.heap.objs.size p (Nat.ne_of_lt hlt) its.toArray,⟨⟨_,Heap.get?_push_size _ rfl,rfl,rfl⟩,pl.isList.push _⟩,?_,λh' tk kk=>?_⟩
 ·intro i v s' Q' E' hP hQ'
  have e1:its[i]? = some v:=by simpa using hP
  have hi:i < its.length:=(List.getElem?_eq_some_iff.mp e1).1
  have hb:(bs.map V.bl)[i]? = some (.bl (bs.getD i true)):=by
   rw [List.getElem?_map,List.getElem?_eq_getElem (by omega),List.getD_eq_getElem?_getD,List.getElem?_eq_getElem (by omega)]
   rfl
  obtain ⟨u',e2,r2⟩:=rv.get hb
  rw [e1] at e2
  cases e2
  cases r2
  exact wpAny_truthy_bool hQ'
 ·have e:(List.range its.toArray.size).all (λi=>bs.getD i true)=bs.all id:=by
   rw [List.size_toArray,hlen]
   rw [Bool.eq_iff_iff,List.all_eq_true,List.all_eq_true]
   constructor
   ·intro z b hb
    obtain ⟨i,hi,rfl⟩:=List.mem_iff_getElem.mp hb
    have:=z i (List.mem_range.mpr hi)
    rw [List.getD_eq_getElem?_getD,List.getElem?_eq_getElem hi] at this
    exact this
   ·intro z i hi
    have hi':=List.mem_range.mp hi
    rw [List.getD_eq_getElem?_getD,List.getElem?_eq_getElem hi']
    exact z _ (List.getElem_mem hi')
  refine ⟨.bl (bs.all id),H,I.kept (h':=h') (t':=tk) λb o eb=>kk b o ?_ (Heap.get?_push_of_some _ eb),?_,q⟩
  ·intro hb
   have:b=s.heap.objs.size:=by simpa using hb
   rw [this] at eb
   exact absurd (Heap.lt_size eb) (Nat.lt_irrefl _)
  ·rw [e]
   rfl
end
end L2
namespace L2
open PySem PySem.Spec PyProof.Rows
noncomputable abbrev yd (X:Cx) (scope:Scope) (N:List Str) (C:Addr) (s₀:Shared) (H₀:Hp) (ex:List Addr):Cx:=
 { X with N:=N,s₀:=s₀,H₀:=H₀,env:=compEnvC scope (xP scope X.env) C X.env,outer:=X.stack,ex:=ex,fn:=λ_=>false,pn:=[],xe:=λ_ _=>False }
noncomputable def xV (own:List Str) (caps:List (Nat × Str)) (σ:St):St:=own.map (λ_=>none)++caps.map λp=>(σ[p.1]?).getD none
noncomputable abbrev zR (own:List Str) (caps:List (Nat × Str)):List Str:=own++caps.map (·.2)
structure vS (X:Cx) (scope:Scope) (own:List Str) (caps:List (Nat × Str)):Prop where
 kind:scope.kind=.function
 ncell:∀ y∈scope.names,y.2≠.cell
 locs:∀ y∈scope.names,y.2=.local->scope.names.lookup y.1=some .local
 free:∀ y∈scope.names,y.2=.free->(X.env.cells.lookup y.1).isSome=true
 caps:∀ p∈caps,X.N[p.1]? = some p.2/\scope.names.lookup p.2=some .free/\(X.env.kindOf p.2=some .cell\/X.env.kindOf p.2=some .free)
theorem qH {scope:Scope} {env:Env} {x:Str}:(relabel scope env).names.lookup x=(scope.names.lookup x).map λk=>if (k == .free && env.scope.kind == .function && env.kindOf x == some .cell)=true then .cell else k:=by
 unfold relabel
 generalize scope.names=l
 induction l with
 | nil=>rfl
 | cons p r ih=>
  obtain ⟨n,k⟩:=p
  rw [List.map_cons]
  by_cases e:x=n
  ·subst e
   by_cases c:(k == NameKind.free && env.scope.kind == .function && env.kindOf x == some .cell)=true
   ·simp only [c,if_true,List.lookup_cons,beq_self_eq_true,Option.map_some]
   ·simp only [c,if_false,List.lookup_cons,beq_self_eq_true,Option.map_some,Bool.false_eq_true]
  ·have z:(x == n)=false:=by simpa using e
   dsimp only
   split <;> simp only [List.lookup_cons,z] <;> exact ih
theorem Xs {scope:Scope} {env:Env} {x:Str} (nc:∀ y∈scope.names,y.2≠.cell) (h:(relabel scope env).names.lookup x=some .cell\/(relabel scope env).names.lookup x=some .free):(x,NameKind.free)∈scope.names:=by
 rw [qH] at h
 cases e:scope.names.lookup x with
 | none=>rw [e] at h; rcases h with h | h <;> cases h
 | some k=>
  have m:=vi e
  rw [e] at h
  simp only [Option.map_some,Option.some.injEq] at h
  have kf:k=.free:=by
   rcases h with h | h
   ·split at h
    ·rename_i q
     exact eq_of_beq (Bool.and_eq_true_iff.mp (Bool.and_eq_true_iff.mp q).1).1
    ·exact absurd h (nc _ m)
   ·split at h
    ·cases h
    ·exact h
  rw [<- kf]
  exact m
noncomputable def qI (J:It) (g:TG) (te:TE) (Q:VK) (σ0:St) (H1:Hp):Prop:=∃ W:Nat->Nat->List V->St->Hp->Prop,(∃ m,W 0 m [] σ0 H1)∧
 ∀ i m ys σ1 H,W i m ys σ1 H->(J.stop i H/\∀ p,H p=none->Q (.ref p) (upd H p (.lst ys)))∨
  (J.go i H/\ys.length < sizeLine/\∃ N:V->St->Hp->Prop,(∀ y σ' H',N y σ' H'->∃ m',m' < m/\W (i + 1) m' (ys++[y]) σ' H')/\∀ x H',J.yld i H x H'->g x σ1 H' λσ2 H2=>te σ2 H2 λy H3=>N y σ2 H3)
noncomputable def qJ (own:List Str) (caps:List (Nat × Str)) (wi:TI) (g:TG) (te:TE):TE:=λσ H Q=>wi σ H λJ H1=>qI J g te Q (xV own caps σ) H1
section
variable {X:Cx} {scope:Scope} {own:List Str} {caps:List (Nat × Str)} {pins:List (Addr × Obj)} {σ:St} {H:Hp} {s s4:Shared} {C D:Addr} {fp:List Addr}
theorem Xu (B:vS X scope own caps) (I:zE X pins σ H s) (hf:∀ b∈fp,zp X pins H b) (hC:s.heap.objs.size<=C) (hlt:∀ b∈fp,b < s.heap.objs.size):(yd X scope (zR own caps) C s H fp).Ok where
 mod:=I.ok.mod
 kind:=B.kind
 glob:=I.ok.glob
 blt:=I.ok.blt
 above:=hC
 inj:=λx y c h1 h2=>I.ok.inj x y c (xk B.free h1).1 (xk B.free h2).1
 has:=λx h=>jC (Xs B.ncell h)
 cab:=λx c h _=>by cases h
 hd:=I.ok.hd
 frames:=I.ok.frames
 stk:=.inl rfl
 exf:=λb hb=>⟨λe=>by have:=hlt b hb; rw [e] at this; exact absurd (Nat.lt_of_lt_of_le this hC) (Nat.lt_irrefl _),λx c e=>(hf b hb).2.2.2.2.1 x c (xk B.free e).1⟩
 bs:=I.bs
 bsz:=Nat.le_trans I.ok.bsz I.sz
 noex:=λb o e hb=>by
  rcases (hf b hb).2.2.2.1 with z | z
  ·exact I.ok.noex b o e z
  ·exact absurd (Nat.lt_of_lt_of_le (Heap.lt_size e) (Nat.le_trans I.ok.bsz z)) (Nat.lt_irrefl _)
 exfs:=λb hb z=>by
  rcases List.mem_cons.mp (I.stkSub b z) with e | z
  ·exact (hf b hb).2.1 e
  ·exact (hf b hb).2.2.1 z
 funs:=I.stack
 frf:=I.stkFree
theorem Zk {i:Nat} {x:Str} {v:V} (h1:(zR own caps)[i]? = some x) (h2:(xV own caps σ)[i]? = some (some v)):∃ j,(j,x)∈caps/\σ[j]? = some (some v):=by
 unfold xV at h2
 by_cases hi:i < own.length
 ·rw [List.getElem?_append_left (by simpa using hi),List.getElem?_map] at h2
  cases e:own[i]? with
  | none=>rw [e] at h2; cases h2
  | some a=>rw [e] at h2; cases h2
 ·rw [List.getElem?_append_right (by simpa using hi),List.length_map,List.getElem?_map] at h2
  unfold zR at h1
  rw [List.getElem?_append_right (by omega),List.getElem?_map] at h1
  cases e:caps[i - own.length]? with
  | none=>rw [e] at h1; cases h1
  | some p=>
   obtain ⟨j,n⟩:=p
   rw [e] at h1 h2
   cases h1
   refine ⟨j,List.mem_of_getElem? e,?_⟩
   simp only [Option.map_some,Option.some.injEq] at h2
   cases q:σ[j]? with
   | none=>rw [q] at h2; cases h2
   | some o=>rw [q] at h2; exact congrArg some h2
theorem Zl (B:vS X scope own caps) (I:zE X pins σ H s) (hf:∀ b∈fp,zp X pins H b) (hC:s.heap.objs.size<=C) (hlt:∀ b∈fp,b < s.heap.objs.size)
  {m:Str->Option Value} (hn:s4.heap.Ns C m) (hk:∀ b o,s.heap.get? b=some o->s4.heap.get? b=some o) (ho:s4.os=s.os) (hb:AllBare s4.gens) :
  zE (yd X scope (zR own caps) C s H fp) [] (xV own caps σ) H s4 where
 ok:=Xu B I hf hC hlt
 os:=ho
 bare:=hb
 base:=Un.kept hk
 loc:=⟨m,hn,λi x v h1 h2 h3=>by
  obtain ⟨j,hm,hs⟩:=Zk h1 h2
  obtain ⟨c1,c2,c3⟩:=B.caps _ hm
  obtain ⟨m',_,hl⟩:=I.loc
  have vis:vt X.env.scope x:=c3.elim (λz=>.inr (.inl z)) λz=>.inr (.inr z)
  obtain ⟨u,r,l⟩:=hl j x v c1 hs vis
  refine ⟨u,r,.inr ?_⟩
  have hm2:(x,NameKind.free)∈scope.names:=vi c2
  obtain ⟨c',hc'⟩:=jC (env:=X.env) hm2
  have hc2:=(xk B.free hc').1
  refine ⟨?_,c',hc',?_⟩
  ·show (relabel scope X.env).names.lookup x=some .cell\/(relabel scope X.env).names.lookup x=some .free
   rw [qH,c2,Option.map_some]
   split
   ·exact .inl rfl
   ·exact .inr rfl
  ·rcases l with ⟨k,_⟩ | ⟨_,c,e,z⟩
   ·rcases c3 with c3 | c3 <;> rw [c3] at k <;> cases k
   ·rw [hc2] at e
    cases e
    obtain ⟨o,e1,e2⟩:=z
    exact ⟨o,hk _ o e1,e2⟩⟩
 cell:=λx c e=>by
  obtain ⟨v,o,e1,e2⟩:=I.cell x c (xk B.free e).1
  exact ⟨v,o,hk _ o e1,e2⟩
 free:=I.hok.fresh hC
 freeC:=λx c e=>I.freeC x c (xk B.free e).1
 pin:=λp hp=>by simp at hp
 hok:=I.hok.kept hk
 len:=by
  show (xV own caps σ).length=(zR own caps).length
  unfold xV zR
  simp
noncomputable abbrev zu (its:List Value) (k:Nat):Obj:={ cls:=.type "list",data:=.seq its.toArray k }
theorem gc {Y:Cx} {its:List Value} {k:Nat} {y:Value} {pl:List (Addr × Obj)} {Q:Value->Shared->Prop} {E:Value->Shared->Prop} (I:zE Y ((D,zu its k) :: pl) σ H s) (hn:zp Y [] H D) (hp:Y.pn=[]) (hz:its.length<=sizeLine)
  (q:∀ h' k' tk,(∀ b o,b≠D->s.heap.get? b=some o->h'.get? b=some o)->zE Y [(D,zu (its++[y]) k')] σ H { s with heap:=h',toks:=tk }->Q .none { s with heap:=h',toks:=tk }) :
  wpAny (model Y.prog Y.w) Y.A (call (.builtin "list.append") [.ref D,y]) Q E s:=by
 have pD:=I.pin (D,zu its k) (List.mem_append_right _ List.mem_cons_self)
 have e:s.heap.get? D=some (zu its k):=pD.1
 refine call_meets F.slot_list_append ⟨_,e,rfl⟩ F.entry_list_append (F.args_list_append_2 _ _) (PySem.list_append D its.toArray k y (by rw [List.size_toArray]; exact hz)) ⟨e,?_⟩
 have e2:=PySem.IsL.update e (·.push y)
 have ea:its.toArray.push y=(its++[y]).toArray:=by simp
 have keep:∀ b o,b≠D->s.heap.get? b=some o->(s.heap.update D (Obj.mapSeq (·.push y))).get? b=some o:=λb o hb eb=>(Heap.get?_update_other s.heap _ (Ne.symm hb)).trans eb
 have I0:zE Y [] σ H s:=I.pins_of λp hp'=>by cases hp'
 have I1:zE Y [] σ H { s with heap:=s.heap.update D (Obj.mapSeq (·.push y)),toks:=s.toks }:=I0.turned keep hn.1 hn.2.1 hn.2.2.2.1 hn.2.2.2.2.1 hn.2.2.2.2.2
 have e3:(s.heap.update D (Obj.mapSeq (·.push y))).get? D=some (zu (its++[y]) _):=e2.trans (by rw [ea])
 have I2:zE Y [(D,zu (its++[y]) (if ((its++[y]).toArray.size == its.toArray.size)=true then k else k + 1))] σ H { s with heap:=s.heap.update D (Obj.mapSeq (·.push y)),toks:=s.toks }:=I1.pins_of λp hp'=>by
  rw [List.mem_singleton.mp hp']
  exact ⟨e3,hn.1,hn.2.1,hn.2.2.1,λv z=>by cases z⟩
 exact q _ _ s.toks keep I2
end
section
variable {X:Cx} {scope:Scope} {own:List Str} {caps:List (Nat × Str)} {elt tg iter:Expr} {wi:TI} {g:TG} {te:TE} {pos:Pos}
theorem Zm {pins:List (Addr × Obj)} {σ:St} {H2:Hp} {s2:Shared} {it:Addr} {fp:List Addr} {tn:Nat->Heap->Prop} {J:It} {W:Nat->Nat->List V->St->Hp->Prop} {m0:Nat} {Q:VK} {E:Value->Shared->Prop} {RR:Value->Addr->Result->Shared->Prop}
  (B:vS X scope own caps) (hc:X.calm=true) (hg:∀ C s₀ H₀ ex,PG (yd X scope (zR own caps) C s₀ H₀ ex) tg g) (he:∀ C s₀ H₀ ex,PE (yd X scope (zR own caps) C s₀ H₀ ex) elt te)
  (I2:zE X pins σ H2 s2) (T:wG X.prog X.w X.K tg J fp it tn) (st2:tn 0 s2.heap) (f2:∀ b∈fp,zp X pins H2 b) (w0:W 0 m0 [] (xV own caps σ) H2)
  (turn:∀ i m ys σ1 H,W i m ys σ1 H->(J.stop i H/\∀ p,H p=none->Q (.ref p) (upd H p (.lst ys)))∨
   (J.go i H/\ys.length < sizeLine/\∃ N:V->St->Hp->Prop,(∀ y σ' H',N y σ' H'->∃ m',m' < m/\W (i + 1) m' (ys++[y]) σ' H')/\∀ x H',J.yld i H x H'->g x σ1 H' λσ2 H2=>te σ2 H2 λy H3=>N y σ2 H3))
  (hRR:∀ D C s6 H6 ys m,s6.heap.Ns C m->s2.heap.objs.size<=C->(∀ h',Heap.SameBut C s6.heap h'->zE X pins σ (upd H6 D (.lst ys)) { s6 with heap:=h' })->upd H6 D (.lst ys) C=none->Q (.ref D) (upd H6 D (.lst ys))->RR (.ref D) C (.ok .next) s6) :
  wpAny (model X.prog X.w) X.A (newList []) (λacc s3=>wpAny (model X.prog X.w) X.A (newFunctionEnv scope X.env.globals (xP scope X.env) [] X.env.qual none .none (some X.env)) (λcenv s4=>
   codeAny (model X.prog X.w) X.A (.compStart (.ListComp elt [⟨tg,iter,[],0⟩] scope pos) 0 (.ref it) acc { cenv with scope:=relabel scope X.env }) (RR acc cenv.locals) s4) E s3) E s2:=by
 have hlt:∀ b∈fp,b < s2.heap.objs.size:=λb hb=>by
  obtain ⟨o,ho,_⟩:=T.obj _ _ st2 b hb
  exact Heap.lt_size ho
 refine wpAny_newObj_type (wpAny_newFunctionEnv B.ncell (λy hy=>by simp at hy) (λh4 hns hsb=>?_) B.kind)
 dsimp only at hns hsb |-
 generalize hP:s2.heap.push { cls:=.type "list",dict:=none,data:=.seq ([]:List Value).toArray }=HD at hns hsb |-
 have hCD:HD.objs.size=s2.heap.objs.size + 1:=by rw [<- hP,Heap.size_push]
 have hDC:s2.heap.objs.size≠HD.objs.size:=by omega
 have hle:s2.heap.objs.size<=HD.objs.size:=by omega
 have old:∀ b o,s2.heap.get? b=some o->h4.get? b=some o:=λb o eb=>by
  have hb:=Heap.lt_size eb
  exact hsb.extBut b o (Nat.ne_of_lt (Nat.lt_of_lt_of_le hb hle)) (Heap.get?_push_of_some _ (by rw [<- hP]; exact Heap.get?_push_of_some _ eb))
 have hD4:h4.get? s2.heap.objs.size=some { cls:=.type "list",data:=.seq ([]:List Value).toArray 0 }:=
  hsb.extBut _ _ hDC (Heap.get?_push_of_some _ (by rw [<- hP]; exact Heap.get?_push_size _ rfl))
 have IY:zE (yd X scope (zR own caps) HD.objs.size s2 H2 fp) [] (xV own caps σ) H2 { s2 with heap:=h4,toks:=s2.toks + ([]:List (Str × Value)).length }:=
  Zl B I2 f2 (by omega) hlt hns old rfl I2.bare
 have stat:∀ {H':Hp},(∀ b∈fp,H' b=none)->∀ b∈fp,zp (yd X scope (zR own caps) HD.objs.size s2 H2 fp) [] H' b:=λ{H'} hn b hb=>by
  have hb2:=hlt b hb
  refine ⟨hn b hb,?_,λz=>?_,.inl hb,λx c ec=>(f2 b hb).2.2.2.2.1 x c (xk B.free ec).1,λp hp=>by simp at hp⟩
  ·exact Nat.ne_of_lt (Nat.lt_of_lt_of_le hb2 hle)
  ·rcases List.mem_cons.mp (I2.stkSub b z) with e | z
   ·exact (f2 b hb).2.1 e
   ·exact (f2 b hb).2.2.1 z
 have statD:∀ {H':Hp},H' s2.heap.objs.size=none->zp (yd X scope (zR own caps) HD.objs.size s2 H2 fp) [] H' s2.heap.objs.size:=λ{H'} hn=>by
  refine ⟨hn,hDC,λz=>?_,.inr (Nat.le_refl _),λx c ec z=>?_,λp hp=>by simp at hp⟩
  ·obtain ⟨_,o,ho,_⟩:=I2.stack.mem z
   exact absurd (Heap.lt_size ho) (Nat.lt_irrefl _)
  ·obtain ⟨v,o,ho,_⟩:=I2.cell x c (xk B.free ec).1
   rw [z] at ho
   exact absurd (Heap.lt_size ho) (Nat.lt_irrefl _)
 have neD:∀ b∈fp,b≠s2.heap.objs.size:=λb hb=>Nat.ne_of_lt (hlt b hb)
 have IY':zE (yd X scope (zR own caps) HD.objs.size s2 H2 fp) [(s2.heap.objs.size,zu [] 0)] (xV own caps σ) H2 { s2 with heap:=h4,toks:=s2.toks + ([]:List (Str × Value)).length }:=
  IY.pins_of λp hp=>by
   rw [List.mem_singleton.mp hp]
   have z:=statD (I2.hok.fresh (Nat.le_refl _))
   exact ⟨hD4,z.1,z.2.1,z.2.2.1,λv z=>by cases z⟩
 have loop:∀ s3:Shared,s3={ s2 with heap:=h4,toks:=s2.toks + ([]:List (Str × Value)).length }->
   codeAny (model X.prog X.w) X.A (.compLoop (.ListComp elt [⟨tg,iter,[],0⟩] scope pos) 0 (.ref it) (.ref s2.heap.objs.size) (compEnvC scope (xP scope X.env) HD.objs.size X.env))
    (RR (.ref s2.heap.objs.size) HD.objs.size) s3:=by
  rintro s3 rfl
  refine Zj (λn s'=>∃ i ys σ' H' its k,zE (yd X scope (zR own caps) HD.objs.size s2 H2 fp) [(s2.heap.objs.size,zu its k)] σ' H' s'/\tn i s'.heap/\(∀ b∈fp,H' b=none)∧
   zN ys its/\ys.length<=sizeLine/\W i n ys σ' H') ?_ m0 ⟨0,[],_,H2,[],0,IY',T.keep _ _ _ st2 λb hb o eb=>old b o eb,λb hb=>(f2 b hb).1,.nil,Nat.zero_le _,w0⟩
  rintro n s5 ⟨i,ys,σ5,H5,its,k,I5,st5,fr5,rv5,hz5,w5⟩
  have stat5:∀ {H':Hp},(∀ b∈fp,H' b=none)->∀ b∈fp,zp (yd X scope (zR own caps) HD.objs.size s2 H2 fp) [(s2.heap.objs.size,zu its k)] H' b:=λ{H'} hn b hb=>by
   obtain ⟨a1,a2,a3,a4,a5,_⟩:=stat hn b hb
   refine ⟨a1,a2,a3,a4,a5,λp hp=>?_⟩
   have hp':p∈[(s2.heap.objs.size,zu its k)]:=hp
   rw [List.mem_singleton.mp hp']
   exact Ne.symm (neD b hb)
  rcases turn i n ys σ5 H5 w5 with ⟨stop,qn⟩ | ⟨go,hlen,N,hN,step⟩
  ·refine zb (T.done (yd X scope (zR own caps) HD.objs.size s2 H2 fp) rfl rfl rfl hc i _ s5 σ5 H5 _ I5 (stat5 fr5) st5 stop) λr s6 ⟨hr,I6⟩=>?_
   subst hr
   obtain ⟨pD1,pD2,_⟩:=I6.pin (s2.heap.objs.size,zu its k) (List.mem_append_right _ List.mem_cons_self)
   obtain ⟨m6,hn6,_⟩:=I6.loc
   refine hRR _ _ s6 H5 ys m6 hn6 (by omega) (λh' sb=>?_) (by rw [zi (Ne.symm hDC)]; exact I6.free) (qn _ pD2)
   have hC5:H5 HD.objs.size=none:=I6.free
   have nb:∀ b o,s2.heap.get? b=some o->b≠HD.objs.size/\b≠s2.heap.objs.size:=λb o eb=>by
    have hb:=Heap.lt_size eb
    exact ⟨Nat.ne_of_lt (Nat.lt_of_lt_of_le hb hle),Nat.ne_of_lt hb⟩
   have nt:∀ b o,H5 b=some o->b≠s2.heap.objs.size:=λb o eb z=>by rw [z] at eb; rw [show H5 s2.heap.objs.size=none from pD2] at eb; cases eb
   have un:Un (yw X.stack) fp H2 (upd H5 s2.heap.objs.size (.lst ys)) s2.heap h':=
    ⟨λb o eb n1 n2 n3=>sb.extBut b o (nb b o eb).1 (I6.base.keep b o eb n1 n2 n3),
     λb o eb n1 n2 n3=>by
      obtain ⟨sl,e1⟩:=I6.base.slot b o eb n1 n2 n3
      exact ⟨sl,sb.extBut b _ (nb b o eb).1 e1⟩,
     λb o eb n1 n3=>by
      rw [zi (nb b o eb).2]
      exact I6.base.free b o eb n1 n3,
     λb o eb n3=>by
      obtain ⟨o',e1⟩:=I6.base.there b o eb n3
      exact ⟨o',sb.extBut b _ (nb b o eb).1 e1⟩,
     λb xs eb=>by
      have e1:=I6.base.tups b xs eb
      rw [zi (nt b _ e1)]
      exact e1,
     λb o u eb=>by
      have e1:=I6.base.frzs b o u eb
      rw [zi (nt b _ e1)]
      exact e1,
     λb ps eb=>by
      obtain ⟨more,e1⟩:=I6.base.tbls b ps eb
      refine ⟨more,?_⟩
      rw [zi (nt b _ e1)]
      exact e1⟩
   have ok5:yW X.prog X.w (upd H5 s2.heap.objs.size (.lst ys)) h':=λb u eb=>by
    by_cases hb:b=s2.heap.objs.size
    ·subst hb
     rw [zJ] at eb
     cases eb
     exact ⟨hz5,its,k,rv5,sb.extBut _ _ hDC pD1⟩
    ·rw [zi hb] at eb
     refine (I6.hok b u eb).stay (λc v hcv ev=>sb.extBut c v ?_ ev) (λc ec=>by rw [zi (nt c _ ec)]; exact ec) λc xs ec=>by rw [zi (nt c _ ec)]; exact ec
     rintro rfl
     rcases hcv with z | z
     ·rw [<- z,hC5] at eb
      cases eb
     ·rw [hC5] at z
      cases z
   exact I2.call' (s':={ s6 with heap:=h' }) (ch:=fp) I6.os un ok5 I6.bare λb hb=>⟨(f2 b hb).2.2.2.1,(f2 b hb).2.1,(f2 b hb).2.2.2.2.1,(f2 b hb).2.2.2.2.2⟩
  ·refine zb (T.item (yd X scope (zR own caps) HD.objs.size s2 H2 fp) rfl rfl rfl hc i _ s5 σ5 H5 _ I5 (stat5 fr5) st5 go) λr s6 ⟨u,hr,h6⟩=>?_
   subst hr
   refine zb h6 λ_ s7 ⟨x,H7,I7,r7,y7,st7,fr7⟩=>?_
   have I7':=I7.pinned (stat5 fr7) (T.obj _ _ st7)
   refine zb (hg HD.objs.size s2 H2 fp _ s7 σ5 H7 x u _ I7' r7 (step x H7 y7)) λ_ s8 ⟨σ8,H8,I8,q8⟩=>?_
   refine zb (he HD.objs.size s2 H2 fp _ s8 σ8 H8 _ I8 q8) λyv s9 ⟨y,H9,I9,r9,n9⟩=>?_
   obtain ⟨m',hm',w9⟩:=hN y σ8 H9 n9
   have pD9:=(I9.pin (s2.heap.objs.size,zu its k) (List.mem_append_right _ (List.mem_append_left _ List.mem_cons_self))).2.1
   have hl:its.length=ys.length:=rv5.length.symm
   refine gc (Y:=yd X scope (zR own caps) HD.objs.size s2 H2 fp) (its:=its) (k:=k) (pl:=vz fp s7.heap) I9 (statD pD9) rfl (by omega) λh' k' tk keep I'=>?_
   refine ⟨m',hm',i + 1,ys++[y],σ8,H9,its++[yv],k',I',?_,λb hb=>?_,rv5.append (.cons r9 .nil),?_,w9⟩
   ·refine T.keep _ _ _ st7 λb hb o eb=>keep b o (neD b hb) ?_
    exact (I9.pin (b,o) (List.mem_append_right _ (List.mem_append_right _ (wv hb eb)))).1
   ·obtain ⟨o,eb,_⟩:=T.obj _ _ st7 b hb
    exact (I9.pin (b,o) (List.mem_append_right _ (List.mem_append_right _ (wv hb eb)))).2.1
   ·rw [List.length_append,List.length_singleton]
    omega
 exact codeAny_compStart_list (loop _ rfl) (T.self _ 0 _ _ _ (T.keep _ _ _ st2 λb hb o eb=>old b o eb) (loop _ rfl))
theorem wc (B:vS X scope own caps) (hc:X.calm=true) (hi:PI X tg iter wi) (hg:∀ C s₀ H₀ ex,PG (yd X scope (zR own caps) C s₀ H₀ ex) tg g)
  (he:∀ C s₀ H₀ ex,PE (yd X scope (zR own caps) C s₀ H₀ ex) elt te) (hs:∀ x,foldedSetIterable iter X.env x=pure x:=by intro _; rfl) :
  PE X (.ListComp elt [⟨tg,iter,[],0⟩] scope pos) (qJ own caps wi g te):=by
 intro pins s σ H Q I h
 rw [eval_ListComp]
 refine wpAny_comprehension_free (use:=none) rfl hs (jB B.free) B.kind B.locs ?_
 refine zb (hi pins s σ H _ I h) λxv s1 h1=>zb h1 λitv s2 h2=>?_
 obtain ⟨it,fp,tn,J,H2,e,I2,T,st2,f2,W,⟨m0,w0⟩,turn⟩:=h2
 subst e
 refine Zm (RR:=λacc C=>compPost (model X.prog X.w) X.A X.xe none (EP X pins σ Q) acc C) B hc hg he I2 T st2 f2 w0 turn λD C s6 H6 ys m hn hC J6 hC6 q=>?_
 exact ⟨m,hn,λh' sb=>⟨.ref D,_,J6 h' sb,rfl,q⟩⟩
theorem jF {i:Nat} {y:Str} {py spos:Pos} (hN:X.N.Nodup) (hy:X.N[i]? = some y) (hl:X.env.scope.names.lookup y=some .local) (B:vS X scope own caps) (hc:X.calm=true) (hi:PI X tg iter wi) (hg:∀ C s₀ H₀ ex,PG (yd X scope (zR own caps) C s₀ H₀ ex) tg g)
  (he:∀ C s₀ H₀ ex,PE (yd X scope (zR own caps) C s₀ H₀ ex) elt te) (hsw:swapsWith (.ListComp elt [⟨tg,iter,[],0⟩] scope pos) (some (.Name y py)) spos.line X.env=pure true) (hs:∀ x,foldedSetIterable iter X.env x=pure x:=by intro _; rfl) :
  PS X (.Assign [.Name y py] (.ListComp elt [⟨tg,iter,[],0⟩] scope pos) spos) (vN (qJ own caps wi g te) (j3 i)):=by
 intro pins s σ H D0 I h
 rw [exec_Assign_Name_used _ _ _ _ hsw]
 refine wpAny_bind (wpAny_standAt (wpAny_bind ?_))
 change wpAny _ X.A (do let _ <- comprehension (.ListComp elt [⟨tg,iter,[],0⟩] scope pos) scope X.env _ (newList []) false (eval iter X.env) (some (assign (.Name y py) X.env))) _ _ s
 refine wpAny_bind (wpAny_mono (wpAny_comprehension_free (use:=some (assign (.Name y py) X.env)) (Q:=λ_ s'=>SP X pins D0 .next s') rfl hs (jB B.free) B.kind B.locs ?_) (λ_ s' hq=>wpAny_pure (wpAny_pure hq)) λ_ _ e=>e)
 refine zb (hi pins s σ H _ I h) λxv s1 h1=>zb h1 λitv s2 h2=>?_
 obtain ⟨it,fp,tn,J,H2,e,I2,T,st2,f2,W,⟨m0,w0⟩,turn⟩:=h2
 subst e
 refine Zm (Q:=λx H1=>D0.nx (σ.set i (some x)) H1) (RR:=λacc C=>compPost (model X.prog X.w) X.A X.xe (some (assign (.Name y py) X.env)) (λ_ s'=>SP X pins D0 .next s') acc C) B hc hg he I2 T st2 f2 w0 turn λD C s6 H6 ys m hn hC J6 hC6 q=>?_
 have I6:zE X pins σ (upd H6 D (.lst ys)) s6:=J6 s6.heap (.refl ..)
 have CL:C≠X.env.locals:=λz=>by rw [z] at hC; exact absurd (Nat.lt_of_lt_of_le I2.lt hC) (Nat.lt_irrefl _)
 have CC:∀ x c,X.env.cells.lookup x=some c->c≠C:=λx c ec z=>by
  obtain ⟨v,o,ho,_⟩:=I2.cell x c ec
  rw [z] at ho
  exact absurd (Nat.lt_of_lt_of_le (Heap.lt_size ho) hC) (Nat.lt_irrefl _)
 have CP:∀ p∈X.pn++pins,p.1≠C:=λp hp z=>by
  have hl:=Heap.lt_size (I2.pin p hp).1
  rw [z] at hl
  exact absurd (Nat.lt_of_lt_of_le hl hC) (Nat.lt_irrefl _)
 change wpAny _ X.A (assign (.Name y py) X.env (.ref D)) _ _ s6
 refine wpAny_assign_Name (qj I6 hN hy (.inl hl) (v:=.ref D) rfl (λs7 I7 ⟨a,sb,ha⟩=>?_) (.inr hl))
 have aC:C≠a:=λz=>by
  rcases ha with e | e
  ·exact CL (z.trans e)
  ·exact CC _ _ e z.symm
 refine ⟨m,hn.sameBut sb aC,λh' sb'=>⟨_,_,I7.turned (h':=h') (t':=s7.toks) (it:=C) (λb o hb eb=>sb'.extBut b o hb eb) hC6 CL (.inr (Nat.le_trans I2.sz hC)) CC CP,q⟩⟩
end
end L2
namespace L2
open PySem PySem.Spec PyProof.Rows
theorem vB {K:PySem.W.Frag} {a:Addr} {xs:List V} {g:TG} {te:TE} {σ0:St} {H:Hp} {Q:VK} (Pv:Nat->List V->St->Hp->Prop) (h0:Pv 0 [] σ0 H) (hl:∀ i ys σ H,i<=xs.length->Pv i ys σ H->zM K H a xs/\ys.length<=i) (hz:xs.length<=sizeLine)
  (hs:∀ i x ys σ H,xs[i]? = some x->Pv i ys σ H->g x σ H λσ2 H2=>te σ2 H2 λy H3=>Pv (i + 1) (ys++[y]) σ2 H3)
  (hd:∀ ys σ H,Pv xs.length ys σ H->∀ p,H p=none->Q (.ref p) (upd H p (.lst ys))) :
  qI (uv K a) g te Q σ0 H:=by
 refine ⟨λi m ys σ H=>m=xs.length - i/\i<=xs.length/\Pv i ys σ H,⟨xs.length,by simp,Nat.zero_le _,h0⟩,?_⟩
 rintro i m ys σ H ⟨rfl,hi,p⟩
 obtain ⟨q,hy⟩:=hl i ys σ H hi p
 by_cases hlt:i < xs.length
 ·refine .inr ⟨⟨xs,xs[i],q,by simp [hlt]⟩,by omega,λy σ' H'=>Pv (i + 1) (ys++[y]) σ' H',λy σ' H' z=>⟨xs.length - (i + 1),by omega,rfl,hlt,z⟩,λx H' y=>?_⟩
  obtain ⟨e,y⟩:=y
  subst e
  exact hs i x ys σ _ (y xs q) p
 ·have e:i=xs.length:=by omega
  subst e
  exact .inl ⟨⟨xs,q,Nat.le_refl _⟩,hd ys σ H p⟩
theorem uU {lo:Int} {n:Nat} {g:TG} {te:TE} {σ0:St} {H:Hp} {Q:VK} (Pv:Nat->List V->St->Hp->Prop) (h0:Pv 0 [] σ0 H) (hl:∀ i ys σ H,Pv i ys σ H->ys.length<=i) (hz:n<=sizeLine)
  (hs:∀ i ys σ H,i < n->Pv i ys σ H->g (.int (lo + i)) σ H λσ2 H2=>te σ2 H2 λy H3=>Pv (i + 1) (ys++[y]) σ2 H3)
  (hd:∀ ys σ H,Pv n ys σ H->∀ p,H p=none->Q (.ref p) (upd H p (.lst ys))):qI (vy lo n) g te Q σ0 H:=by
 refine ⟨λi m ys σ H=>m=n - i/\i<=n/\Pv i ys σ H,⟨n,by simp,Nat.zero_le _,h0⟩,?_⟩
 rintro i m ys σ H ⟨rfl,hi,p⟩
 have hy:=hl i ys σ H p
 by_cases hlt:i < n
 ·refine .inr ⟨hlt,by omega,λy σ' H'=>Pv (i + 1) (ys++[y]) σ' H',λy σ' H' z=>⟨n - (i + 1),by omega,rfl,hlt,z⟩,λx H' y=>?_⟩
  obtain ⟨e,y⟩:=y
  subst e y
  exact hs i ys σ _ hlt p
 ·have e:i=n:=by omega
  subst e
  exact .inl ⟨Nat.le_refl _,hd ys σ H p⟩
structure Fn (P:Program) (w:World) (K:PySem.W.Frag) (mg:Str->Option Value) (base:Heap) (x:Str) (ps:List Str) (k:Nat) (sp:Sp):Prop where
 ex:∃ f fd,zP P w K mg base zX k f fd ps sp/\mg x=some (.ref f)/\PySem.W.keepIn K (.ref f)=true/\xF K fd ps []
theorem Fn.mono {P:Program} {w:World} {K:PySem.W.Frag} {mg:Str->Option Value} {base:Heap} {x:Str} {ps:List Str} {j k:Nat} {sp:Sp} (F:Fn P w K mg base x ps j sp) (h:j<=k:=by decide):Fn P w K mg base x ps k sp:=by
 obtain ⟨f,fd,a,b,c,d⟩:=F.ex
 exact ⟨f,fd,a.mono h,b,c,d⟩
theorem yE {X:Cx} {x:Str} {ps:List Str} {k:Nat} {sp:Sp} {e:Expr} {es:List Expr} {t:TA} {p pos:Pos} (F:Fn X.prog X.w X.K X.mg X.base x ps k sp) (hr:zd k X.A) (hg:Gl X x) (ha:PA X (e :: es) t)
  (hdb:(x == ("__debug__" : Str))=false:=by decide) (he:starEach (e :: es) X.env=(false,eval e X.env) :: starEach es X.env:=by rfl) (hpl:(backTo pos (starEach es X.env)).any (·.1)=false:=by rfl) :
  PE X (.Call (.Name x p) (e :: es) [] pos) (u8 sp [] E0 t):=by
 obtain ⟨f,fd,a,b,c,d⟩:=F.ex
 exact ZS a hr hg b c d .nil qG ha hdb he hpl
end L2
namespace L2
open PySem PySem.Spec PyProof.Rows
theorem xG:bootBuiltins "isinstance" = some (.builtin "isinstance"):=by decide +kernel
theorem xQ:bootBuiltins "len" = some (.builtin "len"):=by decide +kernel
theorem uV:bootBuiltins "all" = some (.builtin "all"):=by decide +kernel
theorem Xv:bootBuiltins "int" = some (.type "int"):=by decide +kernel
theorem Xw:bootBuiltins "bool" = some (.type "bool"):=by decide +kernel
theorem we:bootBuiltins "tuple" = some (.type "tuple"):=by decide +kernel
theorem vC:bootBuiltins "list" = some (.type "list"):=by decide +kernel
section
variable (K:PySem.W.Frag)
end
theorem uB {X:Cx} {scope:Scope} {own:List Str} (k:scope.kind=.function) (n:scope.names.all (λy=>y.2 != .cell && y.2 != .free && (y.2 != .local || scope.names.lookup y.1 == some .local))=true:=by first | rfl | decide +kernel):vS X scope own []:=by
 have z:∀ y∈scope.names,(y.2 != .cell && y.2 != .free && (y.2 != .local || scope.names.lookup y.1 == some .local))=true:=List.all_eq_true.mp n
 refine ⟨k,λy hy e=>?_,λy hy e=>?_,λy hy e=>?_,λp hp=>by cases hp⟩
 ·have:=z y hy
  rw [e] at this
  simp at this
 ·have:=z y hy
  rw [e] at this
  simpa using this
 ·have:=z y hy
  rw [e] at this
  simp at this
structure xH (K:PySem.W.Frag) (x qual:Str) (st:Stmt) (f:Addr) (fd:FuncData) (d:Value):Prop where
 ex:∃ (oc:Value) (od:Option Addr) (kV doc pm:Value) (an:Option Addr) (cdv ct:Value) (osl:Array (Option Value)) (T:Addr) (oT:Obj) (n:Nat),
  fd=PySem.W.fnOf x qual (xr st) (yQ st) (zQ st) (.ref T) kV doc pm an cdv ct/\K.lookup f=some ⟨oc,od,.func fd,osl⟩/\PySem.W.codeIn K cdv qual=true/\K.lookup T=some oT/\oT.data=.seq #[d] n
 kp:PySem.W.keepIn K (.ref f)=true
theorem xH.ok {P:Program} {w:World} {K:PySem.W.Frag} {mg:Str->Option Value} {base:Heap} {x qual:Str} {st:Stmt} {f:Addr} {fd:FuncData} {d:Value} {N ps:List Str} {k:Nat} {sp:Sp} (F:xH K x qual st f fd d) (S:yS N ps (zQ st))
  (len:∀ vs H Q E,sp vs H Q E->vs.length=ps.length)
  (hbody:∀ (cdv:Value) (A:Around) (outer:List Env) (s:Shared) (H:Hp) (vs:List V) (Q:VK) (E:XK),zd k (A.deeper (envOfC qual (zQ st) s.heap.objs.size f cdv))->sp vs H Q E->
   ∃ t,yi (zF zX P w K mg base N qual (zQ st) f cdv A outer s H E).nox (yQ st) t/\t { nx:=λ_ H'=>Q .non H',rt:=Q } (xT N vs) H):zP P w K mg base zX (k + 1) f fd ps sp:=by
 obtain ⟨oc,od,kV,doc,pm,an,cdv,ct,osl,T,oT,n,rfl,lk,hcd,_⟩:=F.ex
 refine qD lk hcd S len λA outer s H vs Q E hr hsp=>?_
 obtain ⟨t,h,q⟩:=hbody cdv A outer s H vs Q E hr hsp
 exact ⟨t,h.nox,q⟩
end L2
namespace L2
open PySem PySem.Spec PyProof.Rows
theorem Xx {K:PySem.W.Frag} {x qual:Str} {st:Stmt} {f T:Addr} {oc kV doc pm cdv ct d:Value} {od an:Option Addr} {osl:Array (Option Value)} {oT:Obj} {n:Nat} (l:K.lookup f=some ⟨oc,od,.func (PySem.W.fnOf x qual (xr st) (yQ st) (zQ st) (.ref T) kV doc pm an cdv ct),osl⟩)
  (c:PySem.W.codeIn K cdv qual=true) (k:PySem.W.keepIn K (.ref f)=true) (t:K.lookup T=some oT) (e:oT.data=.seq #[d] n):xH K x qual st f (PySem.W.fnOf x qual (xr st) (yQ st) (zQ st) (.ref T) kV doc pm an cdv ct) d:=
 ⟨⟨oc,od,kV,doc,pm,an,cdv,ct,osl,T,oT,n,rfl,l,c,t,e⟩,k⟩
theorem xH.binds {K:PySem.W.Frag} {x qual:Str} {st:Stmt} {f:Addr} {fd:FuncData} {d:Value} {ps:List Str} (F:xH K x qual st f fd d)
  (h:∀ (T:Addr) (kV doc pm:Value) (an:Option Addr) (cdv ct:Value) (us:List Value),us.length=ps.length->∃ k:Option (Array Value)->Sem (List (Str × Value)),
   bindArgs (PySem.W.fnOf x qual (xr st) (yQ st) (zQ st) (.ref T) kV doc pm an cdv ct) ⟨us,[]⟩=seqItems? (.ref T) >>= k/\k (some #[d])=pure (ps.zip us)):xF K fd ps []:=by
 obtain ⟨oc,od,kV,doc,pm,an,cdv,ct,osl,T,oT,n,rfl,lk,hcd,t,e⟩:=F.ex
 intro s us X hl
 rw [List.append_nil] at hl |-
 obtain ⟨k,h1,h2⟩:=h T kV doc pm an cdv ct us hl
 exact .of_defaults (T:=T) rfl (X T oT t) e h1 h2
end L2
namespace L2
open PySem PySem.Spec PyProof.Rows
theorem vD {X:Cx} {scope S:Scope} {own N:List Str} {caps:List (Nat × Str)} (k:scope.kind=.function) (n:scope.names.all (λy=>y.2 != .cell && (y.2 != .local || scope.names.lookup y.1 == some .local))=true)
  (hS:X.env.scope=S) (hc:∃ n,X.env.cells=cellsFrom n S.names []) (hN:X.N=N) (fr:scope.names.all (λy=>y.2 != .free || S.names.lookup y.1 == some .cell)=true)
  (cp:caps.all (λp=>N[p.1]? == some p.2 && scope.names.lookup p.2 == some .free && S.names.lookup p.2 == some .cell)=true):vS X scope own caps:=by
 have z:∀ y∈scope.names,(y.2 != .cell && (y.2 != .local || scope.names.lookup y.1 == some .local))=true:=List.all_eq_true.mp n
 obtain ⟨nn,hc⟩:=hc
 refine ⟨k,λy hy e=>?_,λy hy e=>?_,λy hy e=>?_,λp hp=>?_⟩
 ·have:=z y hy
  rw [e] at this
  simp at this
 ·have:=z y hy
  rw [e] at this
  simpa using this
 ·have q:=List.all_eq_true.mp fr y hy
  rw [e] at q
  have q2:S.names.lookup y.1=some .cell:=by simpa using q
  rw [hc]
  exact PySem.W.cellsFrom_some S.names nn [] (.inl q2)
 ·have q:=List.all_eq_true.mp cp p hp
  simp only [Bool.and_eq_true,beq_iff_eq] at q
  refine ⟨by rw [hN]; exact q.1.1,q.1.2,.inl ?_⟩
  show X.env.scope.names.lookup p.2=some .cell
  rw [hS]
  exact q.2
structure vT (P:Program) (w:World) (K:PySem.W.Frag) (mg:Str->Option Value) (base:Heap) (x:Str) (ps:List Str) (k:Nat) (sp:Sp) (dv:V):Prop where
 ex:∃ f fd d,zP P w K mg base zX k f fd ps sp/\mg x=some (.ref f)/\PySem.W.keepIn K (.ref f)=true/\xF K fd ps []/\xF K fd ps [d]/\zV dv d
theorem vT.mono {P:Program} {w:World} {K:PySem.W.Frag} {mg:Str->Option Value} {base:Heap} {x:Str} {ps:List Str} {j k:Nat} {sp:Sp} {dv:V} (F:vT P w K mg base x ps j sp dv) (h:j<=k:=by decide):vT P w K mg base x ps k sp dv:=by
 obtain ⟨f,fd,d,a,b,c,e⟩:=F.ex
 exact ⟨f,fd,d,a.mono h,b,c,e⟩
theorem vT.fn {P:Program} {w:World} {K:PySem.W.Frag} {mg:Str->Option Value} {base:Heap} {x:Str} {ps:List Str} {k:Nat} {sp:Sp} {dv:V} (F:vT P w K mg base x ps k sp dv):Fn P w K mg base x ps k sp:=by
 obtain ⟨f,fd,d,a,b,c,e,_⟩:=F.ex
 exact ⟨f,fd,a,b,c,e⟩
theorem jG {X:Cx} {x:Str} {ps:List Str} {k:Nat} {sp:Sp} {e:Expr} {es:List Expr} {t:TA} {p pos:Pos} {dv:V} (F:vT X.prog X.w X.K X.mg X.base x ps k sp dv) (hr:zd k X.A) (hg:Gl X x) (ha:PA X (e :: es) t)
  (hdb:(x == ("__debug__" : Str))=false:=by decide) (he:starEach (e :: es) X.env=(false,eval e X.env) :: starEach es X.env:=by rfl) (hpl:(backTo pos (starEach es X.env)).any (·.1)=false:=by rfl) :
  PE X (.Call (.Name x p) (e :: es) [] pos) (u8 sp [dv] E0 t):=by
 obtain ⟨f,fd,d,a,b,c,_,h2,r⟩:=F.ex
 exact ZS a hr hg b c h2 (.cons r .nil) qG ha hdb he hpl
theorem xH.binds1 {K:PySem.W.Frag} {x qual:Str} {st:Stmt} {f:Addr} {fd:FuncData} {d:Value} {ps:List Str} (F:xH K x qual st f fd d)
  (h:∀ (T:Addr) (kV doc pm:Value) (an:Option Addr) (cdv ct:Value) (us:List Value),us.length + 1=ps.length->∃ k:Option (Array Value)->Sem (List (Str × Value)),
   bindArgs (PySem.W.fnOf x qual (xr st) (yQ st) (zQ st) (.ref T) kV doc pm an cdv ct) ⟨us,[]⟩=seqItems? (.ref T) >>= k/\k (some #[d])=pure (ps.zip (us++[d]))):xF K fd ps [d]:=by
 obtain ⟨oc,od,kV,doc,pm,an,cdv,ct,osl,T,oT,n,rfl,lk,hcd,t,e⟩:=F.ex
 intro s us X hl
 rw [List.length_append,List.length_singleton] at hl
 obtain ⟨k,h1,h2⟩:=h T kV doc pm an cdv ct us hl
 exact .of_defaults (T:=T) rfl (X T oT t) e h1 h2
end L2
namespace L2
theorem yq {b:Bool} {A B:Prop} (e:b=true) (h:A):if b=true then A else B:=by
 rw [if_pos e]
 exact h
theorem yK {b:Bool} {A B:Prop} (e:b=false) (h:B):if b=true then A else B:=by
 rw [if_neg (by rw [e]; exact Bool.false_ne_true)]
 exact h
theorem uW {i j:Int} (h:i=j):decide (V.int i=V.int j)=true:=decide_eq_true (by rw [h])
theorem uX {i j:Int} (h:i≠j):decide (V.int i=V.int j)=false:=decide_eq_false λe=>h (by injection e)
theorem gd {i j:Int} (h:i≠j):(!decide (V.int i=V.int j))=true:=by rw [uX h]; rfl
theorem Zn {i j:Int} (h:i=j):(!decide (V.int i=V.int j))=false:=by rw [uW h]; rfl
end L2
set_option maxRecDepth 100000
namespace L2
open PySem
section
variable {prog:Program} {w:World} {A:Around} {E:Value->Shared->Prop} {s:Shared}
end
section
variable {prog:Program} {w:World} {A:Around} {E:Value->Shared->Prop} {s:Shared}
end
end L2
namespace L2
open PySem PySem.Spec PyProof.Rows
section
variable {X:Cx} {es:List Expr} {kk:Nat} {tp:Pos}
end
end L2
namespace L2
open PySem PySem.Spec PyProof.Rows
section
variable {κ:Type} [DecidableEq κ]
noncomputable def xI (kvs:List (κ × V)) (k:κ):Option V:=(kvs.find? λkv=>decide (kv.1=k)).map (·.2)
noncomputable def vU (kvs:List (κ × V)) (k:κ) (v:V):List (κ × V):=
 if (kvs.any λkv=>decide (kv.1=k))=true then kvs.map (λkv=>if kv.1=k then (kv.1,v) else kv) else kvs++[(k,v)]
noncomputable def Zo (kvs:List (κ × V)) (k:κ):List (κ × V):=kvs.filter λkv=>decide (kv.1≠k)
theorem Zp {p:κ × V} {r:List (κ × V)} {k:κ} (e:p.1=k):xI (p :: r) k=some p.2:=by simp [xI,List.find?_cons,e]
theorem Zq {p:κ × V} {r:List (κ × V)} {k:κ} (e:¬ p.1=k):xI (p :: r) k=xI r k:=by simp [xI,List.find?_cons,e]
theorem yt.getD {o:Option V} {u:Option Value} {d:V} {d':Value} (r:yt o u) (rd:zV d d'):zV (o.getD d) (u.getD d'):=by
 cases o with
 | none=>cases u with
  | none=>exact rd
  | some _=>exact (show False from r).elim
 | some _=>cases u with
  | none=>exact (show False from r).elim
  | some _=>exact r
theorem KV.val {kvs:List (κ × V)} {vs:List (κ × Value)} (r:KV kvs vs) (k:κ):yt (xI kvs k) (valueAt vs k):=by
 unfold KV at r
 induction r with
 | nil=>exact True.intro
 | @cons p q ps qs h t ih=>
  obtain ⟨h1,h2⟩:=h
  by_cases e:p.1=k
  ·have e':q.1=k:=h1.symm.trans e
   have b:valueAt (q :: qs) k=some q.2:=by simp [valueAt,List.find?_cons,e']
   rw [Zp e,b]; exact h2
  ·have e':¬ q.1=k:=λz=>e (h1.trans z)
   have b:valueAt (q :: qs) k=valueAt qs k:=by simp [valueAt,List.find?_cons,e']
   rw [Zq e,b]; exact ih
theorem KV.any {kvs:List (κ × V)} {vs:List (κ × Value)} (r:KV kvs vs) (k:κ):(kvs.any λkv=>decide (kv.1=k))=vs.any λkv=>decide (kv.1=k):=by
 unfold KV at r
 induction r with
 | nil=>rfl
 | cons h t ih=>rw [List.any_cons,List.any_cons,ih,h.1]
theorem KV.drop {kvs:List (κ × V)} {vs:List (κ × Value)} (r:KV kvs vs) (k:κ):KV (Zo kvs k) (without vs k):=by
 unfold KV at r |-
 unfold Zo without
 induction r with
 | nil=>exact .nil
 | @cons p q ps qs h t ih=>
  obtain ⟨h1,h2⟩:=h
  rw [List.filter_cons,List.filter_cons]
  by_cases e:p.1=k
  ·have a:¬ decide (p.1≠k)=true:=by simp [e]
   have b:¬ decide (q.1≠k)=true:=by simp [h1.symm.trans e]
   rw [if_neg a,if_neg b]; exact ih
  ·have e':¬ q.1=k:=λz=>e (h1.trans z)
   have a:decide (p.1≠k)=true:=by simp [e]
   have b:decide (q.1≠k)=true:=by simp [e']
   rw [if_pos a,if_pos b]; exact .cons ⟨h1,h2⟩ ih
theorem KV.length {kvs:List (κ × V)} {vs:List (κ × Value)} (r:KV kvs vs):kvs.length=vs.length:=Paired.length r
end
noncomputable abbrev KT (H:Hp):List (List yO × V)->List (List yO × Addr × Value)->Prop:=Paired λp q=>p.1=q.1/\H q.2.1=some (.tup (p.1.map kV))/\zV p.2 q.2.2
theorem KT.val {H:Hp} {kvs:List (List yO × V)} {xs:List (List yO × Addr × Value)} (r:KT H kvs xs) (k:List yO):yt (xI kvs k) ((atKey xs k).map (·.2)):=by
 induction r with
 | nil=>exact True.intro
 | @cons p q ps qs h t ih=>
  obtain ⟨h1,_,h2⟩:=h
  by_cases e:p.1=k
  ·have e':q.1=k:=h1.symm.trans e
   have b:atKey (q :: qs) k=some q.2:=by simp [atKey,List.find?_cons,e']
   rw [Zp e,b]; exact h2
  ·have e':¬ q.1=k:=λz=>e (h1.trans z)
   have b:atKey (q :: qs) k=atKey qs k:=by simp [atKey,List.find?_cons,e']
   rw [Zq e,b]; exact ih
theorem KT.keeps {H H':Hp} {kvs:List (List yO × V)} {xs:List (List yO × Addr × Value)} (r:KT H kvs xs) (ht:∀ b ys,H b=some (.tup ys)->H' b=some (.tup ys)):KT H' kvs xs:=
 Paired.mapP r λ_ _ z=>⟨z.1,ht _ _ z.2.1,z.2.2⟩
section
variable {P:Program} {w:World} {H:Hp} {h:Heap} {a:Addr}
end
noncomputable def vV (H:Hp) (a:Addr) (y:V) (r:Option V):Prop:=
 (∃ kvs k,Rd H a (.dK kvs)/\y=kV k/\r=xI kvs k)\/∃ kvs k b,Rd H a (.dT kvs)/\y=.ref b/\H b=some (.tup (k.map kV))/\r=xI kvs k
noncomputable def vW (H:Hp) (a:Addr) (y v:V) (H':Hp):Prop:=
 (∃ kvs k,H a=some (.dK kvs)/\y=kV k/\kvs.length < sizeLine/\H'=upd H a (.dK (vU kvs k v)))∨
 ∃ kvs k b,H a=some (.dT kvs)/\y=.ref b/\H b=some (.tup (k.map kV))/\kvs.length < sizeLine/\H'=upd H a (.dT (vU kvs k v))
theorem vV.k {H:Hp} {a:Addr} {kvs:List (yO × V)} {k:yO} (e:H a=some (.dK kvs)):vV H a (kV k) (xI kvs k):=.inl ⟨kvs,k,.inl e,rfl,rfl⟩
theorem vV.t {H:Hp} {a b:Addr} {kvs:List (List yO × V)} {k:List yO} (e:H a=some (.dT kvs)) (eb:H b=some (.tup (k.map kV))):vV H a (.ref b) (xI kvs k):=.inr ⟨kvs,k,b,.inl e,rfl,eb,rfl⟩
theorem vW.k {H:Hp} {a:Addr} {kvs:List (yO × V)} {k:yO} {v:V} (e:H a=some (.dK kvs)) (hl:kvs.length < sizeLine):vW H a (kV k) v (upd H a (.dK (vU kvs k v))):=.inl ⟨kvs,k,e,rfl,hl,rfl⟩
theorem vW.t {H:Hp} {a b:Addr} {kvs:List (List yO × V)} {k:List yO} {v:V} (e:H a=some (.dT kvs)) (eb:H b=some (.tup (k.map kV))) (hl:kvs.length < sizeLine) :
  vW H a (.ref b) v (upd H a (.dT (vU kvs k v))):=.inr ⟨kvs,k,b,e,rfl,eb,hl,rfl⟩
section
variable {X:Cx} {pins:List (Addr × Obj)} {σ:St} {H:Hp} {s:Shared} {a:Addr} {y v:V} {u r:Value} {o:Option V} {A:Around} {E:Value->Shared->Prop}
theorem zE.big (I:zE X pins σ H s):sysModules < s.heap.objs.size:=by
 have h:mainGlobals < s.heap.objs.size:=(I.mod.glob.keeps I.bk).lt
 exact Nat.lt_trans (by decide) h
end
section
variable {X:Cx} {pins:List (Addr × Obj)} {σ:St} {H:Hp} {s:Shared} {a:Addr} {kvs:List (yO × V)} {k:yO} {u:Value} {A:Around} {E:Value->Shared->Prop}
end
section
variable {X:Cx} {o i e value:Expr} {pos pos' tpos:Pos} {td ty tv:TE}
end
theorem Xy {P:Program} {w:World} {H:Hp} (h:Heap) (hb:sysModules < h.objs.size):yu P w H (h.push { cls:=.type "dict",data:=.dict #[] }) h.objs.size (.dK []):=
 ⟨Nat.zero_le _,beq_eq_false_iff_ne.mpr (Ne.symm (Nat.ne_of_lt hb)),[],.nil,Heap.DictOf.new h⟩
noncomputable def Xz:TE:=λ_ H Q=>∀ p,H p=none->Q (.ref p) (upd H p (.dK []))
section
variable {X:Cx} {pos:Pos}
theorem ge:PE X (.Dict [] [] pos) Xz:=λpins s σ H Q I h=>
 wpAny_Dict_empty ⟨.ref s.heap.objs.size,_,I.laid (a:=s.heap.objs.size) (o:=.dK []) (t':=s.toks) (λ_ _ q=>Heap.get?_push_of_some _ q) (Nat.le_refl _) (Xy s.heap I.big),rfl,h _ (I.hok.fresh (Nat.le_refl _))⟩
end
end L2
namespace L2
open PySem
section
variable {prog:Program} {w:World} {A:Around} {R:Result->Shared->Prop} {s:Shared}
theorem X0 {elt target iter cond:Expr} {scope:Scope} {pos:Pos} {it acc:Value} {env:Env} (Wd:Nat->Shared->Prop)
  (turn:∀ n s,Wd n s->wpAny (model prog w) A (pyNext it) (λr s1=>match r with
   | none=>R (.ok .next) s1
   | some v=>wpAny (model prog w) A (letOwnedTupleGo target it v) (λ_ s2=>wpAny (model prog w) A (assign target env v) (λ_ s3=>wpAny (model prog w) A (isTrue cond env (eval cond env)) (λok s4=>
     if ok=true then wpAny (model prog w) A (eval elt env) (λx s5=>wpAny (model prog w) A (call (.builtin "list.append") [acc,x]) (λ_ s6=>∃ m,m < n/\Wd m s6) (λ_ _=>False) s5) (λ_ _=>False) s4
     else ∃ m,m < n/\Wd m s4) (λ_ _=>False) s3) (λ_ _=>False) s2) (λ_ _=>False) s1) (λ_ _=>False) s)
  (n:Nat) (h:Wd n s):codeAny (model prog w) A (.compLoop (.ListComp elt [⟨target,iter,[cond],0⟩] scope pos) 0 it acc env) R s:=by
 refine codeAny_loop rfl Wd (λn s hI=>?_) n h
 show wpAny _ _ (Sem.onRaise (compTurn (.ListComp elt [⟨target,iter,[cond],0⟩] scope pos) 0 it acc env) _) _ _ s
 refine wpAny_noted ?_
 rw [compTurn_list]
 refine wpAny_bind (wpAny_standAt (wpAny_bind (wpAny_mono (turn n s hI) (λr s1 h1=>?_) λ_ _ z=>False.elim z)))
 cases r with
 | none=>exact wpAny_pure h1
 | some v=>
  refine wpAny_bind (wpAny_mono h1 (λ_ s2 h2=>?_) λ_ _ z=>False.elim z)
  refine wpAny_bind (wpAny_mono h2 (λ_ s3 h3=>?_) λ_ _ z=>False.elim z)
  refine wpAny_bind (wpAny_tests_one (wpAny_mono h3 (λok s4 h4=>?_) λ_ _ z=>False.elim z))
  cases ok with
  | false=>exact wpAny_pure ⟨rfl,h4⟩
  | true=>exact wpAny_bind (wpAny_bind (wpAny_mono h4 (λx s5 h5=>wpAny_bind (wpAny_mono h5 (λ_ s6 h6=>wpAny_pure (wpAny_pure ⟨rfl,h6⟩)) λ_ _ z=>False.elim z)) λ_ _ z=>False.elim z))
end
end L2
namespace L2
open PySem PySem.Spec PyProof.Rows
noncomputable def Zr (J:It) (g:TG) (tc:TT) (te:TE) (Q:VK) (σ0:St) (H0:Hp):Prop:=∃ W:Nat->Nat->List V->St->Hp->Prop,(∃ m,W 0 m [] σ0 H0)/\∀ i m ys σ1 H,W i m ys σ1 H->
 (J.stop i H/\∀ p,H p=none->Q (.ref p) (upd H p (.lst ys)))\/(J.go i H/\ys.length < sizeLine/\∃ (N:V->St->Hp->Prop) (N0:St->Hp->Prop),(∀ y σ' H',N y σ' H'->∃ m',m' < m/\W (i + 1) m' (ys++[y]) σ' H')/\(∀ σ' H',N0 σ' H'->∃ m',m' < m/\W (i + 1) m' ys σ' H')∧
    ∀ x H',J.yld i H x H'->g x σ1 H' λσ2 H2=>tc σ2 H2 λb H3=>if b=true then te σ2 H3 λy H4=>N y σ2 H4 else N0 σ2 H3)
noncomputable def X1 (own:List Str) (caps:List (Nat × Str)) (wi:TI) (g:TG) (tc:TT) (te:TE):TE:=λσ H Q=>wi σ H λJ H1=>Zr J g tc te Q (xV own caps σ) H1
section
variable {X:Cx} {scope:Scope} {own:List Str} {caps:List (Nat × Str)} {elt tg iter cond:Expr} {wi:TI} {g:TG} {tc:TT} {te:TE} {pos:Pos}
end
end L2
namespace L2
open PySem PySem.Spec PyProof.Rows
section
variable {prog:Program} {w:World} {A:Around} {E:Value->Shared->Prop} {s:Shared}
end
end L2
namespace L2
open PySem PySem.Spec PyProof.Rows
theorem Zs {K:PySem.W.Frag} {a:Addr} {xs:List V} {g:TG} {te:TE} {σ0:St} {H:Hp} {Q:VK} (Pv:Nat->List V->St->Hp->Prop) (h0:Pv 0 [] σ0 H) (hl:∀ i ys σ H,i<=xs.length->Pv i ys σ H->yD K H a xs/\ys.length<=i) (hz:xs.length<=sizeLine)
  (hs:∀ i x ys σ H,xs[i]? = some x->Pv i ys σ H->g x σ H λσ2 H2=>te σ2 H2 λy H3=>Pv (i + 1) (ys++[y]) σ2 H3)
  (hd:∀ ys σ H,Pv xs.length ys σ H->∀ p,H p=none->Q (.ref p) (upd H p (.lst ys))) :
  qI (qv K a) g te Q σ0 H:=by
 refine ⟨λi m ys σ H=>m=xs.length - i/\i<=xs.length/\Pv i ys σ H,⟨xs.length,by simp,Nat.zero_le _,h0⟩,?_⟩
 rintro i m ys σ H ⟨rfl,hi,p⟩
 obtain ⟨q,hy⟩:=hl i ys σ H hi p
 by_cases hlt:i < xs.length
 ·refine .inr ⟨⟨xs,xs[i],q,by simp [hlt]⟩,by omega,λy σ' H'=>Pv (i + 1) (ys++[y]) σ' H',λy σ' H' z=>⟨xs.length - (i + 1),by omega,rfl,hlt,z⟩,λx H' y=>?_⟩
  obtain ⟨e,y⟩:=y
  subst e
  exact hs i x ys σ _ (y xs q) p
 ·have e:i=xs.length:=by omega
  subst e
  exact .inl ⟨⟨xs,q,Nat.le_refl _⟩,hd ys σ H p⟩
section
variable {X:Cx}
end
end L2
namespace L2
open PySem PySem.Spec PyProof.Rows
section
variable {X:Cx}
end
end L2
namespace L2
open PySem
end L2
namespace L2
open PySem PySem.Spec PyProof.Rows
section
variable {X:Cx}
end
end L2
namespace L2
open PySem PySem.Spec PyProof.Rows
theorem jH {a b c d:Nat} (h1:a < b) (h2:b<=c) (h3:c + 1<=d):d≠a:=by omega
theorem gf {a b c:Nat} (h1:c=a + 1) (h2:c + 1<=b):b≠a:=by omega
theorem qK {x:Str} {c:Addr}:∀ (names:List (Str × NameKind)) (n:Nat) (acc:List (Str × Addr)),(cellsFrom n names acc).lookup x=some c->((x,NameKind.cell)∈names/\n<=c)\/acc.lookup x=some c
 | [],_,_,h=>.inr h
 | (y,k) :: r,n,acc,h=>by
  unfold cellsFrom at h
  split at h
  ·rename_i hk
   rcases qK r (n + 1) ((y,n) :: acc) h with ⟨a,b⟩ | z
   ·exact .inl ⟨List.mem_cons_of_mem _ a,by omega⟩
   ·rw [List.lookup_cons] at z
    by_cases e:(x == y)=true
    ·simp only [e] at z
     have e1:x=y:=eq_of_beq e
     have e2:k=.cell:=eq_of_beq hk
     subst e1
     subst e2
     cases z
     exact .inl ⟨List.mem_cons_self,Nat.le_refl _⟩
    ·have e':(x == y)=false:=by simpa using e
     simp only [e'] at z
     exact .inr z
  ·rcases qK r n acc h with ⟨a,b⟩ | z
   ·exact .inl ⟨List.mem_cons_of_mem _ a,b⟩
   ·exact .inr z
theorem gg {x:Str}:∀ (names:List (Str × NameKind)) (n:Nat) (acc:List (Str × Addr)),(x,NameKind.cell)∉names->(cellsFrom n names acc).lookup x=acc.lookup x
 | [],_,_,_=>rfl
 | (y,k) :: r,n,acc,h=>by
  have hr:(x,NameKind.cell)∉r:=λz=>h (List.mem_cons_of_mem _ z)
  unfold cellsFrom
  split
  ·rename_i hk
   have e2:k=.cell:=eq_of_beq hk
   rw [gg r _ _ hr,List.lookup_cons]
   have e':(x == y)=false:=by
    cases q:x == y with
    | false=>rfl
    | true=>exact absurd (by rw [eq_of_beq q,e2]; exact List.mem_cons_self) h
   simp only [e']
  ·exact gg r _ _ hr
theorem gh:∀ (names:List (Str × NameKind)) (n:Nat) (acc:List (Str × Addr)),(∀ x c,acc.lookup x=some c->c < n)->(∀ x y c,acc.lookup x=some c->acc.lookup y=some c->x=y)->
  ∀ x y c,(cellsFrom n names acc).lookup x=some c->(cellsFrom n names acc).lookup y=some c->x=y
 | [],_,_,_,h2=>h2
 | (z,k) :: r,n,acc,h1,h2=>by
  unfold cellsFrom
  split
  ·have look:∀ x c,((z,n) :: acc).lookup x=some c->(x=z/\c=n)\/acc.lookup x=some c:=λx c e=>by
    rw [List.lookup_cons] at e
    cases q:x == z with
    | true=>
     simp only [q] at e
     exact .inl ⟨eq_of_beq q,(Option.some.inj e).symm⟩
    | false=>
     simp only [q] at e
     exact .inr e
   refine gh r (n + 1) ((z,n) :: acc) (λx c e=>?_) λx y c e1 e2=>?_
   ·rcases look x c e with ⟨_,e⟩ | e
    ·rw [e]
     exact Nat.lt_succ_self n
    ·exact Nat.lt_succ_of_lt (h1 x c e)
   ·rcases look x c e1 with ⟨a1,b1⟩ | a1 <;> rcases look y c e2 with ⟨a2,b2⟩ | a2
    ·rw [a1,a2]
    ·have:=h1 y c a2
     rw [b1] at this
     exact absurd this (Nat.lt_irrefl n)
    ·have:=h1 x c a1
     rw [b2] at this
     exact absurd this (Nat.lt_irrefl n)
    ·exact h2 x y c a1 a2
  ·exact gh r n acc h1 h2
theorem gi {x:Str} {c:Addr}:∀ (names:List (Str × NameKind)) (h:Heap) (acc:List (Str × Addr)),(cellsFrom h.objs.size names acc).lookup x=some c->acc.lookup x=some c\/(pushCells h names).IsCell c none
 | [],_,_,e=>.inl e
 | (y,k) :: r,h,acc,e=>by
  unfold cellsFrom at e
  unfold pushCells
  split at e
  ·rename_i hk
   rw [if_pos hk]
   have q:=gi (x:=x) (c:=c) r (h.push { cls:=.type "cell",data:=.cell none }) ((y,h.objs.size) :: acc) (by rw [Heap.size_push]; exact e)
   rcases q with q | q
   ·rw [List.lookup_cons] at q
    cases z:x == y with
    | true=>
     simp only [z] at q
     cases q
     exact .inr ⟨_,pushCells_keeps r _ _ _ (Heap.get?_push_size _ rfl),rfl⟩
    | false=>
     simp only [z] at q
     exact .inl q
   ·exact .inr q
  ·rename_i hk
   rw [if_neg hk]
   exact gi r h acc e
theorem uY:∀ {l:List (Str × NameKind)} {x:Str} {k:NameKind},(l.map (·.1)).Nodup->(x,k)∈l->l.lookup x=some k
 | [],_,_,_,h=>by cases h
 | (y,j) :: r,x,k,nd,h=>by
  rw [List.map_cons,List.nodup_cons] at nd
  rw [List.lookup_cons]
  rcases List.mem_cons.mp h with e | h
  ·cases e
   rw [beq_self_eq_true]
  ·have ne:(x == y)=false:=by
    cases q:x == y with
    | false=>rfl
    | true=>exact absurd (by rw [<- eq_of_beq q]; exact List.mem_map.mpr ⟨(x,k),h,rfl⟩) nd.1
   simp only [ne]
   exact uY nd.2 h
theorem X2 {M:Model} {A:Around} {E:Value->Shared->Prop} {s:Shared} {scope:Scope} {globals:Addr} {closure:List (Str × Addr)} {qual:Str} {func:Option Addr} {code:Value} {env:Env} {builtins:Addr} {Q:Env->Shared->Prop}
  (h:Q (newEnv scope s.heap.objs.size globals (cellsFrom (s.heap.objs.size + 1) scope.names closure) qual func code (some env) builtins) { s with heap:=pushCells (s.heap.push { cls:=.type "dict",data:=.dict #[] }) scope.names }) :
  wpAny M A (newFunctionEnv scope globals closure [] qual func code (some env) builtins) Q E s:=by
 simp only [newFunctionEnv,Option.isSome_some,if_true]
 refine wpAny_bind (wpAny_alloc ?_)
 refine wpAny_bind (wpAny_layCells _ (λname kind cells=>by cases hkc:kind == NameKind.cell <;> simp [hkc]) _ _ _ _ ?_)
 rw [show ({ s with heap:=s.heap.push { cls:=.type "dict",data:=.dict #[] } }:Shared).heap.objs.size=s.heap.objs.size + 1 from Heap.size_push ..]
 simp only [List.forIn_nil]
 exact wpAny_bind (wpAny_pure (wpAny_pure h))
noncomputable abbrev xf (X:Cx) (scope:Scope) (N:List Str) (C:Addr) (s₀:Shared) (H₀:Hp) (ex:List Addr):Cx:=
 { X with N:=N,s₀:=s₀,H₀:=H₀,env:=compEnvC scope (cellsFrom (C + 1) scope.names (xP scope X.env)) C X.env,outer:=X.stack,ex:=ex,fn:=λx=>scope.names.lookup x == some .cell,pn:=[],xe:=λ_ _=>False }
structure vj (X:Cx) (scope:Scope) (own:List Str) (caps:List (Nat × Str)):Prop where
 kind:scope.kind=.function
 nod:(scope.names.map (·.1)).Nodup
 locs:∀ y∈scope.names,y.2=.local->scope.names.lookup y.1=some .local
 free:∀ y∈scope.names,y.2=.free->(X.env.cells.lookup y.1).isSome=true
 caps:∀ p∈caps,X.N[p.1]? = some p.2/\scope.names.lookup p.2=some .free/\(X.env.kindOf p.2=some .cell\/X.env.kindOf p.2=some .free)
section
variable {X:Cx} {scope:Scope} {own:List Str} {caps:List (Nat × Str)} {pins:List (Addr × Obj)} {σ:St} {H:Hp} {s s4:Shared} {C D:Addr} {fp:List Addr}
theorem qL (B:vj X scope own caps) {x:Str} {c n:Nat} (e:(cellsFrom n scope.names (xP scope X.env)).lookup x=some c):((x,NameKind.cell)∈scope.names/\n<=c)\/X.env.cells.lookup x=some c:=
 (qK _ _ _ e).imp id λz=>(xk B.free z).1
theorem Zt (I:zE X pins σ H s) {x:Str} {c:Addr} (e:X.env.cells.lookup x=some c):c < s.heap.objs.size:=by
 obtain ⟨v,o,ho,_⟩:=I.cell x c e
 exact Heap.lt_size ho
theorem X3 (B:vj X scope own caps) (I:zE X pins σ H s) (hf:∀ b∈fp,zp X pins H b) (hC:s.heap.objs.size<=C) (hlt:∀ b∈fp,b < s.heap.objs.size):(xf X scope (zR own caps) C s H fp).Ok where
 mod:=I.ok.mod
 kind:=B.kind
 glob:=I.ok.glob
 blt:=I.ok.blt
 above:=hC
 inj:=gh _ _ _ (λx c e=>Nat.lt_of_lt_of_le (Zt I (xk B.free e).1) (Nat.le_succ_of_le hC)) λx y c h1 h2=>I.ok.inj x y c (xk B.free h1).1 (xk B.free h2).1
 has:=λx h=>by
  have fr:(x,NameKind.free)∈scope.names->∃ c,(cellsFrom (C + 1) scope.names (xP scope X.env)).lookup x=some c:=λz=>by
   obtain ⟨c,e⟩:=jC (env:=X.env) z
   exact Option.isSome_iff_exists.mp (PySem.W.cellsFrom_some _ _ _ (.inr (by rw [e]; rfl)))
  have ce:(x,NameKind.cell)∈scope.names->∃ c,(cellsFrom (C + 1) scope.names (xP scope X.env)).lookup x=some c:=λz=>
   Option.isSome_iff_exists.mp (PySem.W.cellsFrom_some _ _ _ (.inl (uY B.nod z)))
  rcases h with h | h
  ·rcases Zi (show (relabel scope X.env).names.lookup x=some .cell from h) with ⟨_,z | z⟩ | z
   ·exact fr z
   ·exact ce z
   ·exact ce z
  ·rcases Zi (show (relabel scope X.env).names.lookup x=some .free from h) with ⟨z,_⟩ | z
   ·cases z
   ·exact fr z
 cab:=λx c h e=>by
  have hx:scope.names.lookup x=some .cell:=eq_of_beq h
  rcases qK _ _ _ e with ⟨_,z⟩ | z
  ·exact Nat.le_trans hC (Nat.le_of_succ_le z)
  ·have:=uY B.nod (xk B.free z).2
   rw [hx] at this
   cases this
 hd:=I.ok.hd
 frames:=I.ok.frames
 stk:=.inl rfl
 exf:=λb hb=>⟨λe=>by have:=hlt b hb; rw [e] at this; exact absurd (Nat.lt_of_lt_of_le this hC) (Nat.lt_irrefl _),λx c e=>by
  rcases qL B e with ⟨_,z⟩ | z
  ·exact jH (hlt b hb) hC z
  ·exact (hf b hb).2.2.2.2.1 x c z⟩
 bs:=I.bs
 bsz:=Nat.le_trans I.ok.bsz I.sz
 noex:=λb o e hb=>by
  rcases (hf b hb).2.2.2.1 with z | z
  ·exact I.ok.noex b o e z
  ·exact absurd (Nat.lt_of_lt_of_le (Heap.lt_size e) (Nat.le_trans I.ok.bsz z)) (Nat.lt_irrefl _)
 exfs:=λb hb z=>by
  rcases List.mem_cons.mp (I.stkSub b z) with e | z
  ·exact (hf b hb).2.1 e
  ·exact (hf b hb).2.2.1 z
 funs:=I.stack
 frf:=I.stkFree
theorem X4 (B:vj X scope own caps) (I:zE X pins σ H s) (hf:∀ b∈fp,zp X pins H b) (hC:s.heap.objs.size<=C) (hlt:∀ b∈fp,b < s.heap.objs.size)
  {m:Str->Option Value} (hn:s4.heap.Ns C m) (hk:∀ b o,s.heap.get? b=some o->s4.heap.get? b=some o) (hcell:∀ x c,(cellsFrom (C + 1) scope.names (xP scope X.env)).lookup x=some c->(xP scope X.env).lookup x=some c\/s4.heap.IsCell c none) (ho:s4.os=s.os) (hb:AllBare s4.gens) :
  zE (xf X scope (zR own caps) C s H fp) [] (xV own caps σ) H s4 where
 ok:=X3 B I hf hC hlt
 os:=ho
 bare:=hb
 base:=Un.kept hk
 loc:=⟨m,hn,λi x v h1 h2 h3=>by
  obtain ⟨j,hm,hs⟩:=Zk h1 h2
  obtain ⟨c1,c2,c3⟩:=B.caps _ hm
  obtain ⟨m',_,hl⟩:=I.loc
  have vis:vt X.env.scope x:=c3.elim (λz=>.inr (.inl z)) λz=>.inr (.inr z)
  obtain ⟨u,r,l⟩:=hl j x v c1 hs vis
  refine ⟨u,r,.inr ?_⟩
  have hm2:(x,NameKind.free)∈scope.names:=vi c2
  obtain ⟨c',hc'⟩:=jC (env:=X.env) hm2
  have hc2:=(xk B.free hc').1
  have noc:(x,NameKind.cell)∉scope.names:=λz=>by
   have:=uY B.nod z
   rw [c2] at this
   cases this
  refine ⟨?_,c',(gg _ _ _ noc).trans hc',?_⟩
  ·show (relabel scope X.env).names.lookup x=some .cell\/(relabel scope X.env).names.lookup x=some .free
   rw [qH,c2,Option.map_some]
   split
   ·exact .inl rfl
   ·exact .inr rfl
  ·rcases l with ⟨k,_⟩ | ⟨_,c,e,z⟩
   ·rcases c3 with c3 | c3 <;> rw [c3] at k <;> cases k
   ·rw [hc2] at e
    cases e
    obtain ⟨o,e1,e2⟩:=z
    exact ⟨o,hk _ o e1,e2⟩⟩
 cell:=λx c e=>by
  rcases hcell x c e with z | z
  ·obtain ⟨v,o,e1,e2⟩:=I.cell x c (xk B.free z).1
   exact ⟨v,o,hk _ o e1,e2⟩
  ·exact ⟨none,z⟩
 free:=I.hok.fresh hC
 freeC:=λx c e=>by
  rcases qL B e with ⟨_,z⟩ | z
  ·exact I.hok.fresh (Nat.le_trans hC (Nat.le_of_succ_le z))
  ·exact I.freeC x c z
 pin:=λp hp=>by simp at hp
 hok:=I.hok.kept hk
 len:=by
  show (xV own caps σ).length=(zR own caps).length
  unfold xV zR
  simp
end
section
variable {X:Cx} {scope:Scope} {own:List Str} {caps:List (Nat × Str)} {elt tg iter cond:Expr} {wi:TI} {g:TG} {tc:TT} {te:TE} {pos:Pos}
theorem Zu {pins:List (Addr × Obj)} {σ:St} {H2:Hp} {s2:Shared} {it:Addr} {fp:List Addr} {tn:Nat->Heap->Prop} {J:It} {W:Nat->Nat->List V->St->Hp->Prop} {m0:Nat} {Q:VK} {E:Value->Shared->Prop} {RR:Value->Addr->Result->Shared->Prop}
  (B:vj X scope own caps) (hc:X.calm=true) (hg:∀ C s₀ H₀ ex,PG (xf X scope (zR own caps) C s₀ H₀ ex) tg g) (he:∀ C s₀ H₀ ex,PE (xf X scope (zR own caps) C s₀ H₀ ex) elt te)
  (I2:zE X pins σ H2 s2) (T:wG X.prog X.w X.K tg J fp it tn) (st2:tn 0 s2.heap) (f2:∀ b∈fp,zp X pins H2 b) (w0:W 0 m0 [] (xV own caps σ) H2)
  (turn:∀ i m ys σ1 H,W i m ys σ1 H->(J.stop i H/\∀ p,H p=none->Q (.ref p) (upd H p (.lst ys)))∨
   (J.go i H/\ys.length < sizeLine/\∃ N:V->St->Hp->Prop,(∀ y σ' H',N y σ' H'->∃ m',m' < m/\W (i + 1) m' (ys++[y]) σ' H')/\∀ x H',J.yld i H x H'->g x σ1 H' λσ2 H2=>te σ2 H2 λy H3=>N y σ2 H3))
  (hRR:∀ D C s6 H6 ys m,s6.heap.Ns C m->s2.heap.objs.size<=C->(∀ h',Heap.SameBut C s6.heap h'->zE X pins σ (upd H6 D (.lst ys)) { s6 with heap:=h' })->upd H6 D (.lst ys) C=none->Q (.ref D) (upd H6 D (.lst ys))->RR (.ref D) C (.ok .next) s6) :
  wpAny (model X.prog X.w) X.A (newList []) (λacc s3=>wpAny (model X.prog X.w) X.A (newFunctionEnv scope X.env.globals (xP scope X.env) [] X.env.qual none .none (some X.env)) (λcenv s4=>
   codeAny (model X.prog X.w) X.A (.compStart (.ListComp elt [⟨tg,iter,[],0⟩] scope pos) 0 (.ref it) acc { cenv with scope:=relabel scope X.env }) (RR acc cenv.locals) s4) E s3) E s2:=by
 have hlt:∀ b∈fp,b < s2.heap.objs.size:=λb hb=>by
  obtain ⟨o,ho,_⟩:=T.obj _ _ st2 b hb
  exact Heap.lt_size ho
 refine wpAny_newObj_type (X2 ?_)
 dsimp only
 generalize hP:s2.heap.push { cls:=.type "list",dict:=none,data:=.seq ([]:List Value).toArray }=HD
 have hns:(pushCells (HD.push { cls:=.type "dict",data:=.dict #[] }) scope.names).Ns HD.objs.size (λ_=>none):=(Heap.Ns.new HD (.type "dict")).keeps (pushCells_keeps _ _)
 have hkp:∀ b o,HD.get? b=some o->(pushCells (HD.push { cls:=.type "dict",data:=.dict #[] }) scope.names).get? b=some o:=λb o e=>pushCells_keeps _ _ b o (Heap.get?_push_of_some _ e)
 have hcell:∀ x c,(cellsFrom (HD.objs.size + 1) scope.names (xP scope X.env)).lookup x=some c->(xP scope X.env).lookup x=some c\/(pushCells (HD.push { cls:=.type "dict",data:=.dict #[] }) scope.names).IsCell c none:=λx c e=>
  gi _ _ _ (by rw [Heap.size_push]; exact e)
 generalize hP4:pushCells (HD.push { cls:=.type "dict",data:=.dict #[] }) scope.names=h4 at hns hkp hcell |-
 have hCD:HD.objs.size=s2.heap.objs.size + 1:=by rw [<- hP,Heap.size_push]
 have hDC:s2.heap.objs.size≠HD.objs.size:=by omega
 have hle:s2.heap.objs.size<=HD.objs.size:=by omega
 have old:∀ b o,s2.heap.get? b=some o->h4.get? b=some o:=λb o eb=>hkp b o (by rw [<- hP]; exact Heap.get?_push_of_some _ eb)
 have hD4:h4.get? s2.heap.objs.size=some { cls:=.type "list",data:=.seq ([]:List Value).toArray 0 }:=hkp _ _ (by rw [<- hP]; exact Heap.get?_push_size _ rfl)
 have IY:zE (xf X scope (zR own caps) HD.objs.size s2 H2 fp) [] (xV own caps σ) H2 { s2 with heap:=h4 }:=
  X4 B I2 f2 (by omega) hlt hns old hcell rfl I2.bare
 have stat:∀ {H':Hp},(∀ b∈fp,H' b=none)->∀ b∈fp,zp (xf X scope (zR own caps) HD.objs.size s2 H2 fp) [] H' b:=λ{H'} hn b hb=>by
  have hb2:=hlt b hb
  refine ⟨hn b hb,?_,λz=>?_,.inl hb,λx c ec=>(match qL B ec with | .inl z=>jH hb2 hle z.2 | .inr z=>(f2 b hb).2.2.2.2.1 x c z),λp hp=>by simp at hp⟩
  ·exact Nat.ne_of_lt (Nat.lt_of_lt_of_le hb2 hle)
  ·rcases List.mem_cons.mp (I2.stkSub b z) with e | z
   ·exact (f2 b hb).2.1 e
   ·exact (f2 b hb).2.2.1 z
 have statD:∀ {H':Hp},H' s2.heap.objs.size=none->zp (xf X scope (zR own caps) HD.objs.size s2 H2 fp) [] H' s2.heap.objs.size:=λ{H'} hn=>by
  refine ⟨hn,hDC,λz=>?_,.inr (Nat.le_refl _),λx c ec z=>?_,λp hp=>by simp at hp⟩
  ·obtain ⟨_,o,ho,_⟩:=I2.stack.mem z
   exact absurd (Heap.lt_size ho) (Nat.lt_irrefl _)
  ·rcases qL B ec with ⟨_,y⟩ | y
   ·exact gf hCD y z
   ·have:=Zt I2 y
    rw [z] at this
    exact Nat.lt_irrefl _ this
 have neD:∀ b∈fp,b≠s2.heap.objs.size:=λb hb=>Nat.ne_of_lt (hlt b hb)
 have IY':zE (xf X scope (zR own caps) HD.objs.size s2 H2 fp) [(s2.heap.objs.size,zu [] 0)] (xV own caps σ) H2 { s2 with heap:=h4 }:=
  IY.pins_of λp hp=>by
   rw [List.mem_singleton.mp hp]
   have z:=statD (I2.hok.fresh (Nat.le_refl _))
   exact ⟨hD4,z.1,z.2.1,z.2.2.1,λv z=>by cases z⟩
 have loop:∀ s3:Shared,s3={ s2 with heap:=h4 }->
   codeAny (model X.prog X.w) X.A (.compLoop (.ListComp elt [⟨tg,iter,[],0⟩] scope pos) 0 (.ref it) (.ref s2.heap.objs.size) (compEnvC scope (cellsFrom (HD.objs.size + 1) scope.names (xP scope X.env)) HD.objs.size X.env))
    (RR (.ref s2.heap.objs.size) HD.objs.size) s3:=by
  rintro s3 rfl
  refine Zj (λn s'=>∃ i ys σ' H' its k,zE (xf X scope (zR own caps) HD.objs.size s2 H2 fp) [(s2.heap.objs.size,zu its k)] σ' H' s'/\tn i s'.heap/\(∀ b∈fp,H' b=none)∧
   zN ys its/\ys.length<=sizeLine/\W i n ys σ' H') ?_ m0 ⟨0,[],_,H2,[],0,IY',T.keep _ _ _ st2 λb hb o eb=>old b o eb,λb hb=>(f2 b hb).1,.nil,Nat.zero_le _,w0⟩
  rintro n s5 ⟨i,ys,σ5,H5,its,k,I5,st5,fr5,rv5,hz5,w5⟩
  have stat5:∀ {H':Hp},(∀ b∈fp,H' b=none)->∀ b∈fp,zp (xf X scope (zR own caps) HD.objs.size s2 H2 fp) [(s2.heap.objs.size,zu its k)] H' b:=λ{H'} hn b hb=>by
   obtain ⟨a1,a2,a3,a4,a5,_⟩:=stat hn b hb
   refine ⟨a1,a2,a3,a4,a5,λp hp=>?_⟩
   have hp':p∈[(s2.heap.objs.size,zu its k)]:=hp
   rw [List.mem_singleton.mp hp']
   exact Ne.symm (neD b hb)
  rcases turn i n ys σ5 H5 w5 with ⟨stop,qn⟩ | ⟨go,hlen,N,hN,step⟩
  ·refine zb (T.done (xf X scope (zR own caps) HD.objs.size s2 H2 fp) rfl rfl rfl hc i _ s5 σ5 H5 _ I5 (stat5 fr5) st5 stop) λr s6 ⟨hr,I6⟩=>?_
   subst hr
   obtain ⟨pD1,pD2,_⟩:=I6.pin (s2.heap.objs.size,zu its k) (List.mem_append_right _ List.mem_cons_self)
   obtain ⟨m6,hn6,_⟩:=I6.loc
   refine hRR _ _ s6 H5 ys m6 hn6 (by omega) (λh' sb=>?_) (by rw [zi (Ne.symm hDC)]; exact I6.free) (qn _ pD2)
   have hC5:H5 HD.objs.size=none:=I6.free
   have nb:∀ b o,s2.heap.get? b=some o->b≠HD.objs.size/\b≠s2.heap.objs.size:=λb o eb=>by
    have hb:=Heap.lt_size eb
    exact ⟨Nat.ne_of_lt (Nat.lt_of_lt_of_le hb hle),Nat.ne_of_lt hb⟩
   have nt:∀ b o,H5 b=some o->b≠s2.heap.objs.size:=λb o eb z=>by rw [z] at eb; rw [show H5 s2.heap.objs.size=none from pD2] at eb; cases eb
   have un:Un (yw X.stack) fp H2 (upd H5 s2.heap.objs.size (.lst ys)) s2.heap h':=
    ⟨λb o eb n1 n2 n3=>sb.extBut b o (nb b o eb).1 (I6.base.keep b o eb n1 n2 n3),
     λb o eb n1 n2 n3=>by
      obtain ⟨sl,e1⟩:=I6.base.slot b o eb n1 n2 n3
      exact ⟨sl,sb.extBut b _ (nb b o eb).1 e1⟩,
     λb o eb n1 n3=>by
      rw [zi (nb b o eb).2]
      exact I6.base.free b o eb n1 n3,
     λb o eb n3=>by
      obtain ⟨o',e1⟩:=I6.base.there b o eb n3
      exact ⟨o',sb.extBut b _ (nb b o eb).1 e1⟩,
     λb xs eb=>by
      have e1:=I6.base.tups b xs eb
      rw [zi (nt b _ e1)]
      exact e1,
     λb o u eb=>by
      have e1:=I6.base.frzs b o u eb
      rw [zi (nt b _ e1)]
      exact e1,
     λb ps eb=>by
      obtain ⟨more,e1⟩:=I6.base.tbls b ps eb
      refine ⟨more,?_⟩
      rw [zi (nt b _ e1)]
      exact e1⟩
   have ok5:yW X.prog X.w (upd H5 s2.heap.objs.size (.lst ys)) h':=λb u eb=>by
    by_cases hb:b=s2.heap.objs.size
    ·subst hb
     rw [zJ] at eb
     cases eb
     exact ⟨hz5,its,k,rv5,sb.extBut _ _ hDC pD1⟩
    ·rw [zi hb] at eb
     refine (I6.hok b u eb).stay (λc v hcv ev=>sb.extBut c v ?_ ev) (λc ec=>by rw [zi (nt c _ ec)]; exact ec) λc xs ec=>by rw [zi (nt c _ ec)]; exact ec
     rintro rfl
     rcases hcv with z | z
     ·rw [<- z,hC5] at eb
      cases eb
     ·rw [hC5] at z
      cases z
   exact I2.call' (s':={ s6 with heap:=h' }) (ch:=fp) I6.os un ok5 I6.bare λb hb=>⟨(f2 b hb).2.2.2.1,(f2 b hb).2.1,(f2 b hb).2.2.2.2.1,(f2 b hb).2.2.2.2.2⟩
  ·refine zb (T.item (xf X scope (zR own caps) HD.objs.size s2 H2 fp) rfl rfl rfl hc i _ s5 σ5 H5 _ I5 (stat5 fr5) st5 go) λr s6 ⟨u,hr,h6⟩=>?_
   subst hr
   refine zb h6 λ_ s7 ⟨x,H7,I7,r7,y7,st7,fr7⟩=>?_
   have I7':=I7.pinned (stat5 fr7) (T.obj _ _ st7)
   refine zb (hg HD.objs.size s2 H2 fp _ s7 σ5 H7 x u _ I7' r7 (step x H7 y7)) λ_ s8 ⟨σ8,H8,I8,q8⟩=>?_
   refine zb (he HD.objs.size s2 H2 fp _ s8 σ8 H8 _ I8 q8) λyv s9 ⟨y,H9,I9,r9,n9⟩=>?_
   obtain ⟨m',hm',w9⟩:=hN y σ8 H9 n9
   have pD9:=(I9.pin (s2.heap.objs.size,zu its k) (List.mem_append_right _ (List.mem_append_left _ List.mem_cons_self))).2.1
   have hl:its.length=ys.length:=rv5.length.symm
   refine gc (Y:=xf X scope (zR own caps) HD.objs.size s2 H2 fp) (its:=its) (k:=k) (pl:=vz fp s7.heap) I9 (statD pD9) rfl (by omega) λh' k' tk keep I'=>?_
   refine ⟨m',hm',i + 1,ys++[y],σ8,H9,its++[yv],k',I',?_,λb hb=>?_,rv5.append (.cons r9 .nil),?_,w9⟩
   ·refine T.keep _ _ _ st7 λb hb o eb=>keep b o (neD b hb) ?_
    exact (I9.pin (b,o) (List.mem_append_right _ (List.mem_append_right _ (wv hb eb)))).1
   ·obtain ⟨o,eb,_⟩:=T.obj _ _ st7 b hb
    exact (I9.pin (b,o) (List.mem_append_right _ (List.mem_append_right _ (wv hb eb)))).2.1
   ·rw [List.length_append,List.length_singleton]
    omega
 exact codeAny_compStart_list (loop _ rfl) (T.self _ 0 _ _ _ (T.keep _ _ _ st2 λb hb o eb=>old b o eb) (loop _ rfl))
theorem X5 (B:vj X scope own caps) (hc:X.calm=true) (hi:PI X tg iter wi) (hg:∀ C s₀ H₀ ex,PG (xf X scope (zR own caps) C s₀ H₀ ex) tg g)
  (he:∀ C s₀ H₀ ex,PE (xf X scope (zR own caps) C s₀ H₀ ex) elt te) (hs:∀ x,foldedSetIterable iter X.env x=pure x:=by intro _; rfl) :
  PE X (.ListComp elt [⟨tg,iter,[],0⟩] scope pos) (qJ own caps wi g te):=by
 intro pins s σ H Q I h
 rw [eval_ListComp]
 refine wpAny_comprehension_free (use:=none) rfl hs (jB B.free) B.kind B.locs ?_
 refine zb (hi pins s σ H _ I h) λxv s1 h1=>zb h1 λitv s2 h2=>?_
 obtain ⟨it,fp,tn,J,H2,e,I2,T,st2,f2,W,⟨m0,w0⟩,turn⟩:=h2
 subst e
 refine Zu (RR:=λacc C=>compPost (model X.prog X.w) X.A X.xe none (EP X pins σ Q) acc C) B hc hg he I2 T st2 f2 w0 turn λD C s6 H6 ys m hn hC J6 hC6 q=>?_
 exact ⟨m,hn,λh' sb=>⟨.ref D,_,J6 h' sb,rfl,q⟩⟩
theorem X6 {i:Nat} {y:Str} {py spos:Pos} (hN:X.N.Nodup) (hy:X.N[i]? = some y) (hl:X.env.scope.names.lookup y=some .local) (B:vj X scope own caps) (hc:X.calm=true) (hi:PI X tg iter wi) (hg:∀ C s₀ H₀ ex,PG (xf X scope (zR own caps) C s₀ H₀ ex) tg g)
  (he:∀ C s₀ H₀ ex,PE (xf X scope (zR own caps) C s₀ H₀ ex) elt te) (hsw:swapsWith (.ListComp elt [⟨tg,iter,[],0⟩] scope pos) (some (.Name y py)) spos.line X.env=pure true) (hs:∀ x,foldedSetIterable iter X.env x=pure x:=by intro _; rfl) :
  PS X (.Assign [.Name y py] (.ListComp elt [⟨tg,iter,[],0⟩] scope pos) spos) (vN (qJ own caps wi g te) (j3 i)):=by
 intro pins s σ H D0 I h
 rw [exec_Assign_Name_used _ _ _ _ hsw]
 refine wpAny_bind (wpAny_standAt (wpAny_bind ?_))
 change wpAny _ X.A (do let _ <- comprehension (.ListComp elt [⟨tg,iter,[],0⟩] scope pos) scope X.env _ (newList []) false (eval iter X.env) (some (assign (.Name y py) X.env))) _ _ s
 refine wpAny_bind (wpAny_mono (wpAny_comprehension_free (use:=some (assign (.Name y py) X.env)) (Q:=λ_ s'=>SP X pins D0 .next s') rfl hs (jB B.free) B.kind B.locs ?_) (λ_ s' hq=>wpAny_pure (wpAny_pure hq)) λ_ _ e=>e)
 refine zb (hi pins s σ H _ I h) λxv s1 h1=>zb h1 λitv s2 h2=>?_
 obtain ⟨it,fp,tn,J,H2,e,I2,T,st2,f2,W,⟨m0,w0⟩,turn⟩:=h2
 subst e
 refine Zu (Q:=λx H1=>D0.nx (σ.set i (some x)) H1) (RR:=λacc C=>compPost (model X.prog X.w) X.A X.xe (some (assign (.Name y py) X.env)) (λ_ s'=>SP X pins D0 .next s') acc C) B hc hg he I2 T st2 f2 w0 turn λD C s6 H6 ys m hn hC J6 hC6 q=>?_
 have I6:zE X pins σ (upd H6 D (.lst ys)) s6:=J6 s6.heap (.refl ..)
 have CL:C≠X.env.locals:=λz=>by rw [z] at hC; exact absurd (Nat.lt_of_lt_of_le I2.lt hC) (Nat.lt_irrefl _)
 have CC:∀ x c,X.env.cells.lookup x=some c->c≠C:=λx c ec z=>by
  obtain ⟨v,o,ho,_⟩:=I2.cell x c ec
  rw [z] at ho
  exact absurd (Nat.lt_of_lt_of_le (Heap.lt_size ho) hC) (Nat.lt_irrefl _)
 have CP:∀ p∈X.pn++pins,p.1≠C:=λp hp z=>by
  have hl:=Heap.lt_size (I2.pin p hp).1
  rw [z] at hl
  exact absurd (Nat.lt_of_lt_of_le hl hC) (Nat.lt_irrefl _)
 change wpAny _ X.A (assign (.Name y py) X.env (.ref D)) _ _ s6
 refine wpAny_assign_Name (qj I6 hN hy (.inl hl) (v:=.ref D) rfl (λs7 I7 ⟨a,sb,ha⟩=>?_) (.inr hl))
 have aC:C≠a:=λz=>by
  rcases ha with e | e
  ·exact CL (z.trans e)
  ·exact CC _ _ e z.symm
 refine ⟨m,hn.sameBut sb aC,λh' sb'=>⟨_,_,I7.turned (h':=h') (t':=s7.toks) (it:=C) (λb o hb eb=>sb'.extBut b o hb eb) hC6 CL (.inr (Nat.le_trans I2.sz hC)) CC CP,q⟩⟩
end
theorem X7 {X:Cx} {scope S:Scope} {own N:List Str} {caps:List (Nat × Str)} (k:scope.kind=.function) (nd:(scope.names.map (·.1)).Nodup)
  (hS:X.env.scope=S) (hc:∃ n,X.env.cells=cellsFrom n S.names []) (hN:X.N=N) (fr:scope.names.all (λy=>y.2 != .free || S.names.lookup y.1 == some .cell)=true)
  (cp:caps.all (λp=>N[p.1]? == some p.2 && scope.names.lookup p.2 == some .free && S.names.lookup p.2 == some .cell)=true):vj X scope own caps:=by
 obtain ⟨nn,hc⟩:=hc
 refine ⟨k,nd,λy hy e=>?_,λy hy e=>?_,λp hp=>?_⟩
 ·exact uY nd (by rw [<- e]; exact hy)
 ·have q:=List.all_eq_true.mp fr y hy
  rw [e] at q
  have q2:S.names.lookup y.1=some .cell:=by simpa using q
  rw [hc]
  exact PySem.W.cellsFrom_some S.names nn [] (.inl q2)
 ·have q:=List.all_eq_true.mp cp p hp
  simp only [Bool.and_eq_true,beq_iff_eq] at q
  refine ⟨by rw [hN]; exact q.1.1,q.1.2,.inl ?_⟩
  show X.env.scope.names.lookup p.2=some .cell
  rw [hS]
  exact q.2
theorem X8 {Y:Cx} {scope S:Scope} {own own0:List Str} {caps caps0:List (Nat × Str)} {C:Addr} {s₀:Shared} {H₀:Hp} {ex:List Addr} (k:scope.kind=.function) (nd:(scope.names.map (·.1)).Nodup)
  (ndS:(S.names.map (·.1)).Nodup) (fr:scope.names.all (λy=>y.2 != .free || S.names.lookup y.1 == some .cell || S.names.lookup y.1 == some .free)=true)
  (cp:caps.all (λp=>(zR own0 caps0)[p.1]? == some p.2 && scope.names.lookup p.2 == some .free)=true):vj (xf Y S (zR own0 caps0) C s₀ H₀ ex) scope own caps:=by
 have fr':∀ y∈scope.names,y.2=.free->S.names.lookup y.1=some .cell\/S.names.lookup y.1=some .free:=λy hy e=>by
  have q:=List.all_eq_true.mp fr y hy
  rw [e] at q
  simpa using q
 refine ⟨k,nd,λy hy e=>?_,λy hy e=>?_,λp hp=>?_⟩
 ·exact uY nd (by rw [<- e]; exact hy)
 ·show ((cellsFrom (C + 1) S.names (xP S Y.env)).lookup y.1).isSome=true
  refine PySem.W.cellsFrom_some _ _ _ ?_
  rcases fr' y hy e with z | z
  ·exact .inl z
  ·obtain ⟨c,e⟩:=jC (env:=Y.env) (vi z)
   exact .inr (by rw [e]; rfl)
 ·have q:=List.all_eq_true.mp cp p hp
  simp only [Bool.and_eq_true,beq_iff_eq] at q
  refine ⟨q.1,q.2,?_⟩
  show (relabel S Y.env).names.lookup p.2=some .cell\/(relabel S Y.env).names.lookup p.2=some .free
  rw [qH]
  rcases fr' _ (vi q.2) rfl with z | z
  ·left
   show (S.names.lookup p.2).map _=_
   rw [z]
   rfl
  ·show (S.names.lookup p.2).map _=_\/(S.names.lookup p.2).map _=_
   rw [z,Option.map_some]
   split
   ·exact .inl rfl
   ·exact .inr rfl
end L2
namespace Sh
open PySem L2
noncomputable def vE (ns:List Int) (k:Int):Int:=(ns[k.toNat]?).getD 0
inductive qM (K:PySem.W.Frag) (vs:List V) (H:Hp) (Q:VK) (E:XK):Prop
 | mk (a:Addr) (ns:List Int) (k:Int) (_:vs=[.ref a,.int k]) (_:zM K H a (ns.map V.int)) (_:0<=k) (_:Q (.int (vE ns k)) H):qM K vs H Q E
theorem zL {H:Hp} {p:Addr} (h:H p=none) (o:HO):zC H (upd H p o):=λb u q=>by rw [zi (vf q h)]; exact q
theorem Zv {x y:V}:xb [x,y] 0=some x:=rfl
theorem Zw {x y:V}:xb [x,y] 1=some y:=rfl
noncomputable def Tp (H:Hp) (v:V) (xs:List V):Prop:=∃ a,v=.ref a/\H a=some (.tup xs)
theorem Tp.same {H H':Hp} {v:V} {xs:List V} (s:zC H H') (h:Tp H v xs):Tp H' v xs:=let ⟨r,e,q⟩:=h; ⟨r,e,s _ _ q⟩
theorem Tp.upd {H:Hp} {v:V} {xs:List V} {l:Addr} {o o':HO} (hl:H l=some o) (n:∀ ys,o≠.tup ys) (h:Tp H v xs):Tp (upd H l o') v xs:=by
 obtain ⟨r,e,q⟩:=h
 exact ⟨r,e,by rw [zi (ZA q hl λz=>n _ z.symm)]; exact q⟩
theorem xJ {α β:Type} {R:α->β->Prop}:∀ {xs:List α} {ys:List β} {i:Nat} {x:α},Paired R xs ys->xs[i]? = some x->∃ y,ys[i]? = some y/\R x y
 | _,_,_,_,.nil,e=>by simp at e
 | _,_,0,_,.cons r _,e=>by simp at e; subst e; exact ⟨_,rfl,r⟩
 | _,_,i + 1,x,.cons _ t,e=>by
  obtain ⟨y,h1,h2⟩:=xJ (i:=i) (x:=x) t (by simpa using e)
  exact ⟨y,by simpa using h1,h2⟩
theorem wS {α β:Type} {R:α->β->Prop} {x:α} {y:β} (r:R x y):∀ {xs:List α} {ys:List β},Paired R xs ys->Paired R (xs++[x]) (ys++[y])
 | _,_,.nil=>.cons r .nil
 | _,_,.cons q t=>.cons q (wS r t)
theorem yl {α β:Type} {R:α->β->Prop}:∀ {xs zs:List α} {ys us:List β},Paired R xs ys->Paired R zs us->Paired R (xs++zs) (ys++us)
 | _,_,_,_,.nil,h=>h
 | _,_,_,_,.cons q t,h=>.cons q (yl t h)
theorem wT {α:Type} {l:List α} {i:Nat} {x:α} (h:l[i]? = some x):l.take (i + 1)=l.take i++[x]:=by
 obtain ⟨hi,e⟩:=List.getElem?_eq_some_iff.mp h
 rw [List.take_succ_eq_append_getElem hi,e]
noncomputable abbrev xD (H:Hp) (vs:List V) (ks:List (List Int)):Prop:=Paired (λv (k:List Int)=>Tp H v (k.map V.int)) vs ks
theorem xD.same {H H':Hp} {vs:List V} {ks:List (List Int)} (s:zC H H') (h:xD H vs ks):xD H' vs ks:=Paired.mapP h λ_ _ z=>Tp.same s z
theorem xD.upd {H:Hp} {vs:List V} {ks:List (List Int)} {l:Addr} {o o':HO} (hl:H l=some o) (n:∀ ys,o≠.tup ys) (h:xD H vs ks):xD (upd H l o') vs ks:=Paired.mapP h λ_ _ z=>Tp.upd hl n z
inductive jI (K:PySem.W.Frag) (vs:List V) (H:Hp) (Q:VK) (E:XK):Prop
 | mk (a:Addr) (ns:List Int) (_:vs=[.ref a]) (_:zM K H a (ns.map V.int)) (_:ns.length<=63) (_:∀ H',Q (.bl true) H'):jI K vs H Q E
inductive gj (vs:List V) (H:Hp) (Q:VK) (E:XK):Prop
 | mk (c m:Int) (_:vs=[.int c,.int m]) (_:0<=m) (_:m<=100) (_:∀ (r:Addr) (H':Hp) (xs:List Int),zC H H'->H r=none->H' r=some (.lst (xs.map V.int))->xs.length=m.toNat->(∀ x∈xs,0<=x/\x < 10 ^ 45)->Q (.ref r) H'):gj vs H Q E
theorem X9 {xs:List Int} {i:Nat} {x:V} (h:(xs.map V.int)[i]? = some x):∃ z,xs[i]? = some z/\x=V.int z:=by
 rw [List.getElem?_map] at h
 cases e:xs[i]? with
 | none=>rw [e] at h; cases h
 | some z=>rw [e] at h; exact ⟨z,rfl,(Option.some.inj h).symm⟩
end Sh
namespace L2
open PySem PySem.Spec PyProof.Rows
section
variable {X:Cx} {es:List Expr} {kk:Nat} {tp:Pos}
end
end L2
namespace L2
open PySem PySem.Spec PyProof.Rows
section
variable {X:Cx}
end
end L2
namespace Sh
open PySem L2
noncomputable def uC (H:Hp) (v:V) (p:Int × Int):Prop:=∃ r,v=.ref r/\H r=some (.tup [.int p.1,.int p.2])
noncomputable abbrev uZ (H:Hp) (vs:List V) (pts:List (Int × Int)):Prop:=Paired (uC H) vs pts
theorem uC.same {H H':Hp} {v:V} {p:Int × Int} (s:zC H H') (h:uC H v p):uC H' v p:=let ⟨r,e,q⟩:=h; ⟨r,e,s _ _ q⟩
theorem uZ.same {H H':Hp} {vs:List V} {pts:List (Int × Int)} (s:zC H H') (h:uZ H vs pts):uZ H' vs pts:=Paired.mapP h λ_ _ z=>z.same s
theorem uC.upd {H:Hp} {v:V} {p:Int × Int} {l:Addr} {xs:List V} {o:HO} (hl:H l=some (.lst xs)) (h:uC H v p):uC (upd H l o) v p:=by
 obtain ⟨r,e,q⟩:=h
 exact ⟨r,e,by rw [zi (ZA q hl (by intro z; cases z))]; exact q⟩
theorem uZ.upd {H:Hp} {vs:List V} {pts:List (Int × Int)} {l:Addr} {xs:List V} {o:HO} (hl:H l=some (.lst xs)) (h:uZ H vs pts):uZ (upd H l o) vs pts:=Paired.mapP h λ_ _ z=>z.upd hl
structure gk (ws:List Int) (n:Nat):Prop where
 len:ws.length=n
 bd:∀ w∈ws,Bd 1000 w
structure jJ (r:List Int) (n:Nat):Prop where
 len:r.length=n + 1
 bd:∀ x∈r,Bd 1000 x
theorem jJ.rw {r:List Int} {n:Nat} (h:jJ r n):gk (r.take n) n:=⟨by rw [List.length_take,h.len]; omega,λw hw=>h.bd w (List.mem_of_mem_take hw)⟩
theorem jJ.at {r:List Int} {n j:Nat} (h:jJ r n) (hj:j<=n):r[j]? = some (r.getD j 0)/\Bd 1000 (r.getD j 0):=by
 have e:r[j]? = some (r.getD j 0):=by
  rw [List.getD_eq_getElem?_getD,List.getElem?_eq_getElem (by have:=h.len; omega)]
  rfl
 exact ⟨e,h.bd _ (List.mem_of_getElem? e)⟩
end Sh
namespace Sh
open PySem L2
inductive Kd where
 | int | bool | non | str | lst | tup | dic
 deriving DecidableEq
noncomputable def Kd.nm:Kd->String
 | .int=>"int" | .bool=>"bool" | .non=>"NoneType" | .str=>"str" | .lst=>"list" | .tup=>"tuple" | .dic=>"dict"
noncomputable def Kd.whole:Kd->Bool
 | .int=>true
 | _=>false
noncomputable def Kd.isInt:Kd->Bool
 | .int=>true
 | .bool=>true
 | _=>false
noncomputable def Kd.isBool:Kd->Bool
 | .bool=>true
 | _=>false
noncomputable def Kd.isTup:Kd->Bool
 | .tup=>true
 | _=>false
inductive wU (H:Hp):V->Kd->Prop where
 | non:wU H .non .non
 | bl (b:Bool):wU H (.bl b) .bool
 | int (i:Int):wU H (.int i) .int
 | str (x:Str):wU H (.str x) .str
 | lst {a:Addr} {xs:List V} (e:H a=some (.lst xs)):wU H (.ref a) .lst
 | tup {a:Addr} {xs:List V} (e:H a=some (.tup xs)):wU H (.ref a) .tup
 | dic {a:Addr} {kvs:List (yO × V)} (e:H a=some (.dK kvs)):wU H (.ref a) .dic
theorem wU.ty {K:PySem.W.Frag} {H:Hp} {x:V} {k:Kd} (h:wU H x k):yP K H x (.type k.nm):=by
 cases h with
 | non=>exact .non
 | bl b=>exact .bl b
 | int i=>exact .int i
 | str x=>exact .str x
 | lst e=>exact .lst e
 | tup e=>exact .tup e
 | dic e=>exact .dK e
theorem wU.same {H H':Hp} {x:V} {k:Kd} (s:zC H H') (h:wU H x k):wU H' x k:=by
 cases h with
 | non=>exact .non
 | bl b=>exact .bl b
 | int i=>exact .int i
 | str x=>exact .str x
 | lst e=>exact .lst (s _ _ e)
 | tup e=>exact .tup (s _ _ e)
 | dic e=>exact .dic (s _ _ e)
noncomputable def Kd.isLst:Kd->Bool
 | .lst=>true
 | _=>false
section
variable (K:PySem.W.Frag)
theorem uD (k:Kd):PySem.W.kitOne K (.type k.nm) (.type "int")=some k.isInt:=by
 cases k <;> first | rfl | decide +kernel | (unfold PySem.W.kitOne; rw [if_pos (by decide +kernel)]; rfl) | (unfold PySem.W.kitOne; rw [if_neg (by decide +kernel)]; rfl)
theorem uE (k:Kd):PySem.W.kitOne K (.type k.nm) (.type "bool")=some k.isBool:=by
 cases k <;> first | rfl | decide +kernel | (unfold PySem.W.kitOne; rw [if_pos (by decide +kernel)]; rfl) | (unfold PySem.W.kitOne; rw [if_neg (by decide +kernel)]; rfl)
theorem uF (k:Kd):PySem.W.kitOne K (.type k.nm) (.type "tuple")=some k.isTup:=by
 cases k <;> first | rfl | decide +kernel | (unfold PySem.W.kitOne; rw [if_pos (by decide +kernel)]; rfl) | (unfold PySem.W.kitOne; rw [if_neg (by decide +kernel)]; rfl)
theorem uG (k:Kd):PySem.W.kitOne K (.type k.nm) (.type "list")=some k.isLst:=by
 cases k <;> first | rfl | decide +kernel | (unfold PySem.W.kitOne; rw [if_pos (by decide +kernel)]; rfl) | (unfold PySem.W.kitOne; rw [if_neg (by decide +kernel)]; rfl)
end
end Sh
namespace L2
open PySem PySem.Spec PyProof.Rows
section
variable {X:Cx}
end
end L2
namespace L2
open PySem PySem.Spec PyProof.Rows
structure zS (K:PySem.W.Frag) (mg:Str->Option Value) (x:Str) (C:Addr):Prop where
 cl:vh K C
 mgC:mg x=some (.ref C)
 ha:PySem.W.findIn K (.ref C) "__class__" = some (some (.builtin "object.__class__"))
 hn:PySem.W.specialIn K (.builtin "object.__class__") "__get__" = some (some (.builtin "getset_descriptor.__get__"))
 htk:PySem.W.takesIn K (.builtin "object.__class__")=some true
 hm:PySem.W.mroIn K C (.type "object")=some true
theorem zS.ty {K:PySem.W.Frag} {mg:Str->Option Value} {x:Str} {C a dx:Addr} {H:Hp} {fs:List (Str × V)} (T:zS K mg x C) (e:H a=some (.ins C dx fs)):yP K H (.ref a) (.ref C):=.ins e T.cl T.ha T.hn T.htk T.hm
structure qN (P:Program) (w:World) (K:PySem.W.Frag) (mg:Str->Option Value) (base:Heap) (C:Addr) (m:Str) (ps:List Str) (k:Nat) (sp:Sp):Prop where
 ex:∃ f fd,zP P w K mg base zX k f fd ps sp/\u6 K C m f/\xF K fd ps []
structure uH (P:Program) (w:World) (K:PySem.W.Frag) (mg:Str->Option Value) (base:Heap) (C:Addr) (ps:List Str) (k:Nat) (sp:Sp):Prop where
 ex:∃ f fd,zP P w K mg base zX k f fd ps sp/\Mk K C f/\xF K fd ps []
structure wf (P:Program) (w:World) (K:PySem.W.Frag) (mg:Str->Option Value) (base:Heap) (C:Addr) (ps:List Str) (k:Nat) (sp:Sp) (dv:V):Prop where
 ex:∃ f fd d,zP P w K mg base zX k f fd ps sp/\Mk K C f/\xF K fd ps []/\xF K fd ps [d]/\zV dv d
theorem qN.mono {P:Program} {w:World} {K:PySem.W.Frag} {mg:Str->Option Value} {base:Heap} {C:Addr} {m:Str} {ps:List Str} {j k:Nat} {sp:Sp} (F:qN P w K mg base C m ps j sp) (h:j<=k:=by decide):qN P w K mg base C m ps k sp:=by
 obtain ⟨f,fd,a,b,c⟩:=F.ex
 exact ⟨f,fd,a.mono h,b,c⟩
theorem uH.mono {P:Program} {w:World} {K:PySem.W.Frag} {mg:Str->Option Value} {base:Heap} {C:Addr} {ps:List Str} {j k:Nat} {sp:Sp} (F:uH P w K mg base C ps j sp) (h:j<=k:=by decide):uH P w K mg base C ps k sp:=by
 obtain ⟨f,fd,a,b,c⟩:=F.ex
 exact ⟨f,fd,a.mono h,b,c⟩
theorem wf.mono {P:Program} {w:World} {K:PySem.W.Frag} {mg:Str->Option Value} {base:Heap} {C:Addr} {ps:List Str} {j k:Nat} {sp:Sp} {dv:V} (F:wf P w K mg base C ps j sp dv) (h:j<=k:=by decide):wf P w K mg base C ps k sp dv:=by
 obtain ⟨f,fd,d,a,b,c⟩:=F.ex
 exact ⟨f,fd,d,a.mono h,b,c⟩
theorem wf.fn {P:Program} {w:World} {K:PySem.W.Frag} {mg:Str->Option Value} {base:Heap} {C:Addr} {ps:List Str} {k:Nat} {sp:Sp} {dv:V} (F:wf P w K mg base C ps k sp dv):uH P w K mg base C ps k sp:=by
 obtain ⟨f,fd,d,a,b,c,_⟩:=F.ex
 exact ⟨f,fd,a,b,c⟩
section
variable {X:Cx} {C:Addr} {m x:Str} {ps:List Str} {k:Nat} {sp:Sp} {o e:Expr} {es:List Expr} {ta:TE} {t:TA} {p pos apos:Pos} {dv:V}
theorem WA (F:uH X.prog X.w X.K X.mg X.base C ps k sp) (T:zS X.K X.mg x C) (hr:zd (k + 1) X.A) (hg:Gl X x) (ha:PA X (e :: es) t)
  (hdb:(x == ("__debug__" : Str))=false:=by decide) (he:starEach (e :: es) X.env=(false,eval e X.env) :: starEach es X.env:=by rfl) (hpl:(backTo pos (starEach es X.env)).any (·.1)=false:=by rfl) :
  PE X (.Call (.Name x p) (e :: es) [] pos) (gO C sp [] E0 t):=by
 obtain ⟨f,fd,a,b,c⟩:=F.ex
 exact XG b a hr hg T.mgC c .nil qG ha hdb he hpl
theorem WB (T:zS X.K X.mg x C) (hg:Gl X x) (hd:(x == ("__debug__" : Str))=false:=by decide):PE X (.Name x pos) (tC (.ref C)):=wO hg T.mgC rfl hd
noncomputable def Zx (K:PySem.W.Frag):List V->Hp->VK->Prop:=λxs H Q=>∃ x C t b,xs=[x,.ref C]/\yP K H x t/\PySem.W.kitOne K t (.ref C)=some b/\Q (.bl b) H
theorem WC:yk X (.builtin "isinstance") (Zx X.K):=by
 intro pins s σ H xs us Q I r h
 obtain ⟨x,C,t,b,rfl,ty,e,q⟩:=h
 obtain ⟨u,v,rfl,ru,rv⟩:=qB r
 cases (show v=Value.ref C from rv)
 exact ZQ I ru ty e λtk=>⟨.bl b,H,I.tok tk,rfl,q⟩
end
end L2
namespace L2
open PySem PySem.Spec PyProof.Rows
section
variable {X:Cx} {pos:Pos}
theorem gl {x:Str} {n:Int} (hg:Gl X x) (h:∃ t,X.mg x=some (.int n t)) (hd:(x == ("__debug__" : Str))=false:=by decide):PE X (.Name x pos) (tC (.int n)):=
 let ⟨t,e⟩:=h
 wO hg e ⟨t,rfl⟩ hd
end
noncomputable def WD:Sp:=λ_ _ _ _=>False
theorem zP.none {P:Program} {w:World} {K:PySem.W.Frag} {mg:Str->Option Value} {base:Heap} {CX:xL} {k:Nat} {f:Addr} {fd:FuncData} {ps:List Str}:zP P w K mg base CX k f fd ps WD:=
 ⟨λ_ _ _ _ h=>h.elim,λ_ _ _ _ _ _ _ _ _ _ _ _ _ h=>h.elim⟩
end L2
namespace L2
open PySem PySem.Spec PyProof.Rows PySem.SeqAt
section
variable {X:Cx}
end
end L2
namespace L2
open PySem PySem.Spec PyProof.Rows
open PySem
theorem zC.seqT {K:PySem.W.Frag} {H H':Hp} {a:Addr} {xs:List V} (e:zC H H') (h:yD K H a xs):yD K H' a xs:=by
 rcases h with (h | ⟨o,h⟩) | h
 ·exact .inl (.inl (e _ _ h))
 ·exact .inl (.inr ⟨o,e _ _ h⟩)
 ·exact .inr h
noncomputable def gm (K:PySem.W.Frag) (H:Hp) (a:Addr) (xs:List V):Prop:=yD K H a xs\/zM K H a xs
theorem gm.same {K:PySem.W.Frag} {H H':Hp} {a:Addr} {xs:List V} (s:zC H H') (h:gm K H a xs):gm K H' a xs:=h.imp (λz=>s.seqT z) (λz=>s.seq z)
section
variable {X:Cx} {es:List Expr} {kk:Nat} {tp:Pos}
end
section
variable {prog:Program} {w:World} {A:Around} {E:Value->Shared->Prop}
theorem Zy {it l:Addr} {xs:Array Value} (ne:l≠it):∀ (m j:Nat) (s:Shared) (R:List Value->Shared->Prop),s.heap.IsListIter it l j->s.heap.IsList l xs->j + m<=xs.size->
  (∀ g,g.IsListIter it l (j + m)->Heap.SameBut it s.heap g->R ((xs.toList.drop j).take m) { s with heap:=g })->wpAny (model prog w) A (draw (.ref it) m) R E s
 | 0,j,s,R,hi,_,_,k=>wpAny_pure (by simpa using k s.heap hi (Heap.SameBut.refl ..))
 | m + 1,j,s,R,hi,hl,le,k=>by
  have lt:j < xs.size:=by omega
  have step:=λg (z:Heap.SameBut it s.heap g)=>(hl.extBut z.extBut ne:g.IsList l xs)
  show wpAny _ _ (pyNext (.ref it) >>= _) R E s
  refine wpAny_bind (wpAny_pyNext_list_item hi hl (x:=xs[j]) (by simp [lt]) λg1 i1 b1=>?_)
  refine wpAny_bind (wpAny_holding (Zy ne m (j + 1) _ _ i1 (step g1 b1) (by omega) λg2 i2 b2=>wpAny_pure ?_))
  have z:=k g2 (by rw [show j + (m + 1)=j + 1 + m by omega]; exact i2) (b1.trans b2)
  rw [show xs.toList.drop j=xs[j] :: xs.toList.drop (j + 1) by simp [List.drop_eq_getElem_cons,lt],List.take_succ_cons] at z
  exact z
theorem WE {s:Shared} {l:Addr} {xs:Array Value} {R:List Value->Shared->Prop} (hd:A.handled=none) (hl:s.heap.IsList l xs)
  (k:∀ g,Heap.ExtBut s.heap.objs.size s.heap g->R xs.toList { s with heap:=g }):wpAny (model prog w) A (unpackItems (.ref l) xs.size none) R E s:=by
 have ne:l≠s.heap.objs.size:=by
  obtain ⟨o,eo,_⟩:=hl
  exact Nat.ne_of_lt (Heap.lt_size eo)
 unfold unpackItems
 refine wpAny_bind ?_
 unfold notIterableAtAll
 refine wpAny_bind (wpAny_specialOf hl.typeIs slot_list_iter.lookup ?_)
 refine wpAny_pure ?_
 simp only [Bool.false_eq_true,if_false]
 refine wpAny_bind (wpAny_holding (wpAny_pyIter_list hl ?_))
 refine wpAny_bind (wpAny_holding (Zy ne xs.size 0 _ _ ⟨_,Heap.get?_push_size _ rfl,rfl,rfl⟩ (hl.push _) (by omega) λg1 i1 b1=>?_))
 rw [show List.take xs.size (List.drop 0 xs.toList)=xs.toList by rw [List.drop_zero]; exact List.take_of_length_le (by simp),if_neg (by simp)]
 refine wpAny_bind (wpAny_holding (wpAny_pyNext_list_end hd i1 ((hl.push _).extBut b1.extBut ne) (by simp) λg2 x2=>?_))
 simp only [Option.isSome_none,Bool.false_eq_true,if_false]
 exact wpAny_pure (k g2 λc o n e=>x2 c o n (b1.extBut c o n (Heap.get?_push_of_some _ e)))
end
section
variable {X:Cx} {pos:Pos}
noncomputable def gn (K:PySem.W.Frag) (n:Nat) (t:vM):TG:=λv σ H Q=>∃ a xs,v=.ref a/\zM K H a xs/\xs.length=n/\t xs σ H Q
theorem WF {es:List Expr} {k:Nat} {t:vM} {n:Nat} (hc:X.calm=true) (h:ut X es t)
  (hn:(assignEach es X.env).length=n:=by rfl) (hst:(assignEach es X.env).findIdx? (·.1)=none:=by rfl):PG X (.Tuple es k pos) (gn X.K n t):=by
 intro pins s σ H v u Q I r hw
 obtain ⟨a,xs,e1,hq,hl,hw⟩:=hw
 subst e1
 cases r
 obtain ⟨its,rv,ht,hz⟩:=I.list hq
 rw [assign_Tuple]
 refine wpAny_bind (wpAny_standAt ?_)
 unfold unpack
 rw [show (assignEach es X.env).length=its.toArray.size by simp [hn,<- hl,rv.length],hst]
 refine wpAny_bind (wpAny_holding (WE (I.ok.hd hc) ht.isList λg hx=>?_))
 have I1:zE X pins σ H { s with heap:=g }:=I.kept (t':=s.toks) λb o e=>hx b o (Nat.ne_of_lt (Heap.lt_size e)) e
 exact h pins _ σ H xs _ Q I1 (by simpa using rv) hw
end
end L2
namespace L2
open PySem PySem.Spec PyProof.Rows
inductive jK (i:Nat) (σ:St) (H:Hp) (Q:VK):Prop
 | mk (v:V) (_:σ[i]? = some (some v)) (_:Q v H):jK i σ H Q
inductive JI (C:Int->Int->Prop) (g:Int->Int->V) (x y:V) (H:Hp) (Q:VK):Prop
 | mk (i j:Int) (_:x=.int i) (_:y=.int j) (_:C i j) (_:Q (g i j) H):JI C g x y H Q
inductive Zz (g:Int->Int->V) (x y:V) (H:Hp) (Q:VK):Prop
 | mk (i j:Int) (_:x=.int i) (_:y=.int j) (_:Q (g i j) H):Zz g x y H Q
inductive wg (S:Hp->Addr->List V->Prop) (x y:V) (H:Hp) (Q:VK):Prop
 | mk (p:Addr) (xs:List V) (i:Int) (v:V) (_:x=.ref p) (_:y=.int i) (_:S H p xs) (_:xb xs i=some v) (_:Q v H):wg S x y H Q
inductive jL (x y:V) (H:Hp) (Q:VK):Prop
 | mk (l b:Addr) (xs zs:List V) (_:x=.ref l) (_:y=.ref b) (_:H l=some (.lst xs)) (_:H b=some (.lst zs)) (_:xs.length + zs.length<=sizeLine) (_:∀ p,H p=none->Q (.ref p) (upd H p (.lst (xs++zs)))):jL x y H Q
inductive wj (K:PySem.W.Frag) (xs:List V) (H:Hp) (Q:VK):Prop
 | mk (p:Addr) (ys:List V) (_:xs=[.ref p]) (_:zM K H p ys\/yD K H p ys) (_:Q (.int ys.length) H):wj K xs H Q
inductive jM (x:V) (vs:List V) (H:Hp) (Q:VK):Prop
 | mk (l:Addr) (xs:List V) (y:V) (_:x=.ref l) (_:vs=[y]) (_:H l=some (.lst xs)) (_:xs.length < sizeLine) (_:Q .non (upd H l (.lst (xs++[y])))):jM x vs H Q
inductive Z0 (K:PySem.W.Frag) (xs:List V) (H:Hp) (Q:VK):Prop
 | mk (x:V) (c:String) (t:Value) (b:Bool) (_:xs=[x,.ty c]) (_:yP K H x t) (_:PySem.W.kitOne K t (.type c)=some b) (_:Q (.bl b) H):Z0 K xs H Q
inductive xx (K:PySem.W.Frag) (x:V) (lo hi:Option Int) (H:Hp) (Q:VK):Prop
 | mk (a:Addr) (xs:List V) (_:x=.ref a) (_:zM K H a xs) (_:∀ p,H p=none->Q (.ref p) (upd H p (.lst (zT xs lo hi)))):xx K x lo hi H Q
inductive uI (K:PySem.W.Frag) (xs:List V) (H:Hp) (Q:VK):Prop
 | mk (p:Addr) (ys:List V) (_:xs=[.ref p]) (_:(zM K H p ys/\∀ l,H l=none->Q (.ref l) (upd H l (.tup ys)))\/(yD K H p ys/\Q (.ref p) H)):uI K xs H Q
inductive jN (x y:V) (H:Hp) (Q:VK):Prop
 | mk (l:Addr) (k:Int) (xs:List V) (_:x=.ref l) (_:y=.int k) (_:H l=some (.lst xs)) (_ : -(2 ^ 63)<=k) (_:k < 2 ^ 63) (_:xs.length * k.toNat<=sizeLine) (_:∀ p,H p=none->Q (.ref p) (upd H p (.lst (List.replicate k.toNat xs).flatten))):jN x y H Q
section
variable {X:Cx}
theorem jO:gX X "list.append" jM:=λpins s σ H x xs v us Q I rx rv ⟨l,ys,y,h1,h2,h3,h4,q⟩=>Xg pins s σ H x xs v us Q I rx rv ⟨l,ys,y,h1,h2,h3,h4,q⟩
theorem wk:yk X (.builtin "isinstance") (Z0 X.K):=λpins s σ H xs us Q I r ⟨x,c,t,b,h1,h2,h3,q⟩=>Xr pins s σ H xs us Q I r ⟨x,c,t,b,h1,h2,h3,q⟩
theorem yr:w4 X (xx X.K):=λpins s σ H x v vl vu lo hi sl Q I h1 h2 h3 h4 ⟨a,xs,b,c,q⟩=>XZ pins s σ H x v vl vu lo hi sl Q I h1 h2 h3 h4 ⟨a,xs,b,c,q⟩
theorem xn:yk X (.type "tuple") (uI X.K):=λpins s σ H xs us Q I r ⟨p,ys,e,q⟩=>Xb pins s σ H xs us Q I r ⟨p,ys,e,q⟩
theorem jP:yj X (binaryOp .Mult) jN:=λpins s σ H x y v u Q I rx ry ⟨l,k,xs,a,b,c,d,e,f,q⟩=>Xj pins s σ H x y v u Q I rx ry ⟨l,k,xs,a,b,c,d,e,f,q⟩
theorem zB (i:Nat) {x:Str} {pos:Pos} (hN:X.N[i]? = some x:=by rfl) (hv:vt X.env.scope x:=by first | exact Or.inl rfl | exact Or.inr (Or.inl rfl) | exact Or.inr (Or.inr rfl)) (hd:(x == ("__debug__" : Str))=false:=by decide)
  (hcd:(x == ("__classdict__" : Str))=false:=by decide):PE X (.Name x pos) (jK i):=λpins s σ H Q I ⟨v,e,h⟩=>ZB hN hv hd hcd pins s σ H Q I ⟨v,e,h⟩
theorem ji {f:Value->Value->Sem Value} {C:Int->Int->Prop} {g:Int->Int->V} (h:yj X f (rI C g)):yj X f (JI C g):=λpins s σ H x y v u Q I rx ry ⟨i,j,hx,hy,c,q⟩=>h pins s σ H x y v u Q I rx ry ⟨i,j,hx,hy,c,q⟩
theorem zw {f:Value->Value->Sem Value} {g:Int->Int->V} (h:yj X f (vP g)):yj X f (Zz g):=λpins s σ H x y v u Q I rx ry ⟨i,j,hx,hy,q⟩=>h pins s σ H x y v u Q I rx ry ⟨i,j,hx,hy,q⟩
theorem yU:wI X (wg (zM X.K)):=λa b pins s σ H x y v u Q I rx ry ⟨p,xs,i,w,hx,hy,hs,ha,q⟩=>XV a b pins s σ H x y v u Q I rx ry ⟨p,xs,i,w,hx,hy,hs,ha,q⟩
theorem qO:wI X (wg (yD X.K)):=λa b pins s σ H x y v u Q I rx ry ⟨p,xs,i,w,hx,hy,hs,ha,q⟩=>XW a b pins s σ H x y v u Q I rx ry ⟨p,xs,i,w,hx,hy,hs,ha,q⟩
theorem zh:yj X (binaryOp .Add) jL:=λpins s σ H x y v u Q I rx ry ⟨l,b,xs,zs,hx,hy,h1,h2,h3,q⟩=>Xh pins s σ H x y v u Q I rx ry ⟨l,b,xs,zs,hx,hy,h1,h2,h3,q⟩
theorem yF:yk X (.builtin "len") (wj X.K):=λpins s σ H xs us Q I r ⟨p,ys,e,h,q⟩=>Xa pins s σ H xs us Q I r ⟨p,ys,e,h,q⟩
end
end L2
namespace Sh
open PySem L2
noncomputable def xy (H:Hp) (v:V) (r:List Int):Prop:=∃ a,v=.ref a/\H a=some (.lst (r.map V.int))
noncomputable abbrev zY (H:Hp) (vs:List V) (tab:List (List Int)):Prop:=Paired (xy H) vs tab
theorem xy.same {H H':Hp} {v:V} {r:List Int} (s:zC H H') (h:xy H v r):xy H' v r:=let ⟨a,e,q⟩:=h; ⟨a,e,s _ _ q⟩
theorem zY.same {H H':Hp} {vs:List V} {tab:List (List Int)} (s:zC H H') (h:zY H vs tab):zY H' vs tab:=Paired.mapP h λ_ _ z=>z.same s
noncomputable def yf (p:Addr) (H H':Hp):Prop:=∀ b o,H b=some o->b≠p->H' b=some o
theorem zC.but {p:Addr} {H H':Hp} (s:zC H H'):yf p H H':=λb o e _=>s b o e
theorem yf.trans {p:Addr} {H H1 H2:Hp} (a:yf p H H1) (b:yf p H1 H2):yf p H H2:=λc o e n=>b c o (a c o e n) n
theorem vX (p:Addr) (H:Hp) (o:HO):yf p H (upd H p o):=λb u e n=>by rw [zi n]; exact e
noncomputable def jQ (H0 H:Hp) (v:V) (r:List Int):Prop:=∃ a,v=.ref a/\H0 a=none/\H a=some (.lst (r.map V.int))
structure MD where
 rows:List (List Int)
 nexts:List (List Int)
 steer:List Int
 push:List (List Int)
 add:List Int
 div:Int
structure xW (m:MD) (n p:Nat):Prop where
 rows:∀ r∈m.rows,r.length=n + 1
 few:m.rows.length<=900
 nexts:m.nexts.length=n/\∀ r∈m.nexts,r.length=n
 steer:m.steer.length=n
 push:m.push.length=n/\∀ r∈m.push,r.length=p
 add:m.add.length=n
 div:1<=m.div
 n3:n<=3
 p6:p<=12
noncomputable def jR (r n s p a:V) (d:Int):List (Str × V):=[("rows",r),("nexts",n),("steer",s),("push",p),("add",a),("divisor",.int d)]
structure gp (C:Addr) (H:Hp) (o:Addr) (m:MD) where
 dx:Addr
 r:Addr
 rv:List V
 n:Addr
 nv:List V
 s:Addr
 p:Addr
 pv:List V
 a:Addr
structure gp.Ok {C:Addr} {H:Hp} {o:Addr} {m:MD} (M:gp C H o m):Prop where
 ins:H o=some (.ins C M.dx (jR (.ref M.r) (.ref M.n) (.ref M.s) (.ref M.p) (.ref M.a) m.div))
 hr:H M.r=some (.lst M.rv)
 hrv:xD H M.rv m.rows
 hn:H M.n=some (.lst M.nv)
 hnv:zY H M.nv m.nexts
 hs:H M.s=some (.lst (m.steer.map V.int))
 hp:H M.p=some (.lst M.pv)
 hpv:zY H M.pv m.push
 ha:H M.a=some (.lst (m.add.map V.int))
noncomputable def qP (C:Addr) (H:Hp) (v:V) (m:MD):Prop:=∃ (o:Addr) (M:gp C H o m),v=.ref o/\M.Ok
theorem qP.same {C:Addr} {H H':Hp} {v:V} {m:MD} (s:zC H H') (h:qP C H v m):qP C H' v m:=
 let ⟨o,M,e,k⟩:=h
 ⟨o,⟨M.dx,M.r,M.rv,M.n,M.nv,M.s,M.p,M.pv,M.a⟩,e,⟨s _ _ k.ins,s _ _ k.hr,xD.same s k.hrv,s _ _ k.hn,zY.same s k.hnv,s _ _ k.hs,s _ _ k.hp,zY.same s k.hpv,s _ _ k.ha⟩⟩
noncomputable def wJ (H:Hp) (v:V) (b:Int × Int):Prop:=∃ a,v=.ref a/\H a=some (.tup [.int b.1,.int b.2])
theorem wJ.same {H H':Hp} {v:V} {b:Int × Int} (s:zC H H') (h:wJ H v b):wJ H' v b:=let ⟨a,e,q⟩:=h; ⟨a,e,s _ _ q⟩
noncomputable def WG (n:Int) (p m:V):List (Str × V):=[("many",.int n),("kept_pushes",p),("kept_modes",m)]
structure gq (C CM:Addr) (H:Hp) (o:Addr) (n:Nat) (bs:List (Int × Int)) (ms:List MD) (pv mv:List V) (kp km:Addr):Prop where
 ins:∃ dx,H o=some (.ins C dx (WG (n:Int) (.ref kp) (.ref km)))
 hp:H kp=some (.lst pv)
 hpv:Paired (wJ H) pv bs
 hm:H km=some (.lst mv)
 hmv:Paired (qP CM H) mv ms
theorem gq.same {C CM:Addr} {H H':Hp} {o:Addr} {n:Nat} {bs:List (Int × Int)} {ms:List MD} {pv mv:List V} {kp km:Addr} (s:zC H H') (h:gq C CM H o n bs ms pv mv kp km):gq C CM H' o n bs ms pv mv kp km:=
 ⟨let ⟨dx,e⟩:=h.ins; ⟨dx,s _ _ e⟩,s _ _ h.hp,Paired.mapP h.hpv λ_ _ z=>z.same s,s _ _ h.hm,Paired.mapP h.hmv λ_ _ z=>z.same s⟩
theorem WH {K:PySem.W.Frag} {C:Addr}:PySem.W.kitOne K (.ref C) (.ref C)=some true:=by
 unfold PySem.W.kitOne
 rw [if_pos (by simp)]
theorem keepB {o:Addr} {H H':Hp} {C dx:Addr} {fs:List (Str × V)} (ho:H o=some (.ins C dx fs)) (s:yf o H H') {a:Addr} {u:HO} (h:H a=some u) (hu:u≠.ins C dx fs):H' a=some u:=
 s _ _ h λe=>hu (by rw [e,ho] at h; exact (Option.some.inj h).symm)
theorem xD.keepB {o:Addr} {H H':Hp} {C dx:Addr} {fs:List (Str × V)} (ho:H o=some (.ins C dx fs)) (s:yf o H H') {vs:List V} {rows:List (List Int)} (h:xD H vs rows):xD H' vs rows:=
 Paired.mapP h λ_ _ ⟨a,e,q⟩=>⟨a,e,Sh.keepB ho s q λz=>by cases z⟩
theorem zY.keepB {o:Addr} {H H':Hp} {C dx:Addr} {fs:List (Str × V)} (ho:H o=some (.ins C dx fs)) (s:yf o H H') {vs:List V} {tab:List (List Int)} (h:zY H vs tab):zY H' vs tab:=
 Paired.mapP h λ_ _ ⟨a,e,q⟩=>⟨a,e,Sh.keepB ho s q λz=>by cases z⟩
theorem jQ.tab {H0 H:Hp} {vs:List V} {tab:List (List Int)} (h:Paired (jQ H0 H) vs tab):zY H vs tab:=Paired.mapP h λ_ _ ⟨a,e,_,q⟩=>⟨a,e,q⟩
end Sh
namespace Sh
open PySem L2
noncomputable def xX (B:List Addr) (H H':Hp):Prop:=∀ b o,H b=some o->b∉B->H' b=some o
theorem xX.refl (B:List Addr) (H:Hp):xX B H H:=λ_ _ e _=>e
theorem xX.new {B:List Addr} {H H':Hp} {x:Addr} (o:HO) (h:xX B H H') (hx:H' x=none):xX B H (upd H' x o):=λb u e nb=>by
 have z:=h b u e nb
 rw [zi (λe'=>by rw [e',hx] at z; cases z)]
 exact z
theorem xX.trans {B:List Addr} {H H1 H2:Hp} (a:xX B H H1) (b:xX B H1 H2):xX B H H2:=λc o e n=>b c o (a c o e n) n
theorem xX.same {B:List Addr} {H H1 H2:Hp} (a:xX B H H1) (b:zC H1 H2):xX B H H2:=λc o e n=>b c o (a c o e n)
theorem xX.of {B:List Addr} {H H1:Hp} (s:zC H H1):xX B H H1:=λc o e _=>s c o e
theorem xX.cut {A B:List Addr} {H H1:Hp} (h1:xX A H H1) (h:∀ x∈A,x∉B->H x=none):xX B H H1:=λb o e n=>h1 _ _ e λz=>by
 rw [h b z n] at e
 cases e
theorem xX.free {B:List Addr} {H H':Hp} (s:xX B H H') {l:Addr} (h:H' l=none) (n:l∉B):H l=none:=by
 cases e:H l with
 | none=>rfl
 | some u=>rw [s _ _ e n] at h; cases h
noncomputable def hide (B:List Addr) (H:Hp):Hp:=λb=>if b∈B then none else H b
theorem Z1 {H H1 H2:Hp} {x:Addr} (s:zC H H1) (b:yf x H1 H2) (n:H x=none):zC H H2:=λc o e=>b _ _ (s _ _ e) (vf e n)
theorem Z2 {H:Hp} {x dx:Addr} (hx:H x=none) (hdx:H dx=none) (ne:dx≠x) (u o:HO):zC H (upd (upd H dx u) x o):=
 (zL hdx _).trans (zL ((zi (Ne.symm ne)).trans hx) _)
end Sh
namespace L2
open PySem PySem.Spec PyProof.Rows
section
variable {X:Cx} {e:Expr}
end
theorem zP.no {P:Program} {w:World} {K:PySem.W.Frag} {mg:Str->Option Value} {base:Heap} {CX:xL} {k:Nat} {f:Addr} {fd:FuncData} {ps:List Str} {sp:Sp} (hn:∀ vs H Q E,¬ sp vs H Q E):zP P w K mg base CX k f fd ps sp:=
 ⟨λ_ _ _ _ h=>(hn _ _ _ _ h).elim,λ_ _ _ _ _ _ _ _ _ _ _ _ _ h=>(hn _ _ _ _ h).elim⟩
end L2
namespace Sh
inductive RT where
 | str (ns:List Int) (a d:Int)
 | stp (t:RT) (lo hi:Int)
 | prt (row:List Int) (x y:RT)
noncomputable def RT.rows:RT->List (List Int)
 | .str _ _ _=>[]
 | .stp t _ _=>t.rows
 | .prt r x y=>[r]++x.rows++y.rows
end Sh
namespace Sh
open PySem L2
noncomputable def xY (n:Nat):RT->Prop
 | .str ns a d=>ns.length=n/\(∀ x∈ns,Bd 300 x)/\Bd 300 a/\0 < d/\Bd 300 d
 | .stp t lo hi=>xY n t/\Bd 300 lo/\Bd 300 hi
 | .prt r x y=>(r.length=n + 1/\∀ z∈r,Bd 300 z)/\xY n x/\xY n y
noncomputable def gr (l:V) (a d:Int):List (Str × V):=[("numbers",l),("add",.int a),("divisor",.int d)]
noncomputable def gu (u:V) (lo hi:Int):List (Str × V):=[("rule",u),("low",.int lo),("high",.int hi)]
noncomputable def gv (r u w:V):List (Str × V):=[("row",r),("rule",u),("other",w)]
noncomputable def vY (C1 C2 C3:Addr) (H:Hp):V->RT->Prop
 | v,.str ns a d=>∃ o dx la,v=.ref o/\H o=some (.ins C1 dx (gr (.ref la) a d))/\H la=some (.lst (ns.map V.int))
 | v,.stp t lo hi=>∃ o dx u,v=.ref o/\H o=some (.ins C2 dx (gu u lo hi))/\vY C1 C2 C3 H u t
 | v,.prt r x y=>∃ o dx ra u w,v=.ref o/\H o=some (.ins C3 dx (gv (.ref ra) u w))/\H ra=some (.tup (r.map V.int))/\vY C1 C2 C3 H u x/\vY C1 C2 C3 H w y
theorem vY.same {C1 C2 C3:Addr} {H H':Hp} (s:zC H H'):∀ {t:RT} {v:V},vY C1 C2 C3 H v t->vY C1 C2 C3 H' v t
 | .str ..,_,⟨o,dx,la,e,h1,h2⟩=>⟨o,dx,la,e,s _ _ h1,s _ _ h2⟩
 | .stp ..,_,⟨o,dx,u,e,h1,h2⟩=>⟨o,dx,u,e,s _ _ h1,vY.same s h2⟩
 | .prt ..,_,⟨o,dx,ra,u,w,e,h1,h2,h3,h4⟩=>⟨o,dx,ra,u,w,e,s _ _ h1,s _ _ h2,vY.same s h3,vY.same s h4⟩
noncomputable def vZ (H:Hp):V->RT->Prop
 | v,.str ns a d=>∃ o la,v=.ref o/\H o=some (.tup [.str "straight",.ref la,.int a,.int d])/\H la=some (.lst (ns.map V.int))
 | v,.stp t lo hi=>∃ o u,v=.ref o/\H o=some (.tup [.str "stopped",u,.int lo,.int hi])/\vZ H u t
 | v,.prt r x y=>∃ o ra u w,v=.ref o/\H o=some (.tup [.str "parted",.ref ra,u,w])/\H ra=some (.tup (r.map V.int))/\vZ H u x/\vZ H w y
theorem vZ.same {H H':Hp} (s:zC H H'):∀ {t:RT} {v:V},vZ H v t->vZ H' v t
 | .str ..,_,⟨o,la,e,h1,h2⟩=>⟨o,la,e,s _ _ h1,s _ _ h2⟩
 | .stp ..,_,⟨o,u,e,h1,h2⟩=>⟨o,u,e,s _ _ h1,vZ.same s h2⟩
 | .prt ..,_,⟨o,ra,u,w,e,h1,h2,h3,h4⟩=>⟨o,ra,u,w,e,s _ _ h1,s _ _ h2,vZ.same s h3,vZ.same s h4⟩
theorem xY.row {n:Nat} {r:List Int} (h:r.length=n + 1/\∀ z∈r,Bd 300 z):jJ r n:=⟨h.1,λx hx=>(h.2 x hx).mono⟩
theorem xY.rows {n:Nat}:∀ {t:RT},xY n t->∀ r∈t.rows,r.length=n + 1/\∀ z∈r,Bd 300 z
 | .str ..,_=>λr hr=>by cases hr
 | .stp ..,h=>λr hr=>xY.rows h.1 r hr
 | .prt q x y,h=>λr hr=>by
  rcases List.mem_append.mp hr with hr | hr
  ·rcases List.mem_append.mp hr with hr | hr
   ·rw [List.mem_singleton.mp hr]; exact h.1
   ·exact xY.rows h.2.1 r hr
  ·exact xY.rows h.2.2 r hr
end Sh
namespace Sh
open PySem L2
end Sh
namespace L2
open PySem PySem.Spec PyProof.Rows Sh
theorem wl {α:Sort _} {p:α->Prop} {a:α} (h:p a):∃ b,b=a/\p b:=⟨a,rfl,h⟩
section
variable {X:Cx}
inductive Z3 (K:PySem.W.Frag) (x y:V) (H:Hp) (Q:VK):Prop
 | mk (a b:Addr) (xs ys:List V) (_:x=.ref a) (_:y=.ref b) (_:H a=some (.tup xs)) (_:H b=some (.tup ys)) (_:xs≠[]) (_:xs.length + ys.length<=sizeLine) (_:∀ p H',zC H H'->H' p=some (.tup (xs++ys))->Q (.ref p) H'):Z3 K x y H Q
theorem WI:yj X (binaryOp .Add) (Z3 X.K):=by
 intro pins s σ H x y v u Q I rx ry h
 obtain ⟨a,b,xs,ys,rfl,rfl,ha,hb,hne,hz,q⟩:=h
 exact XS pins s σ H _ _ v u Q I rx ry ⟨a,b,xs,ys,rfl,rfl,yD.of ha,yD.of hb,hne,hz,λz=>q a H (zC.refl _) (ha.trans (by rw [z,List.append_nil])),λ_ p hp=>q p _ (zL hp _) zJ⟩
end
end L2
namespace L2
open PySem PySem.Spec PyProof.Rows
noncomputable abbrev qQ:=Array Value->Option Addr->Prop
noncomputable def yV (base:Heap) (l:List Env) (e:Addr) (cls:Value) (P:qQ) (fl:Value) (h:Heap):Prop:=
 base.StaysIn h/\base.get? e=none/\h.FunFrames base l/\∃ (oe:Obj) (vs:Array Value) (T:Addr) (oT:Obj) (ts:Array Value),h.get? e=some oe/\oe.cls=cls/\oe.data=.fields vs/\P vs oe.dict/\vs[1]? = some (.ref T)/\base.get? T=none/\T≠e/\h.get? T=some oT/\oT.data=.fields ts/\ts[3]? = some fl
noncomputable def jS (P:qQ):Prop:=∀ (vs:Array Value) (d:Option Addr) (v:Value),P vs d->P (vs.setIfInBounds 1 v) d
section
variable {M:Model} {A:Around} {E:Value->Shared->Prop} {s:Shared} {base:Heap} {env:Env} {outer:List Env} {L e:Addr} {cls:Value} {P:qQ} {Q:Unit->Shared->Prop} {oe:Obj} {vs:Array Value}
theorem ua {h:Heap} {T:Addr} {oT:Obj} {ts:Array Value} (hT:h.get? T=some oT) (hd:oT.data=.fields ts) {b:Addr} {o:Obj} (hb:h.get? b=some o) (n:∀ ws,o.data≠.fields ws):b≠T:=by
 rintro rfl
 rw [hT] at hb
 cases hb
 exact n ts hd
theorem Z4 {head:Value} {hn:Bool} (st:jS P) (hfr:A.frames=some (env :: outer)) (hl:s.heap.FunFrames base (env :: outer)) (hf:env.frame=some L) (he:s.heap.get? e=some oe) (hkb:base.StaysIn s.heap) (hen:base.get? e=none) (hd:oe.data=.fields vs) (hsz:1 < vs.size) (hP:P vs oe.dict)
  (h:∀ h',yV base (env :: outer) e oe.cls P (rawInt L) h'->s.heap.UpToSlots h'->Q () { s with heap:=h' }) :
  wpAny M A (do let a <- frameOf env; let pl <- entryPlaceOf L hn; let b <- EntryCells.newEntry head a .none (rawInt L) .none pl; setField (.ref e) 1 b) Q E s:=by
 have nf:e∉(env :: outer).filterMap (·.frame):=λz=>by
  obtain ⟨_,o,ho,n⟩:=hl.mem z
  rw [he] at ho
  cases ho
  exact n vs hd
 refine wpAny_bind (wpAny_frameOf_fun hfr hl hf λg sg=>wpAny_bind (wpAny_entryPlaceOf λpl hpl=>?_))
 unfold EntryCells.newEntry newFields
 refine wpAny_bind (wpAny_newObj_type ?_ (hpl.sizeOk5 _ _ _ _ _))
 have e1:g.get? e=some oe:=(sg.2.1 e nf).trans he
 have k1:base.StaysIn g:=λb o q=>(sg.2.1 b λz=>by rw [(hl.mem z).1] at q; cases q).trans (hkb b o q)
 generalize hO:({ cls:=.type "traceback",dict:=none,data:=.fields ([head,.ref L,.none,rawInt L,.none]++(if pl.isEmpty then List.replicate 6 Value.none else pl)).toArray }:Obj)=O
 have dO:∃ ws,O.data=.fields ws/\ws[3]? = some (rawInt L):=by
  rw [<- hO]
  refine ⟨_,rfl,?_⟩
  first | (simp; done) | (rcases hpl with rfl | ⟨_,_,_,_,_,_,_,rfl⟩ <;> simp)
 have fO:O.isFreed=false:=by rw [<- hO]; rfl
 obtain ⟨ws,dw,w3⟩:=dO
 have e2:=Heap.get?_push_of_some (h:=g) O e1
 refine wpAny_setField e2 hd hsz (h _ ?_ ?_)
 ·have ne:g.objs.size≠e:=Nat.ne_of_gt (Heap.lt_size e1)
  have d3:=Obj.data_mapFields hd (·.setIfInBounds 1 (Value.ref g.objs.size))
  refine ⟨λb o q=>?_,hen,hl.of_keeps λb o q n=>?_,_,_,g.objs.size,O,ws,Heap.get?_update_self (Obj.mapFields (·.setIfInBounds 1 (Value.ref g.objs.size))) e2 (Obj.isFreed_of_fields d3),Obj.cls_mapFields _ _,d3,?_,by simp [hsz],k1.fresh,ne,?_,dw,w3⟩
  ·have nb:b≠e:=λz=>by rw [z,hen] at q; cases q
   rw [Heap.get?_update_other _ _ (Ne.symm nb)]
   exact Heap.get?_push_of_some _ (k1 b o q)
  ·obtain ⟨sl,q1⟩:=sg.2.2 b o q
   refine ⟨{ o with slots:=sl },?_,rfl⟩
   rw [Heap.get?_update_other _ _ (Ne.symm (ua he hd q n))]
   exact Heap.get?_push_of_some _ q1
  ·have z:=st vs oe.dict (Value.ref g.objs.size) hP
   first | exact z | (rw [show (oe.mapFields (·.setIfInBounds 1 (Value.ref g.objs.size))).dict=oe.dict by unfold Obj.mapFields; split <;> rfl]; exact z)
  ·rw [Heap.get?_update_other _ _ (Ne.symm ne)]
   exact Heap.get?_push_size g fO
 ·intro b o q n
  obtain ⟨sl,q1⟩:=sg.2.2 b o q
  refine ⟨sl,?_⟩
  rw [Heap.get?_update_other _ _ (Ne.symm (ua he hd q n))]
  exact Heap.get?_push_of_some _ q1
theorem jT (st:jS P) (hfr:A.frames=some (env :: outer)) (hf:env.frame=some L) (x:yV base (env :: outer) e cls P .none s.heap)
  (h:∀ h',yV base (env :: outer) e cls P (rawInt L) h'->s.heap.UpToSlots h'->Q () { s with heap:=h' }):wpAny M A (noteFrame (.ref e) env) Q E s:=by
 obtain ⟨k,en,fr,oe,vs,T,oT,ts,he,rfl,hd,hP,h1,nT,ne,hT,dT,h3⟩:=x
 unfold noteFrame
 simp only [hf]
 refine wpAny_bind (wpAny_field he hd h1 ?_)
 rw [if_pos (show (Value.ref T != Value.none)=true by simp)]
 refine wpAny_bind (wpAny_field hT dT h3 ?_)
 rw [if_neg (show ¬ ((Value.none == rawInt L)=true) by simp [rawInt])]
 refine wpAny_bind (wpAny_setField hT dT (Array.getElem?_eq_some_iff.mp h3).1 ?_)
 have oth:∀ b,b≠T->(s.heap.update T (Obj.mapFields (·.setIfInBounds 3 Value.none))).get? b=s.heap.get? b:=λb nb=>Heap.get?_update_other _ _ (Ne.symm nb)
 refine Z4 st hfr (fr.of_keeps λb o q n=>⟨o,(oth b (ua hT dT q n)).trans q,rfl⟩) hf ((oth e (Ne.symm ne)).trans he) (λb o q=>(oth b λz=>by rw [z,nT] at q; cases q).trans (k b o q)) en hd (Array.getElem?_eq_some_iff.mp h1).1 hP λh' f u=>h h' f λb o q n=>u b o ((oth b (ua hT dT q n)).trans q) n
theorem WJ (st:jS P) (hfr:A.frames=some (env :: outer)) (hf:env.frame=some L) (hl:s.heap.FunFrames base (env :: outer)) (he:s.heap.get? e=some oe) (hkb:base.StaysIn s.heap) (hen:base.get? e=none) (hd:oe.data=.fields vs) (h1:vs[1]? = some .none) (hP:P vs oe.dict)
  (h:∀ h',yV base (env :: outer) e oe.cls P (rawInt L) h'->s.heap.UpToSlots h'->Q () { s with heap:=h' }):wpAny M A (noteFrame (.ref e) env) Q E s:=by
 unfold noteFrame
 simp only [hf]
 refine wpAny_bind (wpAny_field he hd h1 ?_)
 rw [if_neg (by decide)]
 exact Z4 st hfr hl hf he hkb hen hd (Array.getElem?_eq_some_iff.mp h1).1 hP h
theorem gw {l:List Env} {fl:Value} (x:yV base l e cls P fl s.heap) (h:∀ h',yV base l e cls P .none h'->s.heap.UpToSlots h'->Q () { s with heap:=h' }):wpAny M A (setFlight (.ref e) none) Q E s:=by
 obtain ⟨k,en,fr,oe,vs,T,oT,ts,he,hc,hd,hP,h1,nT,ne,hT,dT,h3⟩:=x
 have sz:3 < ts.size:=(Array.getElem?_eq_some_iff.mp h3).1
 have oth:∀ b,b≠T->(s.heap.update T (Obj.mapFields (·.setIfInBounds 3 ((none:Option Addr).elim Value.none λf=>rawInt f)))).get? b=s.heap.get? b:=λb nb=>Heap.get?_update_other _ _ (Ne.symm nb)
 unfold setFlight
 refine wpAny_bind (wpAny_field he hd h1 ?_)
 rw [if_pos (show (Value.ref T != Value.none)=true by simp)]
 refine wpAny_setField hT dT sz (h _ ⟨λb o q=>(oth b λz=>by rw [z,nT] at q; cases q).trans (k b o q),en,fr.of_keeps λb o q n=>⟨o,(oth b (ua hT dT q n)).trans q,rfl⟩,oe,vs,T,_,_,(oth e (Ne.symm ne)).trans he,hc,hd,hP,h1,nT,ne,Heap.get?_update_self _ hT (Obj.isFreed_of_fields (Obj.data_mapFields dT _)),Obj.data_mapFields dT _,by simp [sz]⟩ λb o q n=>⟨o.slots,(oth b (ua hT dT q n)).trans q⟩)
theorem yV.out {fl:Value} {h:Heap} (x:yV base (env :: outer) e cls P fl h):yV base outer e cls P fl h:=by
 obtain ⟨k,en,⟨_,_,fr⟩,r⟩:=x
 exact ⟨k,en,fr,r⟩
theorem WK (st:jS P) (hfr:A.frames=some (env :: outer)) (hf:env.frame=some L) (hl:s.heap.FunFrames base (env :: outer)) (he:s.heap.get? e=some oe) (hkb:base.StaysIn s.heap) (hen:base.get? e=none) (hd:oe.data=.fields vs) (h1:vs[1]? = some .none) (hP:P vs oe.dict)
  (h:∀ h',yV base outer e oe.cls P .none h'->s.heap.UpToSlots h'->Q () { s with heap:=h' }):wpAny M A (leaving env (.ref e)) Q E s:=by
 unfold leaving
 exact wpAny_bind (WJ st hfr hf hl he hkb hen hd h1 hP λh1 f1 u1=>gw f1 λh2 f2 u2=>h h2 f2.out (u1.trans u2))
end
noncomputable def P0:qQ:=λvs _=>vs[2]? = some .none
theorem Z5:jS P0:=λvs _ _ h=>by
 unfold P0 at h |-
 rw [Array.getElem?_setIfInBounds_ne (by decide)]
 exact h
theorem yV.first {base h:Heap} {l:List Env} {e:Addr} {cls fl:Value} (x:yV base l e cls P0 fl h):∃ oe vs,h.get? e=some oe/\oe.cls=cls/\oe.data=.fields vs/\vs[2]? = some .none:=by
 obtain ⟨_,_,_,oe,vs,_,_,_,he,hc,hd,hP,_⟩:=x
 exact ⟨oe,vs,he,hc,hd,hP⟩
end L2
namespace L2
open PySem PySem.Spec PyProof.Rows
section
variable {P:Program} {w:World} {H:Hp} {h:Heap} {a:Addr}
theorem yu.there {o:HO} (x:yu P w H h a o):∃ ob,h.get? a=some ob:=by
 cases o with
 | lst xs=>obtain ⟨_,_,_,_,e⟩:=x; exact ⟨_,e⟩
 | tup xs=>obtain ⟨_,_,_,p⟩:=x; obtain ⟨ob,e,_⟩:=p; exact ⟨ob,e⟩
 | dK kvs=>obtain ⟨_,_,_,_,ob,_,_,e,_⟩:=x; exact ⟨ob,e⟩
 | dT kvs=>obtain ⟨_,_,_,_,ob,_,_,e,_⟩:=x; exact ⟨ob,e⟩
 | set S n=>obtain ⟨ob,_,_,_,e,_⟩:=x; exact ⟨ob,e⟩
 | ins C dx fs=>obtain ⟨_,_,_,e,_⟩:=x; exact ⟨_,e⟩
 | own y=>exact x
 | xd fs=>obtain ⟨_,⟨ob,_,_,e,_⟩,_⟩:=x; exact ⟨ob,e⟩
 | rng lo hi=>obtain ⟨_,_,_,e⟩:=x; exact ⟨_,e⟩
 | frz ob u=>obtain ⟨e,_⟩:=x; exact ⟨_,e⟩
 | tbl ps=>exact ⟨_,show h.get? a=some _ from x⟩
 | met f y=>exact ⟨_,show h.get? a=some _ from x⟩
 | ext φ=>obtain ⟨_,e,_⟩:=x; exact e
theorem yW.none_of (x:yW P w H h) (e:h.get? a=none):H a=none:=by
 cases q:H a with
 | none=>rfl
 | some o=>
  obtain ⟨ob,z⟩:=(x a o q).there
  rw [e] at z
  cases z
theorem yW.hide {as:List Addr} (x:yW P w H h) (f:∀ b∈as,H b=none):yW P w H (PySem.W.hideAll h as):=λa o e=>
 (x a o e).stay (λb u hb q=>PySem.W.hideAll_get _ q λz=>by
  have n:=f b z
  rcases hb with rfl | hb
  ·rw [n] at e; cases e
  ·rw [n] at hb; cases hb) (λ_ q=>q) λ_ _ q=>q
end
structure XL (P:Program) (w:World) (outer:List Env) (H H':Hp) (s s':Shared) (B:Heap) (e:Addr) (cls a0:Value):Prop where
 os:s'.os=s.os
 bare:AllBare s'.gens
 keep:∀ b o,s.heap.get? b=some o->H b=none->b∉yw outer->B.get? b=some o
 slot:∀ b o,s.heap.get? b=some o->H b=none->b∈yw outer->∃ sl,s'.heap.get? b=some { o with slots:=sl }
 free:∀ b o,s.heap.get? b=some o->H b=none->H' b=none
 there:∀ b o,s.heap.get? b=some o->b∉yw outer->∃ o',B.get? b=some o'
 tups:∀ b xs,H b=some (.tup xs)->H' b=some (.tup xs)
 frzs:∀ b o u,H b=some (.frz o u)->H' b=some (.frz o u)
 tbls:∀ b ps,H b=some (.tbl ps)->∃ more,H' b=some (.tbl (ps++more))
 hok:yW P w H' B
 fly:yV B outer e cls P0 .none s'.heap
noncomputable def xv (P:Program) (w:World):xL:=λouter H s E ev s'=>∃ (e:Addr) (cls a0:Value) (B:Heap) (H':Hp),ev=.ref e/\XL P w outer H H' s s' B e cls a0/\E cls none H'
section
variable {P:Program} {w:World} {outer:List Env} {H H':Hp} {s s':Shared} {B:Heap} {e:Addr} {cls a0:Value}
theorem XL.un (x:XL P w outer H H' s s' B e cls a0):Un (yw outer) [] H H' s.heap s'.heap where
 keep:=λb o q n hb _=>x.fly.1 b o (x.keep b o q n hb)
 slot:=λb o q n hb _=>x.slot b o q n hb
 free:=λb o q n _=>x.free b o q n
 there:=λb o q _=>by
  by_cases hb:b∈yw outer
  ·obtain ⟨_,o',ho,_⟩:=x.fly.2.2.1.mem hb
   exact ⟨o',ho⟩
  ·obtain ⟨o',ho⟩:=x.there b o q hb
   exact ⟨o',x.fly.1 _ _ ho⟩
 tups:=x.tups
 frzs:=x.frzs
 tbls:=x.tbls
theorem XL.held (x:XL P w outer H H' s s' B e cls a0):yW P w H' s'.heap:=x.hok.kept x.fly.1
theorem XL.move {h':Heap} {tk:Nat} (x:XL P w outer H H' s s' B e cls a0) (f:yV B outer e cls P0 .none h') (u:s'.heap.UpToSlots h'):XL P w outer H H' s { s' with heap:=h',toks:=tk } B e cls a0 where
 os:=x.os
 bare:=x.bare
 keep:=x.keep
 slot:=λb o q n hb=>by
  obtain ⟨sl,e1⟩:=x.slot b o q n hb
  obtain ⟨_,o',ho,nf⟩:=x.fly.2.2.1.mem hb
  rw [e1] at ho
  cases ho
  obtain ⟨sl',e2⟩:=u b _ e1 nf
  exact ⟨sl',e2⟩
 free:=x.free
 there:=x.there
 tups:=x.tups
 frzs:=x.frzs
 tbls:=x.tbls
 hok:=x.hok
 fly:=f
theorem XL.new (x:XL P w outer H H' s s' B e cls a0):s.heap.get? e=none/\H' e=none/\e∉yw outer:=by
 have nf:e∉yw outer:=λz=>by
  obtain ⟨_,o,ho,nd⟩:=x.fly.2.2.1.mem z
  obtain ⟨oe,vs,he,_,hd,_⟩:=yV.first x.fly
  rw [he] at ho
  cases ho
  exact nd _ hd
 refine ⟨?_,x.hok.none_of x.fly.2.1,nf⟩
 cases q:s.heap.get? e with
 | none=>rfl
 | some o=>
  obtain ⟨o',z⟩:=x.there e o q nf
  rw [x.fly.2.1] at z
  cases z
end
section
variable {P:Program} {w:World} {K:PySem.W.Frag} {mg:Str->Option Value} {base:Heap} {N:List Str} {qual:Str} {scope:Scope} {f:Addr} {cd:Value} {A:Around} {outer:List Env} {s:Shared} {H:Hp} {E:XK}
theorem Z6 {X:Cx} {pins:List (Addr × Obj)} {σ:St} {H1:Hp} {s1:Shared} {b:Addr} {o:Obj} (I:zE X pins σ H1 s1) (q:X.s₀.heap.get? b=some o) (hb:b∉X.fs):b∉yw X.stack:=λz=>by
 rcases List.mem_cons.mp (I.stkSub b z) with e | z
 ·exact absurd (Nat.lt_of_lt_of_le (Heap.lt_size q) I.ok.above) (by rw [e]; exact Nat.lt_irrefl _)
 ·exact hb z
theorem Z7 {pins:List (Addr × Obj)} {σ:St} {H1:Hp} {s1:Shared} {h2:Heap} {e:Addr} {cls:Value} {args:List Value}
  (I:zE (zF (xv P w) P w K mg base N qual scope f cd A outer s H E) pins σ H1 s1) (hx:Heap.MadeExcOf s1.heap h2 e cls args) (q:E cls none H1) :
  (zF (xv P w) P w K mg base N qual scope f cd A outer s H E).xe (.ref e) { s1 with heap:=h2 }:=by
 have fr:=I.stack
 have fh:=PySem.W.funFrames_hide (as:=yw (zF (xv P w) P w K mg base N qual scope f cd A outer s H E).stack) fr λenv he b hb=>List.mem_filterMap.mpr ⟨env,he,hb⟩
 obtain ⟨t,he,htn,ht⟩:=hx.there
 have fr2:∀ b,s1.heap.get? b=none->(PySem.W.hideAll s1.heap (yw (zF (xv P w) P w K mg base N qual scope f cd A outer s H E).stack)).get? b=none:=λb hb=>by
  cases q:(PySem.W.hideAll s1.heap (yw (zF (xv P w) P w K mg base N qual scope f cd A outer s H E).stack)).get? b with
  | none=>rfl
  | some o=>
   have:=PySem.W.of_hideAll _ q
   rw [hb] at this
   cases this
 refine WK (s:={ s1 with heap:=h2 }) (base:=PySem.W.hideAll s1.heap (yw (zF (xv P w) P w K mg base N qual scope f cd A outer s H E).stack)) Z5 I.ok.frames rfl (fh.of_keeps λb o q _=>⟨o,hx.keeps b o q,rfl⟩) he (λb o q=>hx.keeps b o (PySem.W.of_hideAll _ q)) (fr2 e hx.new) rfl rfl rfl λh' x1 x4=>?_
 refine ⟨e,cls,.ref t,_,H1,rfl,⟨I.os,I.bare,λb o eb n hb=>?_,λb o eb n hb=>?_,λb o eb n=>I.base.free b o eb n (by simp [zF]),λb o eb hb=>?_,I.base.tups,I.base.frzs,I.base.tbls,I.hok.hide λb hb=>I.stkFree b hb,x1⟩,q⟩
 ·exact PySem.W.hideAll_get _ (I.base.keep b o eb n hb (by simp [zF])) (Z6 I eb hb)
 ·obtain ⟨sl,e1⟩:=I.base.slot b o eb n hb (by simp [zF])
  obtain ⟨_,o',ho,nf⟩:=I.funs.mem hb
  rw [e1] at ho
  cases ho
  obtain ⟨sl',e2⟩:=x4 b _ (hx.keeps _ _ e1) nf
  exact ⟨sl',e2⟩
 ·obtain ⟨o',e1⟩:=I.base.there b o eb (by simp [zF])
  exact ⟨o',PySem.W.hideAll_get _ e1 (Z6 I eb hb)⟩
end
theorem WL {K:PySem.W.Frag} {h:Heap} {C:Addr} {bmB:List Value} {newId:String} (X:K.In h) (q:PySem.W.excIn K C bmB newId=true) :
  ∃ bm N nm qn bs hdct sn sub ab col dd k0 k1 k2 k3 k5 mN,h.get? C=some (excClassObj nm qn C N bs bm hdct sn sub ab col dd k0 k1 k2 k3 k5 newId)/\h.Ns N mN/\mN "__init__" = none/\OwnTail h bmB bm:=by
 unfold PySem.W.excIn at q
 split at q
 case h_1 dd cd sl look=>
  split at q
  case h_1 C1 tl k0 k1 k2 k3 made k5 eqm eqs=>
   simp only [Bool.and_eq_true,beq_iff_eq,Bool.not_eq_true'] at q
   obtain ⟨⟨⟨⟨⟨e1,e2⟩,e3⟩,e4⟩,e5⟩,e6⟩:=q
   subst e1 e2
   obtain ⟨nm,bs,mro,ns,qn,hd,sn,sub,ab,col,del⟩:=cd
   obtain ⟨sll⟩:=sl
   dsimp only at eqm e3 e5 e6 eqs
   subst eqm e3 eqs
   exact ⟨tl,ns,nm,qn,bs,hd,sn,sub,ab,col,dd,k0,k1,k2,k3,k5,h.nsMap ns,X _ _ look,.of_isNs (PySem.W.isNs_of_in X e5),PySem.W.nsMap_none_of_in X e5 e6,PySem.W.tail_of_in X e4⟩
  all_goals cases q
 all_goals cases q
noncomputable abbrev gx:List Value:=[.type "ValueError",.type "Exception",.type "BaseException",.type "object"]
noncomputable def WM (C:Addr) (E:XK) (ta:TA):TS:=λ_ σ H=>ta σ H λvs H1=>vs.length<=sizeLine/\E (.ref C) none H1
noncomputable def WN (X:Cx) (E:XK):Prop:=∀ (pins:List (Addr × Obj)) (σ:St) (H:Hp) (s:Shared) (h':Heap) (e:Addr) (cls:Value) (args:List Value),zE X pins σ H s->Heap.MadeExcOf s.heap h' e cls args->E cls none H->X.xe (.ref e) { s with heap:=h' }
theorem Z8 {X:Cx} {C:Addr} {E:XK} {x:Str} {np cpos pos:Pos} {e0:Expr} {es:List Expr} {ta:TA} (R:WN X E) (hC:PySem.W.excIn X.K C gx "ValueError.__new__" = true) (hg:Gl X x) (hm:X.mg x=some (.ref C)) (hc:X.calm=true) (ha:PA X (e0 :: es) ta)
  (hdb:(x == ("__debug__" : Str))=false:=by decide) (he:starEach (e0 :: es) X.env=(false,eval e0 X.env) :: starEach es X.env:=by rfl) (hpl:(backTo cpos (starEach es X.env)).any (·.1)=false:=by rfl) :
  PS X (.Raise (some (.Call (.Name x np) (e0 :: es) [] cpos)) none pos) (WM C E ta):=by
 intro pins s σ H D I h
 obtain ⟨bm,N,nm,qn,bs,hdct,sn,sub,ab,col,dd,k0,k1,k2,k3,k5,mN,oC,oN,oi,oT⟩:=WL I.ok.mod.kin hC
 have hp:(backTo cpos (starEach (e0 :: es) X.env)).any (·.1)=false:=by
  rw [he]
  show (false || (backTo cpos (starEach es X.env)).any (·.1))=false
  rw [hpl]
  rfl
 refine wpAny_Raise_call_subT (C:=C) (nm:=nm) (q:=qn) (N:=N) (bs:=bs) (bm:=bm) (hdct:=hdct) (sn:=sn) (sub:=sub) (ab:=ab) (col:=col) (dd:=dd) (k0:=k0) (k1:=k1) (k2:=k2) (k3:=k3) (k5:=k5) PySem.F.excBase_ValueError (mN:=mN)
  (oT.hasType PySem.F.excBase_ValueError.hasBase) (I.ok.hd hc) hp oi (vv I hg hm ⟨rfl,?_⟩ hdb)
 have ha':=ha cpos pins s σ H _ I h
 rw [he] at ha' |-
 refine Calls.evalArgs_plain (zb ha' λus s2 ⟨vs,H1,I2,r,hl,qE⟩=>?_)
 exact ⟨rfl,(by rw [<- r.length]; exact hl),I2.bk _ _ oC,oN.keeps I2.bk,oT.keeps I2.bk,λh' e hm'=>R pins σ H1 s2 h' e _ _ I2 hm' qE⟩
section
variable {P:Program} {w:World} {K:PySem.W.Frag} {mg:Str->Option Value} {base:Heap}
theorem yT.okX {x qual:Str} {st:Stmt} {f:Addr} {fd:FuncData} {N ps:List Str} {k:Nat} {sp:Sp} (F:yT K x qual st f fd) (S:yS N ps (zQ st)) (len:∀ vs H Q E,sp vs H Q E->vs.length=ps.length)
  (hbody:∀ (cdv:Value) (A:Around) (outer:List Env) (s:Shared) (H:Hp) (vs:List V) (Q:VK) (E:XK),zd k (A.deeper (envOfC qual (zQ st) s.heap.objs.size f cdv))->sp vs H Q E->
   ∃ t,yi (zF (xv P w) P w K mg base N qual (zQ st) f cdv A outer s H E) (yQ st) t/\t { nx:=λ_ H'=>Q .non H',rt:=Q } (xT N vs) H):zP P w K mg base (xv P w) (k + 1) f fd ps sp:=by
 obtain ⟨oc,od,kV,doc,pm,an,cdv,ct,osl,rfl,lk,hcd⟩:=F.ex
 exact qD lk hcd S len λA outer s H vs Q E hr hsp=>hbody cdv A outer s H vs Q E hr hsp
theorem xH.okX {x qual:Str} {st:Stmt} {f:Addr} {fd:FuncData} {d:Value} {N ps:List Str} {k:Nat} {sp:Sp} (F:xH K x qual st f fd d) (S:yS N ps (zQ st)) (len:∀ vs H Q E,sp vs H Q E->vs.length=ps.length)
  (hbody:∀ (cdv:Value) (A:Around) (outer:List Env) (s:Shared) (H:Hp) (vs:List V) (Q:VK) (E:XK),zd k (A.deeper (envOfC qual (zQ st) s.heap.objs.size f cdv))->sp vs H Q E->
   ∃ t,yi (zF (xv P w) P w K mg base N qual (zQ st) f cdv A outer s H E) (yQ st) t/\t { nx:=λ_ H'=>Q .non H',rt:=Q } (xT N vs) H):zP P w K mg base (xv P w) (k + 1) f fd ps sp:=by
 obtain ⟨oc,od,kV,doc,pm,an,cdv,ct,osl,T,oT,n,rfl,lk,hcd,_⟩:=F.ex
 exact qD lk hcd S len λA outer s H vs Q E hr hsp=>hbody cdv A outer s H vs Q E hr hsp
structure gy (P:Program) (w:World) (K:PySem.W.Frag) (mg:Str->Option Value) (base:Heap) (x:Str) (ps:List Str) (k:Nat) (sp:Sp):Prop where
 ex:∃ f fd,zP P w K mg base (xv P w) k f fd ps sp/\mg x=some (.ref f)/\PySem.W.keepIn K (.ref f)=true/\xF K fd ps []
theorem gy.mono {x:Str} {ps:List Str} {j k:Nat} {sp:Sp} (F:gy P w K mg base x ps j sp) (h:j<=k:=by decide):gy P w K mg base x ps k sp:=by
 obtain ⟨f,fd,a,b,c,d⟩:=F.ex
 exact ⟨f,fd,a.mono h,b,c,d⟩
end
noncomputable def y8 (e C:Addr):HO:=.ext λh=>∃ oe vs,h.get? e=some oe/\oe.cls=.ref C/\oe.data=.fields vs/\vs[2]? = some .none
theorem WO {K:PySem.W.Frag} {prog:Program} {w:World} {A:Around} {E:Value->Shared->Prop} {s:Shared} {Q:Value->Shared->Prop} {e C:Addr} {c:Value} {oe:Obj} (X:K.In s.heap) (he:s.heap.get? e=some oe) (hc:oe.cls=.ref C)
  (kx:PySem.W.kitOne K (.ref C) c=some true) (h:∀ tk,Q (.bool true) { s with toks:=tk }):wpAny (model prog w) A (call (.builtin "isinstance") [.ref e,c]) Q E s:=by
 refine call_isinstance (S:=λ_ R s=>(K.In s.heap/\∃ oe,s.heap.get? e=some oe/\oe.cls=.ref C)/\∀ tk,R (.ok (.ret (.bool true))) { s with toks:=tk }) (λprog w A R s hs=>isinstance_outer ?_ (λz=>nomatch z)) ⟨⟨X,oe,he,hc⟩,h⟩
 obtain ⟨h0,g,d,tt,os⟩:=s
 obtain ⟨⟨X,oe,he,hc⟩,hq⟩:=hs
 have LT:PySem.W.Looks (model prog w) h0 (typeOf (.ref e)) (.ref C):=by
  intro A' Q' E' s' k q
  unfold typeOf
  dsimp only
  exact wpAny_bind (wpAny_loadPart (k _ _ he) (wpAny_pure (by rw [hc]; exact q)))
 unfold PySem.W.kitOne at kx
 unfold Builtin.«isinstance.nested»
 refine wpAny_bind (LT.at ?_)
 by_cases same:(Value.ref C == c)=true
 ·rw [if_pos same]
  first
   | ((repeat lk); exact hq tt)
   | exact wpAny_bind (wpAny_rule (hq tt))
   | exact wpAny_bind (wpAny_rule (wpAny_pure (hq tt)))
 ·rw [if_neg same] at kx
  rw [if_neg same]
  obtain ⟨l1,l2,l3⟩:=PySem.W.kit_cls (M:=model prog w) X kx
  have LI:PySem.W.Looks (model prog w) h0 (isInstance (.ref e) c) true:=LT.andThen l3
  refine wpAny_bind (l1.at ?_)
  rw [if_pos (by decide)]
  k_delta "plainIsInstance"
  refine wpAny_bind (wpAny_bind (l2.at ?_))
  simp only [Bool.not_true,Bool.false_eq_true,if_false]
  refine wpAny_bind (LI.at ?_)
  first
   | exact wpAny_pure (wpAny_pure (hq tt))
   | (simp only [if_true]; first | exact wpAny_pure (wpAny_pure (hq tt)) | exact wpAny_pure (hq tt) | exact wpAny_bind (wpAny_pure (wpAny_pure (hq tt))))
section
variable {X:Cx}
noncomputable def Z9 (K:PySem.W.Frag):List V->Hp->VK->Prop:=λxs H Q=>∃ e C c,xs=[.ref e,.ty c]/\H e=some (y8 e C)/\PySem.W.kitOne K (.ref C) (.type c)=some true/\Q (.bl true) H
theorem WP:yk X (.builtin "isinstance") (Z9 X.K):=by
 intro pins s σ H xs us Q I r h
 obtain ⟨e,C,c,rfl,he,kx,q⟩:=h
 obtain ⟨u,v,rfl,ru,rv⟩:=qB r
 cases (show v=Value.type c from rv)
 cases (show u=Value.ref e from ru)
 obtain ⟨⟨oe,vs,h1,h2,_⟩,_⟩:=(show yu X.prog X.w H s.heap e (y8 e C) from I.hok e _ he)
 exact WO I.kIn h1 h2 kx λtk=>⟨.bl true,H,I.tok tk,rfl,q⟩
end
noncomputable abbrev Cx.mark (X:Cx) (e:Addr):Cx:={ X with A:=X.A.mark (some (.ref e)),calm:=false,xe:=λ_ _=>False }
section
variable {X:Cx} {pins:List (Addr × Obj)} {σ:St} {H:Hp} {s:Shared} {e:Addr}
theorem zE.mark (I:zE X pins σ H s) (e:Addr):zE (X.mark e) pins σ H s:=
 ⟨⟨I.ok.mod,I.ok.kind,I.ok.glob,I.ok.blt,I.ok.above,I.ok.inj,I.ok.has,I.ok.cab,λz=>(nomatch z),I.ok.frames,I.ok.stk,I.ok.exf,I.ok.bs,I.ok.bsz,I.ok.noex,I.ok.exfs,I.ok.funs,I.ok.frf⟩,I.os,I.bare,I.base,I.loc,I.cell,I.free,I.freeC,I.pin,I.hok,I.len⟩
theorem zE.unmark (hh:X.calm=true->X.A.handled=none) (I:zE (X.mark e) pins σ H s):zE X pins σ H s:=
 ⟨⟨I.ok.mod,I.ok.kind,I.ok.glob,I.ok.blt,I.ok.above,I.ok.inj,I.ok.has,I.ok.cab,hh,I.ok.frames,I.ok.stk,I.ok.exf,I.ok.bs,I.ok.bsz,I.ok.noex,I.ok.exfs,I.ok.funs,I.ok.frf⟩,I.os,I.bare,I.base,I.loc,I.cell,I.free,I.freeC,I.pin,I.hok,I.len⟩
theorem zE.track {o:HO} (I:zE X pins σ H s) (hn:H e=none) (h0:e∈X.ex\/X.s₀.heap.get? e=none) (hL:e≠X.env.locals) (hc:∀ x c,X.env.cells.lookup x=some c->c≠e) (hp:∀ p∈X.pn++pins,p.1≠e)
  (new:yu X.prog X.w (upd H e o) s.heap e o):zE X pins σ (upd H e o) s:=by
 have ne:∀ b u,H b=some u->b≠e:=λb u q=>vf q hn
 refine ⟨I.ok,I.os,I.bare,⟨I.base.keep,I.base.slot,λb ob q n hx=>?_,I.base.there,λb xs q=>?_,λb ob u q=>?_,λb ps q=>?_⟩,I.loc,I.cell,?_,λx c q=>?_,λp hq=>?_,λb u q=>?_,I.len⟩
 ·rw [zi λz=>?_]
  ·exact I.base.free b ob q n hx
  ·subst z
   rcases h0 with z | z
   ·exact hx z
   ·rw [q] at z; cases z
 ·have z:=I.base.tups b xs q
  rw [zi (ne _ _ z)]
  exact z
 ·have z:=I.base.frzs b ob u q
  rw [zi (ne _ _ z)]
  exact z
 ·obtain ⟨m,z⟩:=I.base.tbls b ps q
  exact ⟨m,by rw [zi (ne _ _ z)]; exact z⟩
 ·rw [zi (Ne.symm hL)]
  exact I.free
 ·rw [zi (hc x c q)]
  exact I.freeC x c q
 ·obtain ⟨a1,a2,a3,a4,a5⟩:=I.pin p hq
  exact ⟨a1,by rw [zi (hp p hq)]; exact a2,a3,a4,a5⟩
 ·by_cases z:b=e
  ·subst z
   rw [zJ] at q
   cases q
   exact new
  ·rw [zi z] at q
   exact (I.hok b u q).stay (λ_ _ _ r=>r) (λc r=>by rw [zi (ne _ _ r)]; exact r) λc xs r=>by rw [zi (ne _ _ r)]; exact r
end
noncomputable def YA (X:Cx) (ex:Expr) (t:XK->TE):Prop:=
 ∀ (pins:List (Addr × Obj)) (s:Shared) (σ:St) (H:Hp) (Q:VK) (E:XK),zE X pins σ H s->t E σ H Q->
  wpAny (model X.prog X.w) X.A (eval ex X.env) (EP X pins σ Q) (λev s'=>∃ (s1:Shared) (H1 H2:Hp) (e:Addr) (cls a0:Value) (B:Heap),zE X pins σ H1 s1/\ev=.ref e/\XL X.prog X.w X.stack H1 H2 s1 s' B e cls a0/\E cls none H2) s
end L2
namespace L2
open PySem PySem.Spec PyProof.Rows
noncomputable def XP (X:Cx) (pins:List (Addr × Obj)) (ES:St->XK) (ev:Value) (s':Shared):Prop:=
 ∃ (σ1:St) (s1:Shared) (H1 H2:Hp) (e:Addr) (cls a0:Value) (B:Heap),zE X pins σ1 H1 s1/\ev=.ref e/\XL X.prog X.w X.stack H1 H2 s1 s' B e cls a0/\ES σ1 cls none H2
noncomputable abbrev TX:=(St->XK)->TS
noncomputable def YB (X:Cx) (st:Stmt) (t:TX):Prop:=∀ (pins:List (Addr × Obj)) (s:Shared) (σ:St) (H:Hp) (D:xh) (ES:St->XK),zE X pins σ H s->t ES D σ H->wpAny (model X.prog X.w) X.A (exec st X.env) (SP X pins D) (XP X pins ES) s
noncomputable def va (X:Cx) (ss:List Stmt) (t:TX):Prop:=∀ (pins:List (Addr × Obj)) (s:Shared) (σ:St) (H:Hp) (D:xh) (ES:St->XK),zE X pins σ H s->t ES D σ H->wpAny (model X.prog X.w) X.A (execs ss X.env) (SP X pins D) (XP X pins ES) s
section
variable {X:Cx} {call:Expr} {tb:XK->TE} {pos pos':Pos}
theorem WQ (hb:YA X call tb) (hs:swapsWith call none pos.line X.env=pure false:=by rfl):YB X (.Expr call pos) (λES D σ H=>tb (ES σ) σ H λ_ H1=>D.nx σ H1):=by
 intro pins s σ H D ES I h
 refine wpAny_Expr_any (wpAny_mono (hb pins s σ H _ _ I h) (λv s1 ⟨y,H1,I1,r1,q1⟩=>⟨σ,H1,I1,q1⟩) λev s1 ⟨s0,H1,H2,e,cls,a0,B,I0,e1,xl,q⟩=>⟨σ,s0,H1,H2,e,cls,a0,B,I0,e1,xl,q⟩) I.quiet hs
theorem WR:va X [] (λ_ D σ H=>D.nx σ H):=λ_ _ σ H _ _ I h=>wpAny_execs_nil ⟨σ,H,I,h⟩
theorem WS {st:Stmt} {ss:List Stmt} {t u:TX} (h1:YB X st t) (h2:va X ss u):va X (st :: ss) (λES D σ H=>t ES { D with nx:=u ES D } σ H):=by
 intro pins s σ H D ES I h
 refine wpAny_execs_cons (wpAny_mono (h1 pins s σ H _ ES I h) (λf s1 q=>?_) λ_ _ z=>z)
 cases f with
 | next=>obtain ⟨σ',H',I',q'⟩:=q; exact h2 pins s1 σ' H' D ES I' q'
 | brk=>exact q
 | cont=>exact q
 | ret u=>exact q
end
theorem zE.gone {X:Cx} {pins:List (Addr × Obj)} {σ8:St} {H8:Hp} {s8:Shared} {h9:Heap} {i:Nat} {n:Str} {m8:Str->Option Value} {v9:Option Value} {tk:Nat} (I8':zE X pins σ8 H8 s8) (hN:X.N.Nodup) (hi:X.N[i]? = some n)
  (hl8:∀ (i:Nat) (x:Str) (v:V),X.N[i]? = some x->σ8[i]? = some (some v)->vt X.env.scope x->∃ u,zV v u/\ul X.env s8.heap m8 x u)
  (hn9:h9.Ns X.env.locals (λy=>if y=n then v9 else m8 y)) (keep9:∀ b o,b≠X.env.locals->s8.heap.get? b=some o->h9.get? b=some o):zE X pins (σ8.set i none) H8 { s8 with heap:=h9,toks:=tk }:=by
 have iσ:i < σ8.length:=by rw [I8'.len]; exact (List.getElem?_eq_some_iff.mp hi).1
 refine ⟨I8'.ok,I8'.os,I8'.bare,⟨λb o q n hb hx=>?_,λb o q n hb hx=>?_,I8'.base.free,λb o q hx=>?_,I8'.base.tups,I8'.base.frzs,I8'.base.tbls⟩,⟨_,hn9,λj y v e1 e2 e3=>?_⟩,λy c q=>?_,I8'.free,I8'.freeC,λp hp=>?_,λb u q=>?_,by rw [List.length_set]; exact I8'.len⟩
 ·exact keep9 b o (Nat.ne_of_lt (Nat.lt_of_lt_of_le (Heap.lt_size q) I8'.ok.above)) (I8'.base.keep b o q n hb hx)
 ·obtain ⟨sl,e1⟩:=I8'.base.slot b o q n hb hx
  exact ⟨sl,keep9 b _ (Nat.ne_of_lt (Nat.lt_of_lt_of_le (Heap.lt_size q) I8'.ok.above)) e1⟩
 ·obtain ⟨o',e1⟩:=I8'.base.there b o q hx
  exact ⟨o',keep9 b _ (Nat.ne_of_lt (Nat.lt_of_lt_of_le (Heap.lt_size q) I8'.ok.above)) e1⟩
 ·by_cases hj:j=i
  ·subst hj
   rw [List.getElem?_set_self iσ] at e2
   cases e2
  ·rw [List.getElem?_set_ne (Ne.symm hj)] at e2
   obtain ⟨u,r,l⟩:=hl8 j y v e1 e2 e3
   refine ⟨u,r,?_⟩
   have yn:y≠n:=λz=>hj (qi hN e1 (z ▸ hi))
   rcases l with ⟨k,l⟩ | ⟨k,c,l1,o,l2,l3⟩
   ·exact .inl ⟨k,(if_neg yn).trans l⟩
   ·exact .inr ⟨k,c,l1,o,keep9 _ _ (I8'.cne y c l1) l2,l3⟩
 ·obtain ⟨v,o,l2,l3⟩:=I8'.cell y c q
  exact ⟨v,o,keep9 _ _ (I8'.cne y c q) l2,l3⟩
 ·obtain ⟨a1,a2,a3,a4,a5⟩:=I8'.pin p hp
  exact ⟨keep9 _ _ a3 a1,a2,a3,a4,a5⟩
 ·refine (I8'.hok b u q).stay (λc v hc r=>keep9 c v (λz=>?_) r) (λ_ r=>r) λ_ _ r=>r
  rcases hc with z1 | z1
  ·rw [<- z1,z,I8'.free] at q
   cases q
  ·rw [z,I8'.free] at z1
   cases z1
end L2
namespace L2
open PySem PySem.Spec PyProof.Rows
structure uJ (P:Program) (w:World) (K:PySem.W.Frag) (mg:Str->Option Value) (base:Heap) (C:Addr) (m:Str) (ps:List Str) (k:Nat) (sp:Sp):Prop where
 ex:∃ f fd,zP P w K mg base (xv P w) k f fd ps sp/\u6 K C m f/\xF K fd ps []
structure wK (P:Program) (w:World) (K:PySem.W.Frag) (mg:Str->Option Value) (base:Heap) (C:Addr) (ps:List Str) (k:Nat) (sp:Sp):Prop where
 ex:∃ f fd,zP P w K mg base (xv P w) k f fd ps sp/\Mk K C f/\xF K fd ps []
theorem uJ.mono {P:Program} {w:World} {K:PySem.W.Frag} {mg:Str->Option Value} {base:Heap} {C:Addr} {m:Str} {ps:List Str} {j k:Nat} {sp:Sp} (F:uJ P w K mg base C m ps j sp) (h:j<=k):uJ P w K mg base C m ps k sp:=by
 obtain ⟨f,fd,a,b,c⟩:=F.ex
 exact ⟨f,fd,a.mono h,b,c⟩
theorem wK.mono {P:Program} {w:World} {K:PySem.W.Frag} {mg:Str->Option Value} {base:Heap} {C:Addr} {ps:List Str} {j k:Nat} {sp:Sp} (F:wK P w K mg base C ps j sp) (h:j<=k:=by decide):wK P w K mg base C ps k sp:=by
 obtain ⟨f,fd,a,b,c⟩:=F.ex
 exact ⟨f,fd,a.mono h,b,c⟩
section
variable {X:Cx} {C:Addr} {m x:Str} {ps:List Str} {k:Nat} {sp:Sp} {o e:Expr} {es:List Expr} {ta:TE} {t:TA} {p pos apos:Pos}
theorem WT {pins:List (Addr × Obj)} {σ:St} {H:Hp} {s:Shared} {Q:VK} {E:XK} {f:Addr} {fd:FuncData} {us ds:List Value} {vs dvs:List V} (M:Mk X.K C f) (F:zP X.prog X.w X.K X.mg X.base (xv X.prog X.w) k f fd ps sp) (hr:zd (k + 1) X.A) (hb:xF X.K fd ps ds) (hd:zN dvs ds)
  (I:zE X pins σ H s) (r:zN vs us)
  (h:∀ x dx,H x=none->H dx=none->dx≠x->sp (.ref x :: (vs++dvs)) (upd (upd H dx (.own x)) x (.ins C dx [])) (λv H2=>v=.non/\Q (.ref x) H2) E) :
  wpAny (model X.prog X.w) X.A (call (.ref C) us) (EP X pins σ Q) (λev s'=>∃ (s1:Shared) (H1 H2:Hp) (e:Addr) (cls a0:Value) (B:Heap),zE X pins σ H1 s1/\ev=.ref e/\XL X.prog X.w X.stack H1 H2 s1 s' B e cls a0/\E cls none H2) s:=by
 have hq:=h (s.heap.objs.size + 1) s.heap.objs.size (I.hok.fresh (Nat.le_succ _)) (I.hok.fresh (Nat.le_refl _)) (Nat.ne_of_lt (Nat.lt_succ_self _))
 have I2:=zE.made (C:=C) I
 have r2:zN (V.ref (s.heap.objs.size + 1) :: (vs++dvs)) (Value.ref (s.heap.objs.size + 1) :: (us++ds)):=.cons rfl (r.append hd)
 have hl:(Value.ref (s.heap.objs.size + 1) :: us++ds).length=ps.length:=by
  have e:=r2.length
  rw [F.len _ _ _ _ hq] at e
  exact e.symm
 refine wpAny_call (ZN (f:=f) I.kIn M.makes M.init (beq_iff_eq.mp M.fn) (codeAny_mono (F.run _ X.stack _ _ ⟨Value.ref (s.heap.objs.size + 1) :: us,[]⟩ (Value.ref (s.heap.objs.size + 1) :: (us++ds)) _ _ E (hr.make C us [])
  (I2.env0.make C us []) (hb _ (Value.ref (s.heap.objs.size + 1) :: us) I2.kIn hl) r2 hq) λr s' hq'=>?_))
 cases r with
 | error ev=>
  obtain ⟨ee,cls,a0,B,H2,rfl,x,qE⟩:=hq'
  exact ⟨_,_,H2,ee,cls,a0,B,I2,rfl,x,qE⟩
 | ok fl=>
  cases fl with
  | ret u=>
   obtain ⟨v,H',I3,rv,ev,q3⟩:=I2.after hq'
   subst ev
   exact ⟨rv,⟨V.ref (s.heap.objs.size + 1),H',I3,rfl,q3⟩⟩
  | next=>exact False.elim hq'
  | brk=>exact False.elim hq'
  | cont=>exact False.elim hq'
theorem WU (F:wK X.prog X.w X.K X.mg X.base C ps k sp) (T:zS X.K X.mg x C) (hr:zd (k + 1) X.A) (hg:Gl X x) (ha:PA X.nox (e :: es) t)
  (hdb:(x == ("__debug__" : Str))=false:=by decide) (he:starEach (e :: es) X.env=(false,eval e X.env) :: starEach es X.env:=by rfl) (hpl:(backTo pos (starEach es X.env)).any (·.1)=false:=by rfl) :
  YA X (.Call (.Name x p) (e :: es) [] pos) (λE=>gO C sp [] E t):=by
 intro pins s σ H Q E I h
 obtain ⟨f,fd,Fk,M,hb⟩:=F.ex
 refine wpAny_Call_Name_kw (vv I hg T.mgC ?_ hdb)
 refine PySem.W.callWith_K (h₀:=X.base) I.ok.mod.kin M.kp (wpAny_mono (ha pos pins s σ H _ (I.wish _) h) (λus s1 ⟨vs,H1,I1,r,q⟩=>⟨I1.unwish.kIn,?_⟩) λ_ _ z=>False.elim z) he hpl
 exact WT M Fk hr hb .nil I1.unwish r q
end
section
variable {P:Program} {w:World} {K:PySem.W.Frag} {mg:Str->Option Value} {base:Heap} {N:List Str} {qual:Str} {scope:Scope} {f:Addr} {cd:Value} {A:Around} {outer:List Env} {s:Shared} {H:Hp} {E:XK}
variable {C:Addr} {m x:Str} {ps:List Str} {k:Nat} {sp:Sp} {o e:Expr} {es:List Expr} {ta:TE} {t:TA} {p pos apos:Pos}
end
end L2
namespace L2
open PySem PySem.Spec PyProof.Rows
section
variable {P:Program} {w:World} {K:PySem.W.Frag} {mg:Str->Option Value} {base:Heap} {k:Nat} {f C:Addr} {fd:FuncData} {x m:Str} {ps:List Str} {sp:Sp}
end
end L2
namespace L2
open PySem PySem.Spec PyProof.Rows PySem.Builtin PySem.Builtin.ObjectAttr PySem.Builtin.Getset_descriptor
structure xZ (K:PySem.W.Frag) (C:Addr):Prop where
 ga:PySem.W.findIn K (.ref C) "__getattribute__" = some (some (.builtin "BaseException.__getattribute__"))
 gt:PySem.W.findIn K (.ref C) "__getattr__" = some none
 ha:PySem.W.findIn K (.ref C) "__class__" = some (some (.builtin "object.__class__"))
 hn:PySem.W.specialIn K (.builtin "object.__class__") "__get__" = some (some (.builtin "getset_descriptor.__get__"))
 tk:PySem.W.takesIn K (.builtin "object.__class__")=some true
 mb:PySem.W.mroIn K C (.type "BaseException")=some true
 mo:PySem.W.mroIn K C (.type "object")=some true
section
variable {prog:Program} {w:World} {A:Around} {E:Value->Shared->Prop} {K:PySem.W.Frag} {s:Shared} {e C:Addr} {oe:Obj}
theorem WV {tp:Value} {R:Result->Shared->Prop} (X:K.In s.heap) (he:s.heap.get? e=some oe) (hc:oe.cls=.ref C) (Z:xZ K C)
  (h:R (.ok (.ret (.ref C))) s):codeAny (model prog w) A (.call (.builtin "getset_descriptor.__get__") ⟨[.builtin "object.__class__",.ref e,tp],[]⟩) R s:=by
 obtain ⟨hh,g,dr,t,os⟩:=s
 have L0:PySem.W.Looks (model prog w) hh (typeOf (.ref e)) (.ref C):=hc ▸ (PySem.W.Looks.ld he).andThen .now
 have L1:=PySem.W.looks_mroIn (M:=model prog w) X Z.mo
 refine codeAny_call_builtin PySem.W.KF.slot_gs.plain PySem.W.KF.entry_gs (PySem.W.KF.slot_gs.check _ _ _ _ _ _ _ _ PySem.W.KF.type_class (PySem.W.KF.args_gs _ _ _) ?_)
 unfold Builtin.«getset_descriptor.__get__» descrGet
 rw [PySem.W.dga_obj]
 refine wpAny_bind (wpAny_pure ?_)
 unfold descrGetter descrCheckInstance descrNameAndClass isInstance
 simp only [PySem.W.KF.owner_class]
 repeat lk
 refine ⟨Code.quiet_builtin _ (by decide +kernel),codeAny_builtin PySem.W.KF.entry_class ?_⟩
 unfold Builtin.«object.__class__» shownTypeOf
 repeat lk
 exact h
theorem WW (X:K.In s.heap) (Z:xZ K C):PySem.W.Looks (model prog w) s.heap (find (.ref e) (.ref C) "__class__") (.bind (.builtin "getset_descriptor.__get__") (.builtin "object.__class__")):=by
 have L1:=PySem.W.looks_findIn (M:=model prog w) X Z.ha
 have L2:PySem.W.Looks (model prog w) s.heap (getOf (some (.builtin "object.__class__"))) (some (.builtin "getset_descriptor.__get__")):=PySem.W.looks_specialIn X Z.hn
 have L3:=PySem.W.looks_takesIn (M:=model prog w) X Z.tk
 exact L1.andThen (L2.andThen ((show PySem.W.Looks (model prog w) s.heap (dataDescriptor? (some (.builtin "object.__class__")) (some (.builtin "getset_descriptor.__get__"))) (some (.builtin "getset_descriptor.__get__",.builtin "object.__class__")) from L3.andThen .now).andThen (PySem.W.Looks.tag .now)))
theorem WX {tk:Tok} {Q:Fin->Shared->Prop} (X:K.In s.heap) (he:s.heap.get? e=some oe) (hc:oe.cls=.ref C) (Z:xZ K C) (hq:Q (.done (.ret (.ref C))) s) :
  wpAny (model prog w) A (Builtin.«object.__getattribute__» ⟨[.ref e,.str "__class__" tk],[]⟩) Q E s:=by
 obtain ⟨hh,g,dr,t,os⟩:=s
 have L0:PySem.W.Looks (model prog w) hh (typeOf (.ref e)) (.ref C):=hc ▸ (PySem.W.Looks.ld he).andThen .now
 have L1:=WW (prog:=prog) (w:=w) (s:=⟨hh,g,dr,t,os⟩) (e:=e) X Z
 unfold Builtin.«object.__getattribute__»
 refine wpAny_bind (wpAny_pure ?_)
 refine wpAny_bind (wpAny_pure ?_)
 refine wpAny_bind (L0.at (wpAny_bind (L1.at ?_)))
 show wpAny _ _ (holding [Value.builtin "object.__class__"] (call (.builtin "getset_descriptor.__get__") [.builtin "object.__class__",.ref e,.ref C]) >>= ret) _ _ _
 exact wpAny_bind (wpAny_holding (wpAny_call (WV (s:=⟨hh,g,dr,t,os⟩) X he hc Z (wpAny_pure hq))))
theorem WY {M:Model} {nameV:Value} {Q:Unit->Shared->Prop} (X:K.In s.heap) (he:s.heap.get? e=some oe) (hc:oe.cls=.ref C) (Z:xZ K C) (hq:Q () s):wpAny M A (checkBuiltinCall "BaseException.__getattribute__" ⟨[.ref e,nameV],[]⟩) Q E s:=by
 obtain ⟨hh,g,dr,t,os⟩:=s
 have L0:PySem.W.Looks M hh (typeOf (.ref e)) (.ref C):=hc ▸ (PySem.W.Looks.ld he).andThen .now
 have L1:=PySem.W.looks_mroIn (M:=M) X Z.mb
 have hk:builtinKind "BaseException.__getattribute__" = some .slot:=by decide +kernel
 have hsplit:splitId "BaseException.__getattribute__" = some ("BaseException","__getattribute__"):=by decide +kernel
 have ha:=F.args_bexc_ga (.ref e) nameV
 simp only [checkBuiltinCall,hk,hsplit]
 unfold isInstance
 repeat lk
 exact hq
theorem WZ {tk:Tok} {R:Result->Shared->Prop} (X:K.In s.heap) (he:s.heap.get? e=some oe) (hc:oe.cls=.ref C) (Z:xZ K C) (hq:R (.ok (.ret (.ref C))) s) :
  codeAny (model prog w) A (.call (.builtin "BaseException.__getattribute__") ⟨[.ref e,.str "__class__" tk],[]⟩) R s:=
 codeAny_call_builtin (by decide +kernel) F.entry_bexc_ga (WY X he hc Z (WX X he hc Z hq))
theorem Wa {Q:Option Value->Shared->Prop} (X:K.In s.heap) (he:s.heap.get? e=some oe) (hc:oe.cls=.ref C) (Z:xZ K C) (hq:Q (some (.ref C)) { s with toks:=s.toks + 1 }) :
  wpAny (model prog w) A (getAttr? (.ref e) "__class__") Q E s:=by
 obtain ⟨hh,g,dr,t,os⟩:=s
 have L0:PySem.W.Looks (model prog w) hh (typeOf (.ref e)) (.ref C):=hc ▸ (PySem.W.Looks.ld he).andThen .now
 have L1:=PySem.W.looks_findIn (M:=model prog w) X Z.ga
 have L2:=PySem.W.looks_findIn (M:=model prog w) X Z.gt
 have hx2:(Value.builtin "BaseException.__getattribute__" == Value.builtin "object.__getattribute__")=false:=by decide +kernel
 have f3:bindSpecial (.builtin "BaseException.__getattribute__") (.ref e)=pure (.builtin "BaseException.__getattribute__",[.ref e]):=by
  have hop:withoutEnding? "BaseException.__getattribute__" "#opaque" = none:=by decide +kernel
  have hdat:withoutEnding? "BaseException.__getattribute__" "#data" = none:=by decide +kernel
  have hk:builtinKind "BaseException.__getattribute__" = some .slot:=by decide +kernel
  simp only [bindSpecial,typeOf,builtinType,hop,hdat,hk]
  rfl
 unfold getAttr? getAttrBy? getAttrBy
 refine wpAny_bind (wpAny_mkText (wpAny_bind (wpAny_attempt (wpAny_holding (wpAny_bind (L0.at (wpAny_bind (L1.at ?_))))))))
 dsimp only
 rw [hx2,Bool.and_false,if_neg Bool.false_ne_true]
 unfold getAttrByItsOwn hookBefore
 refine wpAny_bind ?_
 rw [if_pos (show onTheHeap (Value.ref C)=true from rfl)]
 refine L2.at ?_
 unfold callGetattribute
 rw [Bool.false_and,if_neg Bool.false_ne_true]
 unfold boundAndCalled
 rw [f3]
 refine wpAny_bind (wpAny_attempt (wpAny_holding (wpAny_bind (wpAny_pure ?_))))
 exact wpAny_call (WZ (s:=⟨hh,g,dr,t + 1,os⟩) X he hc Z (wpAny_pure (wpAny_pure hq)))
theorem Wb (Z:xZ K C):PySem.W.KitX K (.ref e) (.ref C) (λh=>∃ oe,h.get? e=some oe/\oe.cls=.ref C) where
 ty:=λ_ _ _ ⟨_,he,hc⟩=>hc ▸ (PySem.W.Looks.ld he).andThen .now
 it:=λ_ _ X _=>by
  obtain ⟨cd,hcD,_⟩:=Option.bind_eq_some_iff.mp Z.mo
  unfold PySem.W.clsIn at hcD
  split at hcD
  ·rename_i c' d' cd' sl' ho
   intro A' Q' E' s' k q
   unfold isType loadHead
   exact wpAny_bind (wpAny_loadPart (k _ _ (X _ _ ho)) (wpAny_pure q))
  ·cases hcD
 ne:=λh tp dd its n sl X htp=>by
  obtain ⟨cd,hcD,_⟩:=Option.bind_eq_some_iff.mp Z.mo
  refine Bool.eq_false_iff.mpr λq=>?_
  have e:C=tp:=Value.ref.inj (beq_iff_eq.mp q)
  subst e
  unfold PySem.W.clsIn at hcD
  split at hcD
  ·rename_i c' d' cd' sl' ho
   have z:=(X _ _ ho).symm.trans htp
   cases z
  ·cases hcD
 ca:=λX ⟨_,he,hc⟩ k=>Wa X he hc Z k
end
section
variable {X:Cx}
noncomputable def wm (K:PySem.W.Frag):List V->Hp->VK->Prop:=λxs H Q=>∃ e C c b,xs=[.ref e,.ref c]/\H e=some (y8 e C)/\xZ K C/\PySem.W.kitOne K (.ref C) (.ref c)=some b/\Q (.bl b) H
theorem vF:yk X (.builtin "isinstance") (wm X.K):=by
 intro pins s σ H xs us Q I r h
 obtain ⟨e,C,c,b,rfl,he,Z,kx,q⟩:=h
 obtain ⟨u,v,rfl,ru,rv⟩:=qB r
 cases (show v=Value.ref c from rv)
 cases (show u=Value.ref e from ru)
 obtain ⟨⟨oe,vs,h1,h2,_⟩,_⟩:=(show yu X.prog X.w H s.heap e (y8 e C) from I.hok e _ he)
 exact PySem.W.kia_one (Wb Z) I.kIn ⟨oe,h1,h2⟩ kx (λz=>nomatch z) λtk=>⟨.bl b,H,I.tok tk,rfl,q⟩
theorem YC:∀ {bs:List Bool} {its:List Value},zN (bs.map V.bl) its->its=bs.map Value.bool
 | [],_,.nil=>rfl
 | _ :: _,_,.cons r t=>by rw [List.map_cons,YC t,show _=Value.bool _ from r]
end
end L2
namespace Sh
open PySem L2
inductive AK where
 | int (i:Int)
 | bool (b:Bool)
 | non
 | str (x:Str)
 | dic
 | lst (as:List AK)
 | tup (as:List AK)
 | mode (r n s p a d:AK)
noncomputable def gz (r n s p a d:V):List (Str × V):=[("rows",r),("nexts",n),("steer",s),("push",p),("add",a),("divisor",d)]
inductive AV (C:Addr) (H:Hp):V->AK->Prop where
 | int (i:Int):AV C H (.int i) (.int i)
 | bool (b:Bool):AV C H (.bl b) (.bool b)
 | non:AV C H .non .non
 | str (x:Str):AV C H (.str x) (.str x)
 | dic {a:Addr} {kvs:List (yO × V)} (e:H a=some (.dK kvs)):AV C H (.ref a) .dic
 | lst {a:Addr} {xs:List V} {as:List AK} (e:H a=some (.lst xs)) (h:Paired (AV C H) xs as):AV C H (.ref a) (.lst as)
 | tup {a:Addr} {xs:List V} {as:List AK} (e:H a=some (.tup xs)) (h:Paired (AV C H) xs as):AV C H (.ref a) (.tup as)
 | mode {o dx:Addr} {r n s p a d:V} {R N S P A D:AK} (e:H o=some (.ins C dx (gz r n s p a d))) (hr:AV C H r R) (hn:AV C H n N) (hs:AV C H s S) (hp:AV C H p P) (ha:AV C H a A) (hd:AV C H d D):AV C H (.ref o) (.mode R N S P A D)
theorem AV.same {C:Addr} {H H':Hp} (s:zC H H'):∀ {v:V} {a:AK},AV C H v a->AV C H' v a
 | _,_,.int i=>.int i
 | _,_,.bool b=>.bool b
 | _,_,.non=>.non
 | _,_,.str x=>.str x
 | _,_,.dic e=>.dic (s _ _ e)
 | _,_,.lst e h=>.lst (s _ _ e) (go s h)
 | _,_,.tup e h=>.tup (s _ _ e) (go s h)
 | _,_,.mode e h1 h2 h3 h4 h5 h6=>.mode (s _ _ e) (AV.same s h1) (AV.same s h2) (AV.same s h3) (AV.same s h4) (AV.same s h5) (AV.same s h6)
where
 go {C:Addr} {H H':Hp} (s:zC H H'):∀ {xs:List V} {as:List AK},Paired (AV C H) xs as->Paired (AV C H') xs as
  | _,_,.nil=>.nil
  | _,_,.cons h t=>.cons (AV.same s h) (go s t)
theorem zG {C:Addr} {H H':Hp} (s:zC H H') {xs:List V} {as:List AK} (h:Paired (AV C H) xs as):Paired (AV C H') xs as:=AV.same.go s h
noncomputable def AK.isInt:AK->Bool
 | .int _=>true
 | .bool _=>true
 | _=>false
noncomputable def AK.isBool:AK->Bool
 | .bool _=>true
 | _=>false
noncomputable def AK.isLst:AK->Bool
 | .lst _=>true
 | _=>false
noncomputable def AK.isTup:AK->Bool
 | .tup _=>true
 | _=>false
noncomputable def AK.isMode:AK->Bool
 | .mode ..=>true
 | _=>false
structure zj (K:PySem.W.Frag) (C:Addr):Prop where
 mi:PySem.W.kitOne K (.ref C) (.type "int")=some false
 mb:PySem.W.kitOne K (.ref C) (.type "bool")=some false
 ml:PySem.W.kitOne K (.ref C) (.type "list")=some false
 mt:PySem.W.kitOne K (.ref C) (.type "tuple")=some false
 k1:PySem.W.kitOne K (.type "int") (.ref C)=some false
 k2:PySem.W.kitOne K (.type "bool") (.ref C)=some false
 k3:PySem.W.kitOne K (.type "NoneType") (.ref C)=some false
 k4:PySem.W.kitOne K (.type "str") (.ref C)=some false
 k5:PySem.W.kitOne K (.type "list") (.ref C)=some false
 k6:PySem.W.kitOne K (.type "tuple") (.ref C)=some false
 k7:PySem.W.kitOne K (.type "dict") (.ref C)=some false
structure Wc (K:PySem.W.Frag) (C:Addr) (H:Hp) (v:V) (a:AK) (t:Value):Prop where
 ty:yP K H v t
 i:PySem.W.kitOne K t (.type "int")=some a.isInt
 b:PySem.W.kitOne K t (.type "bool")=some a.isBool
 l:PySem.W.kitOne K t (.type "list")=some a.isLst
 u:PySem.W.kitOne K t (.type "tuple")=some a.isTup
 m:PySem.W.kitOne K t (.ref C)=some a.isMode
theorem AV.ask {K:PySem.W.Frag} {mg:Str->Option Value} {x:Str} {C:Addr} (T:zS K mg x C) (Y:zj K C) {H:Hp} {v:V} {a:AK} (h:AV C H v a):∃ t,Wc K C H v a t:=by
 cases h with
 | int i=>exact ⟨_,.int i,uD K .int,uE K .int,uG K .int,uF K .int,Y.k1⟩
 | bool b=>exact ⟨_,.bl b,uD K .bool,uE K .bool,uG K .bool,uF K .bool,Y.k2⟩
 | non=>exact ⟨_,.non,uD K .non,uE K .non,uG K .non,uF K .non,Y.k3⟩
 | str x=>exact ⟨_,.str x,uD K .str,uE K .str,uG K .str,uF K .str,Y.k4⟩
 | lst e _=>exact ⟨_,.lst e,uD K .lst,uE K .lst,uG K .lst,uF K .lst,Y.k5⟩
 | tup e _=>exact ⟨_,.tup e,uD K .tup,uE K .tup,uG K .tup,uF K .tup,Y.k6⟩
 | dic e=>exact ⟨_,.dK e,uD K .dic,uE K .dic,uG K .dic,uF K .dic,Y.k7⟩
 | mode e _ _ _ _ _ _=>exact ⟨_,T.ty e,Y.mi,Y.mb,Y.ml,Y.mt,WH⟩
theorem AV.lst_inv {C:Addr} {H:Hp} {v:V} {a:AK} (h:AV C H v a) (e:a.isLst=true):∃ p xs as,v=.ref p/\a=.lst as/\H p=some (.lst xs)/\Paired (AV C H) xs as:=by
 cases h with
 | lst e0 h=>exact ⟨_,_,_,rfl,rfl,e0,h⟩
 | _=>cases e
theorem AV.tup_inv {C:Addr} {H:Hp} {v:V} {a:AK} (h:AV C H v a) (e:a.isTup=true):∃ p xs as,v=.ref p/\a=.tup as/\H p=some (.tup xs)/\Paired (AV C H) xs as:=by
 cases h with
 | tup e0 h=>exact ⟨_,_,_,rfl,rfl,e0,h⟩
 | _=>cases e
noncomputable def yG (a:AK):Bool:=a.isInt && !a.isBool
noncomputable def zo (n:Int):AK->Bool
 | .lst as=>decide ((as.length:Int)=n) && as.all yG
 | _=>false
noncomputable def zW (h w:Int):AK->Bool
 | .lst as=>decide ((as.length:Int)=h) && as.all (zo w)
 | _=>false
noncomputable def zx (n:Int):AK->Bool
 | .tup as=>decide ((as.length:Int)=n + 1) && as.all yG
 | _=>false
noncomputable def xA (n:Int):AK->Bool
 | .lst as=>as.all (zx n)
 | _=>false
noncomputable def We:AK->AK->Bool
 | .int a,.int b=>decide (a<=b)
 | _,_=>false
noncomputable def xK:AK->Bool
 | .tup [x,y]=>yG x && (yG y && We x y)
 | _=>false
noncomputable def xB:AK->Bool
 | .int d=>decide (1<=d)
 | _=>false
noncomputable def yX (n w:Int):AK->Bool
 | .mode r x s p a d=>xA n r && (zW n n x && (zW n w p && (zo n s && (zo n a && xB d))))
 | _=>false
noncomputable def xo (n w:Int):AK->Bool
 | .lst ms=>!decide ((ms.length:Int)=0) && ms.all (yX n w)
 | _=>false
noncomputable def wD:AK->Bool
 | .lst ps=>ps.all xK
 | _=>false
noncomputable def yL:AK->Int
 | .lst as=>(as.length:Int)
 | _=>0
noncomputable def ub:AK->Bool
 | .int n=>decide (1<=n) && decide (n<=3)
 | _=>false
noncomputable def jU:AK->Int
 | .int n=>n
 | _=>0
noncomputable def xM (m p ms:AK):Bool:=ub m && (wD p && xo (jU m) (yL p) ms)
inductive zy where
 | made | bad | many
noncomputable def wV (m p ms:AK):zy:=if xM m p ms=true then (if yL p > 6\/yL ms > 40 then .many else .made) else .bad
noncomputable def zy.str:zy->Str
 | .made=>"made"
 | .bad=>"bad"
 | .many=>"many"
inductive FA:Nat->AK->Prop
 | int {k:Nat} (i:Int):FA (k + 1) (.int i)
 | bool {k:Nat} (b:Bool):FA (k + 1) (.bool b)
 | non {k:Nat}:FA (k + 1) .non
 | str {k:Nat} (x:Str):FA (k + 1) (.str x)
 | dic {k:Nat}:FA (k + 1) .dic
 | lst {k:Nat} {as:List AK} (l:as.length<=900) (h:∀ a∈as,FA k a):FA (k + 1) (.lst as)
 | tup {k:Nat} {as:List AK} (l:as.length<=900) (h:∀ a∈as,FA k a):FA (k + 1) (.tup as)
 | mode {k:Nat} {r n s p a d:AK} (hr:FA k r) (hn:FA k n) (hs:FA k s) (hp:FA k p) (ha:FA k a) (hd:FA k d):FA (k + 1) (.mode r n s p a d)
theorem FA.mono {j:Nat} {a:AK} (h:FA j a):∀ {k:Nat},j<=k->FA k a:=by
 induction h with
 | lst l _ ih=>
  intro k hk
  obtain ⟨m,rfl⟩:∃ m,k=m + 1:=⟨k - 1,by omega⟩
  exact .lst l λa ha=>ih a ha (by omega)
 | tup l _ ih=>
  intro k hk
  obtain ⟨m,rfl⟩:∃ m,k=m + 1:=⟨k - 1,by omega⟩
  exact .tup l λa ha=>ih a ha (by omega)
 | mode _ _ _ _ _ _ i1 i2 i3 i4 i5 i6=>
  intro k hk
  obtain ⟨m,rfl⟩:∃ m,k=m + 1:=⟨k - 1,by omega⟩
  exact .mode (i1 (by omega)) (i2 (by omega)) (i3 (by omega)) (i4 (by omega)) (i5 (by omega)) (i6 (by omega))
 | int i=>intro k hk; obtain ⟨m,rfl⟩:∃ m,k=m + 1:=⟨k - 1,by omega⟩; exact .int i
 | bool i=>intro k hk; obtain ⟨m,rfl⟩:∃ m,k=m + 1:=⟨k - 1,by omega⟩; exact .bool i
 | non=>intro k hk; obtain ⟨m,rfl⟩:∃ m,k=m + 1:=⟨k - 1,by omega⟩; exact .non
 | str i=>intro k hk; obtain ⟨m,rfl⟩:∃ m,k=m + 1:=⟨k - 1,by omega⟩; exact .str i
 | dic=>intro k hk; obtain ⟨m,rfl⟩:∃ m,k=m + 1:=⟨k - 1,by omega⟩; exact .dic
theorem FA.lst_inv {k:Nat} {as:List AK} (h:FA k (.lst as)):as.length<=900/\∀ a∈as,FA k a:=by
 cases h with
 | lst l h=>exact ⟨l,λa ha=>(h a ha).mono (by omega)⟩
theorem FA.tup_inv {k:Nat} {as:List AK} (h:FA k (.tup as)):as.length<=900/\∀ a∈as,FA k a:=by
 cases h with
 | tup l h=>exact ⟨l,λa ha=>(h a ha).mono (by omega)⟩
noncomputable def jV (C:Addr) (k:Nat):Sp:=λvs H Q _=>∃ (v:V) (a:AK) (d:Int),vs=[v,.int d]/\AV C H v a/\FA k a/\∀ v' H',zC H H'->AV C H' v' a->Q v' H'
theorem Wf {C:Addr}:∀ vs H Q E,¬ jV C 0 vs H Q E:=by
 rintro _ _ _ _ ⟨_,_,_,_,_,h,_⟩
 cases h
noncomputable def uc (C:Addr):Sp:=λvs H Q _=>∃ (v:V) (a:AK),vs=[v]/\AV C H v a/\Q (.bl (yG a)) H
noncomputable def g5 (C:Addr):Sp:=λvs H Q _=>∃ (v:V) (a:AK) (n:Int) (k:Nat),vs=[v,.int n]/\AV C H v a/\FA k a/\∀ H',zC H H'->Q (.bl (zo n a)) H'
noncomputable def YD (C:Addr):Sp:=λvs H Q _=>∃ (v:V) (a:AK) (h w:Int) (k:Nat),vs=[v,.int h,.int w]/\AV C H v a/\FA k a/\∀ H',zC H H'->Q (.bl (zW h w a)) H'
noncomputable def YE (C:Addr):Sp:=λvs H Q _=>∃ (v:V) (a:AK) (n:Int) (k:Nat),vs=[v,.int n]/\AV C H v a/\FA k a/\∀ H',zC H H'->Q (.bl (zx n a)) H'
noncomputable def YF (C:Addr):Sp:=λvs H Q _=>∃ (v:V) (a:AK) (n:Int) (k:Nat),vs=[v,.int n]/\AV C H v a/\FA k a/\∀ H',zC H H'->Q (.bl (xA n a)) H'
noncomputable def YG (C:Addr):Sp:=λvs H Q _=>∃ (v:V) (a:AK),vs=[v]/\AV C H v a/\Q (.bl (xK a)) H
noncomputable def YH (C:Addr):Sp:=λvs H Q _=>∃ (v:V) (a:AK) (n w:Int) (k:Nat),vs=[v,.int n,.int w]/\AV C H v a/\FA k a/\∀ H',zC H H'->Q (.bl (yX n w a)) H'
noncomputable def YI (C:Addr):Sp:=λvs H Q _=>∃ (v1 v2 v3:V) (m p ms:AK) (k:Nat),vs=[v1,v2,v3]/\AV C H v1 m/\AV C H v2 p/\AV C H v3 ms/\FA k p/\FA k ms/\∀ H',zC H H'->Q (.bl (xM m p ms)) H'
noncomputable def YJ (C:Addr):Sp:=λvs H Q _=>∃ (o dx:Addr) (r n s p a d:V) (R N S P A D:AK),vs=[.ref o,r,n,s,p,a,d]/\H o=some (.ins C dx [])/\AV C H r R/\AV C H n N/\AV C H s S/\AV C H p P/\AV C H a A/\AV C H d D/\FA 4 R/\FA 4 N/\FA 4 S/\FA 4 P/\FA 4 A/\∀ H',yf o H H'->AV C H' (.ref o) (.mode R N S P A D)->Q .non H'
end Sh
namespace HT
open PySem PySem.Spec PyProof.Rows
section
variable {prog:Program} {w:World} {A:Around} {E:Value->Shared->Prop} {s:Shared}
theorem cat_tup0 {t b:Addr} {vs ws:List Value} {Q:Value->Shared->Prop} (ht:IsTup s.heap t vs.toArray) (hb:IsTup s.heap b ws.toArray) (hv:vs=[]) (h0:Q (.ref b) s):wpAny (model prog w) A (binaryOp .Add (.ref t) (.ref b)) Q E s:=by
 obtain ⟨⟨cls,dd,data,sl⟩,ho,hc,n,hd⟩:=id ht
 obtain ⟨⟨cls2,dd2,data2,sl2⟩,ho2,hc2,n2,hd2⟩:=id hb
 simp only at hc hd hc2 hd2
 subst hc hd hc2 hd2
 exact concat_meets ⟨_,ho,rfl⟩ ⟨_,ho2,rfl⟩ noFill_tuple_add seq_tuple_add PySem.F.slot_tuple_add PySem.F.entry_tuple_add (PySem.F.args_tuple_add_2 _ _)
  (tuple_addW0 t b vs.toArray ws.toArray n n2 dd dd2 sl sl2 (by simp [hv])) ⟨ho,ho2,h0⟩
theorem getItem_tuple_all {t sl:Addr} {items:Array Value} {vl vu:Value} {lo hi:Option Int} {Q:Value->Shared->Prop} (ht:IsTup s.heap t items) (hs:s.heap.IsSliceOf sl vl vu .none) (pl:IsPart vl lo) (pu:IsPart vu hi)
  (hw:sIx items.size 0 lo=0/\sIx items.size items.size hi=items.size) (h:Q (.ref t) s):wpAny (model prog w) A (getItem (.ref t) (.ref sl)) Q E s:=by
 obtain ⟨os,hos,hcs,hds⟩:=id hs
 have hTs:s.TypeIs (.ref sl) "slice":=⟨os,hos,hcs⟩
 unfold getItem
 try with_reducible refine wpAny_holding ?_
 first | refine wpAny_bind (wpAny_pure ?_) | skip
 refine wpAny_bind (wpAny_sequenceKey ht.typeIs (by decide) ?_)
 refine wpAny_bind (wpAny_callSpecial?_slot (name:=Str.ofString "__getitem__") ht.typeIs PyProof.Rows.slot_tuple_getitem
  (wpAny_call_entry PyProof.Rows.slot_tuple_getitem ht.typeIs entry_tuple_getitem ?_ (args_tuple_getitem _ _)))
 show wpAny _ _ (Builtin.Tuple.tupleItemsOf (.ref t) >>= _) _ _ s
 refine wpAny_bind (tupleItemsOf_ ht ?_)
 refine wpAny_bind (wpAny_typeOf hTs ?_)
 rw [if_pos (by decide)]
 refine wpAny_bind (ZY hs pl pu ?_)
 have hyes:(((sIx items.size 0 lo:Nat):Int) == 0 && (1:Int) == 1 && (sIx items.size items.size hi - sIx items.size 0 lo) == items.size)=true:=by
  rw [hw.1,hw.2]
  simp
 show wpAny _ _ (if (((sIx items.size 0 lo:Nat):Int) == 0 && (1:Int) == 1 && (sIx items.size items.size hi - sIx items.size 0 lo) == items.size)=true then _ else _) _ _ s
 rw [if_pos hyes]
 unfold Builtin.Tuple.tupleIsExact
 refine wpAny_bind (wpAny_bind (wpAny_typeOf ht.typeIs (wpAny_pure ?_)))
 rw [if_pos (by decide)]
 refine wpAny_bind (wpAny_rule ?_)
 exact wpAny_pure ⟨_,rfl,wpAny_pure h⟩
end
end HT
namespace L2
open PySem PySem.Spec PyProof.Rows
section
variable {X:Cx}
inductive YK (x y:V) (H:Hp) (Q:VK):Prop
 | mk (a b:Addr) (xs ys:List V) (_:x=.ref a) (_:y=.ref b) (_:H a=some (.tup xs)) (_:H b=some (.tup ys)) (_:xs.length + ys.length<=sizeLine) (_:∀ p H',zC H H'->H' p=some (.tup (xs++ys))->Q (.ref p) H'):YK x y H Q
theorem jW:yj X (binaryOp .Add) YK:=by
 intro pins s σ H x y v u Q I rx ry h
 obtain ⟨a,b,xs,ys,rfl,rfl,ha,hb,hz,q⟩:=h
 by_cases hne:xs=[]
 ·subst hne
  cases rx
  cases ry
  obtain ⟨its,r1,p1,_⟩:=I.tuple (yD.of ha)
  obtain ⟨its2,r2,p2,_⟩:=I.tuple (yD.of hb)
  exact HT.cat_tup0 p1 p2 (r1.nil_iff.mpr rfl) ⟨.ref b,H,I,rfl,q b H (zC.refl _) hb⟩
 ·exact WI pins s σ H _ _ v u Q I rx ry ⟨a,b,xs,ys,rfl,rfl,ha,hb,hne,hz,q⟩
inductive jX (x:V) (lo hi:Option Int) (H:Hp) (Q:VK):Prop
 | mk (a:Addr) (xs:List V) (_:x=.ref a) (_:H a=some (.tup xs)) (_:∀ p H',zC H H'->H' p=some (.tup (zT xs lo hi))->Q (.ref p) H'):jX x lo hi H Q
theorem jY:w4 X jX:=by
 intro pins s σ H x v vl vu lo hi sl Q I rx hs pl pu h
 obtain ⟨a,xs,rfl,hx,q⟩:=h
 by_cases hw:HT.sIx xs.length 0 lo=0/\HT.sIx xs.length xs.length hi=xs.length
 ·cases rx
  obtain ⟨its,r,ht,hz⟩:=I.tuple (yD.of hx)
  have hlen:its.toArray.size=xs.length:=by rw [List.size_toArray]; exact r.length.symm
  refine ⟨"tuple",_,PyProof.Rows.slot_tuple_getitem.lookup,ht.typeIs,?_⟩
  refine HT.getItem_tuple_all ht hs pl pu (by rw [hlen]; exact hw) ⟨.ref a,H,I,rfl,q a H (zC.refl _) (hx.trans ?_)⟩
  unfold zT
  rw [hw.1,hw.2,List.drop_zero,Nat.sub_zero,List.take_length]
 ·exact XR pins s σ H _ v vl vu lo hi sl Q I rx hs pl pu ⟨a,xs,rfl,yD.of hx,hw,λp hp=>q p _ (Sh.zL hp _) zJ⟩
inductive jZ (K:PySem.W.Frag) (x:V) (vs:List V) (H:Hp) (Q:VK):Prop
 | mk (l:Addr) (bs:List Bool) (j:Nat) (_:x=.ref l) (_:vs=[.bl true]) (_:zM K H l (bs.map V.bl)) (_:bs[j]? = some true) (_:∀ m,m < j->bs[m]? = some false) (_:j < 1000) (_:Q (.int (j:Int)) H):jZ K x vs H Q
theorem g6:gX X "list.index" (jZ X.K):=by
 intro pins s σ H x vs v us Q I rx rv h
 obtain ⟨l,bs,j,rfl,rfl,hq,hj,hno,j9,q⟩:=h
 cases (show v=Value.ref l from rx)
 obtain ⟨u,rfl,ru⟩:=rv.one
 cases (show u=Value.bool true from ru)
 obtain ⟨its,rvs,pl,hz⟩:=I.list hq
 obtain rfl:=YC rvs
 obtain ⟨⟨cls,dd,data,sl⟩,ho,hc,n,hd⟩:=id pl.isList
 simp only at hc hd
 subst hc hd
 have hs:j < (bs.map Value.bool).toArray.size:=by
  rw [List.size_toArray,List.length_map]
  exact (List.getElem?_eq_some_iff.mp hj).1
 refine call_meets F.slot_list_index ⟨_,ho,rfl⟩ F.entry_list_index (F.args_list_index_2 _ _) (SeqAt.list_indexAt l _ n dd sl (.bool true) (λv=>match v with | .bool a=>a == true | _=>false) j hs (by omega) ?_ ?_) ⟨ho,λy hy=>?_,?_⟩
 ·have:=(List.getElem?_eq_some_iff.mp hj).2
  simp [this]
 ·intro m hm hlt
  have:=(List.getElem?_eq_some_iff.mp (hno m hlt)).2
  simp [this]
 ·obtain ⟨a,_,rfl⟩:=List.mem_map.mp (show y∈bs.map Value.bool by simpa using hy)
  exact SeqAt.EqAt.bool_bool a true
 ·exact ⟨.int j,H,I.tok (s.toks + 1),⟨_,rfl⟩,q⟩
end
end L2
namespace Sh
open PySem L2
inductive zU:Expr->AK->Prop where
 | int {i:Int} {j:Nat} {pos:Pos}:zU (.Constant (.int i) j pos) (.int i)
 | bool {b:Bool} {j:Nat} {pos:Pos}:zU (.Constant (.bool b) j pos) (.bool b)
 | non {j:Nat} {pos:Pos}:zU (.Constant .none j pos) .non
 | str {x:Str} {j:Nat} {pos:Pos}:zU (.Constant (.str x) j pos) (.str x)
 | tup {es:List Expr} {as:List AK} {j:Nat} {pos:Pos} (h:Paired zU es as) (l:as.length<=100):zU (.Tuple es j pos) (.tup as)
 | lst {es:List Expr} {as:List AK} {pos:Pos} (h:Paired zU es as) (l:as.length<=100):zU (.List es pos) (.lst as)
noncomputable def tK (C:Addr) (a:AK):TE:=λ_ H Q=>∀ v H',zC H H'->AV C H' v a->Q v H'
noncomputable def Wg (C:Addr) (as:List AK):TA:=λ_ H Q=>∀ vs H',zC H H'->Paired (AV C H') vs as->Q vs H'
section
variable {X:Cx} {C:Addr}
theorem YL {e:Expr} {a:AK} (h:zU e a) (es:List Expr):starEach (e :: es) X.env=(false,eval e X.env) :: starEach es X.env:=by
 cases h <;> rfl
theorem YM:∀ {e:Expr} {a:AK},zU e a->PE X e (tK C a)
 | _,_,.int=>λpins s σ H Q I h=>zK pins s σ H Q I (h _ H (zC.refl _) (.int _))
 | _,_,.bool=>λpins s σ H Q I h=>wB pins s σ H Q I (h _ H (zC.refl _) (.bool _))
 | _,_,.non=>λpins s σ H Q I h=>wC pins s σ H Q I (h _ H (zC.refl _) .non)
 | _,_,.str=>λpins s σ H Q I h=>xS pins s σ H Q I (h _ H (zC.refl _) (.str _))
 | _,_,.tup hs l=>λpins s σ H Q I h=>xi (go hs) pins s σ H Q I λvs H' sm hv=>⟨Nat.le_of_lt (zq (by have:=Paired.length hv; omega)),λp hp=>h _ _ (sm.trans (zL hp _)) (.tup zJ (zG (zL hp _) hv))⟩
 | _,_,.lst hs l=>λpins s σ H Q I h=>zn (go hs) pins s σ H Q I λvs H' sm hv=>⟨Nat.le_of_lt (zq (by have:=Paired.length hv; omega)),λp hp=>h _ _ (sm.trans (zL hp _)) (.lst zJ (zG (zL hp _) hv))⟩
where
 go:∀ {es:List Expr} {as:List AK},Paired zU es as->PA X es (Wg C as)
  | _,_,.nil=>λpos pins s σ H Q I h=>zH pos pins s σ H Q I (h [] H (zC.refl _) .nil)
  | _,_,.cons h1 t1=>λpos pins s σ H Q I h=>zA (YM h1) (go t1) (YL h1 _) pos pins s σ H Q I λv H1 s1 hv vs H2 s2 hvs=>h _ _ (s1.trans s2) (.cons (hv.same s2) hvs)
theorem vG {e l:Expr} {a:AK} (q:e=l) (h:zU e a) (es:List Expr):starEach (l :: es) X.env=(false,eval l X.env) :: starEach es X.env:=by
 subst q
 exact YL h es
theorem vH {e l:Expr} {a:AK} (q:e=l) (h:zU e a):PE X l (tK C a):=by
 subst q
 exact YM h
end
end Sh
namespace PyProof.Rows
open PySem PySem.Spec
section
variable {prog:Program} {w:World} {A:Around} {E:Value->Shared->Prop} {s:Shared}
theorem Wi:entryFor table "proto.unchain" = some Builtin.«proto.unchain»:=entryFor_of_fast (by kernel_rfl)
theorem Wj {it l e:Addr} {i:Nat} {items:Array Value} {oe:Obj} {vs:Array Value} {Q:Option Value->Shared->Prop} (hh:A.handled=some (.ref e)) (he:s.heap.get? e=some oe) (hv:oe.data=.fields vs) (h2:vs[2]? = some .none) (ne:e≠it)
  (hit:s.heap.IsListIter it l i) (hl:s.heap.IsList l items) (hx:items[i]? = none)
  (hQ:∀ h',Heap.ExtBut it s.heap h'->Q none { s with heap:=h' }):wpAny (model prog w) A (pyNext (.ref it)) Q E s:=by
 obtain ⟨o,ho,hc,hd⟩:=id hit
 obtain ⟨ol,hol,_,nl,hdl⟩:=hl
 unfold pyNext
 refine wpAny_bind (wpAny_attempt (wpAny_callSpecial?_slot (name:=Str.ofString "__next__") hit.typeIs slot_listiter_next
  (wpAny_call_entry slot_listiter_next hit.typeIs entry_listiter_next ?_ (args_listiter_next _))))
 show wpAny _ _ (field (.ref it) 0 >>= _) _ _ s
 refine wpAny_bind (wpAny_field ho hd (x:=.ref l) rfl ?_)
 show wpAny _ _ (if (Value.ref l == Value.none)=true then _ else _) _ _ s
 rw [if_neg (show ¬ ((Value.ref l == Value.none)=true) from Bool.false_ne_true)]
 show wpAny _ _ (field (.ref it) 1 >>= _) _ _ s
 refine wpAny_bind (wpAny_field ho hd (x:=.int i 0) rfl ?_)
 show wpAny _ _ (seqItems? (.ref l) >>= _) _ _ s
 refine wpAny_bind (wpAny_seqItems hol hdl ?_)
 simp only [Int.toNat_natCast,hx]
 refine wpAny_bind (wpAny_rule (wpAny_bind (wpAny_setField ho hd (by simp) ?_)))
 show wpAny _ _ (newExc (.type "StopIteration") [] >>= _) _ _ _
 refine wpAny_bind ?_
 simp only [newExc,newTuple]
 refine wpAny_bind (wpAny_newObj_type ?_ (by size_fits))
 refine wpAny_bind (m:=firstArgMember _ _) (wpAny_of_eq (a:=Value.none) (by first | rfl | (simp only [firstArgMember]; rfl)) ?_)
 refine wpAny_newObj_type ?_ (by size_fits)
 simp only [raiseNew]
 refine wpAny_bind (wpAny_handled ?_)
 rw [show A.in1.handled=some (.ref e) from hh]
 have lt:e < s.heap.objs.size:=Heap.lt_size he
 have he1:(((s.heap.update it (Obj.mapFields λx=>x.setIfInBounds 0 Value.none)).push { cls:=Value.type "tuple",data:=Data.seq #[] }).push { cls:=Value.type "StopIteration",data:=.fields (#[.ref (s.heap.update it (Obj.mapFields λx=>x.setIfInBounds 0 Value.none)).objs.size,.none,.none,.none,.bool false,.none]++ownMembersOf (.type "StopIteration") []) }).get? e=some oe:=by
  exact Heap.get?_push_of_some _ (Heap.get?_push_of_some _ ((Heap.get?_update_ne _ _ _ _ ne).trans he))
 show wpAny _ _ (if (Value.ref e != Value.ref _)=true then _ else _) _ _ _
 rw [if_pos (by
  have nn:Value.ref e≠Value.ref ((s.heap.update it (Obj.mapFields λx=>x.setIfInBounds 0 Value.none)).push { cls:=Value.type "tuple",data:=Data.seq #[] }).objs.size:=λz=>by
   injection z with z
   have l2:=Heap.lt_size ((Heap.get?_update_ne s.heap e it (Obj.mapFields λx=>x.setIfInBounds 0 Value.none) ne).trans he)
   have l3:((s.heap.update it (Obj.mapFields λx=>x.setIfInBounds 0 Value.none)).push { cls:=Value.type "tuple",data:=Data.seq #[] }).objs.size=(s.heap.update it (Obj.mapFields λx=>x.setIfInBounds 0 Value.none)).objs.size + 1:=Array.size_push ..
   exact absurd l2 (by rw [z,l3]; exact Nat.not_lt.mpr (Nat.le_succ _))
  exact bne_iff_ne.mpr nn)]
 refine wpAny_bind (wpAny_holding (wpAny_runValue (codeAny_builtin Wi ?_)))
 unfold Builtin.«proto.unchain»
 show wpAny _ _ (field (.ref e) 2 >>= _) _ _ _
 refine wpAny_bind (wpAny_field he1 hv h2 ?_)
 rw [if_pos (by decide)]
 refine wpAny_bind (wpAny_pure (wpAny_pure ?_))
 show wpAny _ _ (updateField _ 2 (.ref e) >>= λ_=>throw _) _ _ _
 unfold updateField
 refine wpAny_bind (wpAny_bind (wpAny_load (Heap.get?_push_size _ rfl) ?_))
 show wpAny _ _ (if _ then _ else _) _ _ _
 rw [if_pos (by rw [Array.size_append]; show 2 < 6 + _; omega)]
 refine wpAny_update (Heap.get?_push_size _ rfl) (wpAny_throw ?_)
 refine wpAny_bind (wpAny_isInstance (T:="StopIteration") (b:=true) ⟨_,Heap.get?_update_self _ (Heap.get?_push_size _ rfl) rfl,rfl⟩ isSubtype_stop ?_)
 refine wpAny_pure (hQ _ ?_)
 intro b o hb eb
 have e1:=(Heap.get?_update_ne s.heap b it (Obj.mapFields λx=>x.setIfInBounds 0 Value.none) hb).trans eb
 have l1:=Heap.lt_size e1
 refine (Heap.get?_update_ne _ _ _ _ (λz=>?_)).trans (Heap.get?_push_of_some _ (Heap.get?_push_of_some _ e1))
 have l3:((s.heap.update it (Obj.mapFields λx=>x.setIfInBounds 0 Value.none)).push { cls:=Value.type "tuple",data:=Data.seq #[] }).objs.size=(s.heap.update it (Obj.mapFields λx=>x.setIfInBounds 0 Value.none)).objs.size + 1:=Array.size_push ..
 exact absurd l1 (by rw [z,l3]; exact Nat.not_lt.mpr (Nat.le_succ _))
end
end PyProof.Rows
namespace L2
open PySem PySem.Spec PyProof.Rows
structure x8 (x:Addr) (k:Nat) (A:Around):Prop where
 hd:A.handled=some (.ref x)
 dp:A.depth + 3 * k + 5 < recursionLimit
 un:A.units + 16 * k + 200 < cLine
theorem x8.deeper {x:Addr} {k:Nat} {A:Around} (r:x8 x (k + 1) A) (env:Env):x8 x k (A.deeper env):=
 ⟨r.hd,by have:=r.dp; show A.depth + 1 + 3 * k + 5 < _; omega,by have:=r.un; show A.units + 3 + 16 * k + 200 < _; omega⟩
theorem x8.depth {x:Addr} {k:Nat} {A:Around} (r:x8 x k A):A.depth < recursionLimit:=by have:=r.dp; omega
theorem x8.units {x:Addr} {k:Nat} {A:Around} (r:x8 x k A):A.units + 64 < cLine:=by have:=r.un; omega
theorem x8.mono {x:Addr} {j k:Nat} {A:Around} (r:x8 x k A) (h:j<=k):x8 x j A:=⟨r.hd,by have:=r.dp; omega,by have:=r.un; omega⟩
structure uK (P:Program) (w:World) (K:PySem.W.Frag) (mg:Str->Option Value) (base:Heap) (CX:xL) (k:Nat) (f:Addr) (fd:FuncData) (ps:List Str) (sp:Addr->Sp):Prop where
 len:∀ x vs H Q E,sp x vs H Q E->vs.length=ps.length
 run:∀ (x:Addr) (A:Around) (outer:List Env) (s:Shared) (H:Hp) (args:Args) (us:List Value) (vs:List V) (Q:VK) (E:XK),x8 x k A->y6 P w K mg base A outer s H->BindsTo s fd args (ps.zip us)->zN vs us->sp x vs H Q E->
  codeAny (model P w) A (.call (.ref f) args) (CR CX outer P w H s Q E) s
section
variable {X:Cx} {CX:xL} {k:Nat} {f C xe0:Addr} {fd:FuncData} {ps:List Str} {sp:Addr->Sp} {dvs:List V} {ds:List Value} {E:XK} {x m:Str} {p pos apos:Pos} {e o:Expr} {es:List Expr} {ta:TE} {t:TA}
theorem Wk {pins:List (Addr × Obj)} {σ:St} {H:Hp} {s:Shared} {Q:VK} {us:List Value} {vs:List V} (F:uK X.prog X.w X.K X.mg X.base CX k f fd ps sp) (hr:x8 xe0 k X.A) (hb:xF X.K fd ps ds) (hd:zN dvs ds) (hx:v8 CX X E)
  (I:zE X pins σ H s) (r:zN vs us) (h:sp xe0 (vs++dvs) H Q E):wpAny (model X.prog X.w) X.A (call (.ref f) us) (EP X pins σ Q) X.xe s:=by
 have r2:zN (vs++dvs) (us++ds):=r.append hd
 have hl:(us++ds).length=ps.length:=by rw [<- r2.length]; exact F.len _ _ _ _ _ h
 refine wpAny_call (codeAny_mono (F.run xe0 X.A X.stack s H ⟨us,[]⟩ (us++ds) (vs++dvs) Q E hr I.env0 (hb s us I.kIn hl) r2 h) λr s' hq=>?_)
 cases r with
 | error e=>exact hx pins σ H s e s' I hq
 | ok fl=>
  cases fl with
  | ret u=>exact I.after hq
  | next=>exact False.elim hq
  | brk=>exact False.elim hq
  | cont=>exact False.elim hq
theorem Wl (F:uK X.prog X.w X.K X.mg X.base CX k f fd ps sp) (hr:x8 xe0 k X.A) (hg:Gl X x) (hm:X.mg x=some (.ref f)) (hk:PySem.W.keepIn X.K (.ref f)=true) (hb:xF X.K fd ps ds) (hd:zN dvs ds) (hx:v8 CX X E)
  (ha:PA X (e :: es) t) (hdb:(x == ("__debug__" : Str))=false:=by decide) (he:starEach (e :: es) X.env=(false,eval e X.env) :: starEach es X.env:=by rfl) (hpl:(backTo pos (starEach es X.env)).any (·.1)=false:=by rfl) :
  PE X (.Call (.Name x p) (e :: es) [] pos) (u8 (sp xe0) dvs E t):=by
 intro pins s σ H Q I h
 refine wpAny_Call_Name_kw (vv I hg hm ?_ hdb)
 refine PySem.W.callWith_K (h₀:=X.base) I.ok.mod.kin hk (zb (ha pos pins s σ H _ I h) λus s1 ⟨vs,H1,I1,r,q⟩=>⟨I1.kIn,?_⟩) he hpl
 exact Wk F hr hb hd hx I1 r q
end
noncomputable def wn (CX:xL) (P:Program) (w:World) (K:PySem.W.Frag) (mg:Str->Option Value) (base:Heap) (N:List Str) (qual:Str) (scope:Scope) (f:Addr) (cd:Value) (A:Around) (outer:List Env) (s:Shared) (H:Hp) (E:XK):Cx where
 prog:=P
 w:=w
 K:=K
 mg:=mg
 base:=base
 A:=A.deeper (envOfC qual scope s.heap.objs.size f cd)
 N:=N
 s₀:=s
 H₀:=H
 env:=envOfC qual scope s.heap.objs.size f cd
 outer:=outer
 stack:=envOfC qual scope s.heap.objs.size f cd :: outer
 ex:=[]
 calm:=false
 fn:=λ_=>true
 pn:=[]
 xe:=λe s'=>wpAny (model P w) (A.deeper (envOfC qual scope s.heap.objs.size f cd)) (leaving (envOfC qual scope s.heap.objs.size f cd) e) (λ_ s''=>CX outer H s E e s'') (λe' s''=>CX outer H s E e' s'') s'
theorem Wm {CX:xL} {P:Program} {w:World} {K:PySem.W.Frag} {mg:Str->Option Value} {base:Heap} {N ps:List Str} {qual:Str} {scope:Scope} {f:Addr} {cd:Value} {A:Around} {outer:List Env} {s s1:Shared} {H:Hp} {E:XK} {us:List Value} {vs:List V}
  (S:yS N ps scope) (e0:y6 P w K mg base A outer s H) (hl:vs.length=ps.length) (r:zN vs us)
  (x:InCallC s s.heap.objs.size (bindL (envOfC qual scope s.heap.objs.size f cd).kindOf (ps.zip us) λ_=>none) (cellsFrom (s.heap.objs.size + 1) scope.names []) (bindC (envOfC qual scope s.heap.objs.size f cd).kindOf (ps.zip us) λ_=>none) s1) :
  zE (wn CX P w K mg base N qual scope f cd A outer s H E) [] (xT N vs) H s1:=by
 have hpl:ps.length<=N.length:=by have:=congrArg List.length S.pre; rw [List.length_take] at this; omega
 obtain ⟨h1,tk,rfl,hk⟩:=x.done
 have noA:∀ b:Addr,b∉(wn CX P w K mg base N qual scope f cd A outer s H E).ex:=λb z=>absurd (show b∈([]:List Addr) from z) (by simp)
 refine ⟨⟨e0.mod,S.kind,rfl,rfl,Nat.le_refl _,λy z c h1 h2=>?_,λy hy=>?_,λy c _ h=>?_,(λz=>nomatch z),Around.frames_deeper e0.frames,.inr ⟨rfl,rfl⟩,λb z=>absurd z (noA b),e0.bs,e0.bsz,λb _ _=>noA b,λb z=>absurd z (noA b),e0.funs,e0.frf⟩,
  rfl,e0.bare,Un.kept hk,⟨_,x.toInCall.ns,λi y v h1 h2 h3=>?_⟩,λy c h=>⟨_,x.cell y c h⟩,e0.hok.fresh (Nat.le_refl _),λy c h=>?_,λp hp=>absurd (show p∈([]:List (Addr × Obj)) from hp) (by simp),e0.hok.kept hk,?_⟩
 ·exact name_of_addr x.apart (PySem.mem_of_lookup h1) (PySem.mem_of_lookup h2)
 ·have hy:scope.names.lookup y=some .cell\/scope.names.lookup y=some .free:=hy
  rcases hy with hy | hy
  ·exact qC hy
  ·exact absurd rfl (S.nofree _ (PySem.mem_of_lookup hy))
 ·exact Nat.le_of_lt (x.above y c (PySem.mem_of_lookup h))
 ·have hi:i < vs.length:=by
   unfold xT at h2
   by_cases hi:i < vs.length
   ·exact hi
   ·rw [List.getElem?_append_right (by simpa using hi)] at h2
    rw [List.getElem?_replicate] at h2
    split at h2 <;> cases h2
  have ha:vs[i]? = some v:=by
   unfold xT at h2
   rw [List.getElem?_append_left (by simpa using hi),List.getElem?_map] at h2
   cases e:vs[i]? with
   | none=>rw [e] at h2; cases h2
   | some a=>rw [e] at h2; cases h2; rfl
  obtain ⟨u,hu,rv⟩:=r.get ha
  have hp:ps[i]? = some y:=by
   rw [<- S.pre,List.getElem?_take_of_lt (by omega)]; exact h1
  have ndP:ps.Nodup:=by rw [<- S.pre]; exact S.nd.sublist (List.take_sublist _ _)
  refine ⟨u,rv,?_⟩
  rcases S.par y (List.mem_of_getElem? hp) with k | k
  ·exact .inl ⟨k,gP ndP hp hu k⟩
  ·obtain ⟨c,e⟩:=qC (n:=s.heap.objs.size + 1) k
   refine .inr ⟨.inl k,c,e,?_⟩
   have q:=x.cell y c e
   rw [gQ ndP hp hu (by show scope.names.lookup y≠_; rw [k]; decide)] at q
   exact q
 ·exact e0.hok.fresh (Nat.le_of_lt (x.above y c (PySem.mem_of_lookup h)))
 ·unfold xT
  show _=N.length
  rw [List.length_append,List.length_map,List.length_replicate]
  omega
theorem Wn {CX:xL} {P:Program} {w:World} {K:PySem.W.Frag} {mg:Str->Option Value} {base:Heap} {k:Nat} {f:Addr} {name qual:Str} {params:Arguments} {body:List Stmt} {scope:Scope} {dV kV doc pm cdv ct oc:Value} {an od:Option Addr}
  {osl:Array (Option Value)} {N ps:List Str} {sp:Addr->Sp} (lk:K.lookup f=some ⟨oc,od,.func (PySem.W.fnOf name qual params body scope dV kV doc pm an cdv ct),osl⟩) (hcd:PySem.W.codeIn K cdv qual=true) (S:yS N ps scope)
  (len:∀ x vs H Q E,sp x vs H Q E->vs.length=ps.length)
  (hbody:∀ (x:Addr) (A:Around) (outer:List Env) (s:Shared) (H:Hp) (vs:List V) (Q:VK) (E:XK),x8 x k (A.deeper (envOfC qual scope s.heap.objs.size f cdv))->sp x vs H Q E->
   ∃ t,yi (wn CX P w K mg base N qual scope f cdv A outer s H E) body t/\t { nx:=λ_ H'=>Q .non H',rt:=Q } (xT N vs) H) :
  uK P w K mg base CX (k + 1) f (PySem.W.fnOf name qual params body scope dV kV doc pm an cdv ct) ps sp:=by
 refine ⟨len,λx A outer s H args us vs Q E hr e0 hb r hsp=>?_⟩
 have hl:=len _ _ _ _ _ hsp
 have KX:K.In s.heap:=e0.mod.kin.keeps λb o e=>(e0.bs b o e).1
 have lim:s.heap.NoLimit:=e0.mod.nolimit.keeps λb o e=>(e0.bs b o e).1
 have hkind:∀ y∈ps.zip us,scope.names.lookup y.1=some .local\/(scope.names.lookup y.1=some .cell/\((cellsFrom (s.heap.objs.size + 1) scope.names []).lookup y.1).isSome=true):=λ⟨n,v⟩ hy=>by
  rcases S.par n (List.of_mem_zip hy).1 with q | q
  ·exact .inl q
  ·exact .inr ⟨q,PySem.W.cellsFrom_some _ _ _ (.inl q)⟩
 refine codeAny_call_function hr.depth (KX _ _ lk) rfl S.co S.gen rfl (PySem.W.codeRec_of KX hcd) (hb _ _ _ _ ?_)
 refine wpAny_newFunctionEnv_cells S.kind hkind λenv he s1 y=>?_
 subst he
 refine ⟨lim.keeps y.toInCall.keep,codeAny_func ?_⟩
 obtain ⟨t,ht,hq⟩:=hbody x A outer s H vs Q E (hr.deeper _) hsp
 have I:zE (wn CX P w K mg base N qual scope f cdv A outer s H E) [] (xT N vs) H s1:=Wm S e0 hl r y
 refine wpAny_mono (ht [] s1 (xT N vs) H _ I hq) (λfl s' hs=>?_) λe s' hs=>hs
 have fin:∀ {σ':St} {H':Hp} {v:V} {u:Value},zE (wn CX P w K mg base N qual scope f cdv A outer s H E) [] σ' H' s'->zV v u->Q v H'->CE outer P w H s Q u s':=
  λ{σ' H' v u} J rv q=>⟨v,H',J.os,J.bare,J.base,J.hok,rv,q⟩
 cases fl with
 | ret u=>
  obtain ⟨v,σ',H',J,rv,q⟩:=hs
  exact fin J rv q
 | next=>
  obtain ⟨σ',H',J,q⟩:=hs
  exact fin (v:=V.non) (u:=Value.none) J rfl q
 | brk=>
  obtain ⟨_,_,_,q⟩:=hs
  exact False.elim q
 | cont=>
  obtain ⟨_,_,_,q⟩:=hs
  exact False.elim q
section
variable {P:Program} {w:World} {K:PySem.W.Frag} {mg:Str->Option Value} {base:Heap}
theorem yT.okH {nm qual:Str} {st:Stmt} {f:Addr} {fd:FuncData} {N ps:List Str} {k:Nat} {sp:Addr->Sp} (F:yT K nm qual st f fd) (S:yS N ps (zQ st)) (len:∀ x vs H Q E,sp x vs H Q E->vs.length=ps.length)
  (hbody:∀ (x:Addr) (cdv:Value) (A:Around) (outer:List Env) (s:Shared) (H:Hp) (vs:List V) (Q:VK) (E:XK),x8 x k (A.deeper (envOfC qual (zQ st) s.heap.objs.size f cdv))->sp x vs H Q E->
   ∃ t,yi (wn zX P w K mg base N qual (zQ st) f cdv A outer s H E).nox (yQ st) t/\t { nx:=λ_ H'=>Q .non H',rt:=Q } (xT N vs) H):uK P w K mg base zX (k + 1) f fd ps sp:=by
 obtain ⟨oc,od,kV,doc,pm,an,cdv,ct,osl,rfl,lk,hcd⟩:=F.ex
 refine Wn lk hcd S len λx A outer s H vs Q E hr hsp=>?_
 obtain ⟨t,h,q⟩:=hbody x cdv A outer s H vs Q E hr hsp
 exact ⟨t,h.nox,q⟩
end
structure ud (P:Program) (w:World) (K:PySem.W.Frag) (mg:Str->Option Value) (base:Heap) (x:Str) (ps:List Str) (k:Nat) (sp:Addr->Sp):Prop where
 ex:∃ f fd,uK P w K mg base zX k f fd ps sp/\mg x=some (.ref f)/\PySem.W.keepIn K (.ref f)=true/\xF K fd ps []
theorem ud.mono {P:Program} {w:World} {K:PySem.W.Frag} {mg:Str->Option Value} {base:Heap} {x:Str} {ps:List Str} {j k:Nat} {sp:Addr->Sp} (F:ud P w K mg base x ps j sp) (h:j<=k:=by decide):ud P w K mg base x ps k sp:=by
 obtain ⟨f,fd,⟨l,r⟩,b,c,d⟩:=F.ex
 exact ⟨f,fd,⟨l,λy A outer s H args us vs Q E hr=>r y A outer s H args us vs Q E (hr.mono h)⟩,b,c,d⟩
theorem Wo {X:Cx} {x:Str} {y:Addr} {ps:List Str} {k:Nat} {sp:Addr->Sp} {e:Expr} {es:List Expr} {t:TA} {p pos:Pos} (F:ud X.prog X.w X.K X.mg X.base x ps k sp) (hr:zd k X.A) (hg:Gl X x) (ha:PA (X.mark y) (e :: es) t)
  (hdb:(x == ("__debug__" : Str))=false:=by decide) (he:starEach (e :: es) X.env=(false,eval e X.env) :: starEach es X.env:=by rfl) (hpl:(backTo pos (starEach es X.env)).any (·.1)=false:=by rfl) :
  PE (X.mark y) (.Call (.Name x p) (e :: es) [] pos) (u8 (sp y) [] E0 t):=by
 obtain ⟨f,fd,a,b,c,d⟩:=F.ex
 exact Wl (X:=X.mark y) (xe0:=y) a ⟨rfl,hr.dp,hr.un⟩ hg b c d .nil qG ha hdb he hpl
structure g8 (hx:Addr) (P:Program) (w:World) (K:PySem.W.Frag) (tg:Expr) (J:It) (fp:List Addr) (it:Addr) (tn:Nat->Heap->Prop):Prop where
 mem:it∈fp
 obj:∀ i h,tn i h->∀ b∈fp,∃ o,h.get? b=some o/\∀ v,o.data≠.cell v
 keep:∀ i h h',tn i h->(∀ b∈fp,∀ o,h.get? b=some o->h'.get? b=some o)->tn i h'
 item:∀ (X:Cx),X.prog=P->X.w=w->X.K=K->X.A.handled=some (.ref hx)->∀ (i:Nat) (pins:List (Addr × Obj)) (s:Shared) (σ:St) (H:Hp) (E:Value->Shared->Prop),zE X pins σ H s->(∀ b∈fp,zp X pins H b)->tn i s.heap->J.go i H->
  wpAny (model P w) X.A (pyNext (.ref it)) (λr s1=>∃ u,r=some u∧
   wpAny (model P w) X.A (letOwnedTupleGo tg (.ref it) u) (λ_ s2=>∃ x H',zE X pins σ H' s2/\zV x u/\J.yld i H x H'/\tn (i + 1) s2.heap/\∀ b∈fp,H' b=none) E s1) E s
 done:∀ (X:Cx),X.prog=P->X.w=w->X.K=K->X.A.handled=some (.ref hx)->∀ (i:Nat) (pins:List (Addr × Obj)) (s:Shared) (σ:St) (H:Hp) (E:Value->Shared->Prop),zE X pins σ H s->(∀ b∈fp,zp X pins H b)->tn i s.heap->J.stop i H->
  wpAny (model P w) X.A (pyNext (.ref it)) (λr s1=>r=none/\zE X pins σ H s1) E s
 self:∀ (A:Around) (i:Nat) (s:Shared) (Q:Value->Shared->Prop) (E:Value->Shared->Prop),tn i s.heap->Q (.ref it) s->wpAny (model P w) A (pyIter (.ref it)) Q E s
noncomputable def g9 (hx:Addr) (X:Cx) (pins:List (Addr × Obj)) (σ:St) (tg:Expr) (R:It->Hp->Prop) (itv:Value) (s2:Shared):Prop:=
 ∃ (it:Addr) (fp:List Addr) (tn:Nat->Heap->Prop) (J:It) (H':Hp),itv=.ref it/\zE X pins σ H' s2/\g8 hx X.prog X.w X.K tg J fp it tn/\tn 0 s2.heap/\(∀ b∈fp,zp X pins H' b)/\R J H'
noncomputable def YN (hx:Addr) (X:Cx) (tg iter:Expr) (wi:TI):Prop:=
 ∀ (pins:List (Addr × Obj)) (s:Shared) (σ:St) (H:Hp) (R:It->Hp->Prop),zE X pins σ H s->wi σ H R->
  wpAny (model X.prog X.w) X.A (eval iter X.env) (λv s1=>wpAny (model X.prog X.w) X.A (pyIter v) (g9 hx X pins σ tg R) X.xe s1) X.xe s
noncomputable def uL (K:PySem.W.Frag) (x a:Addr):It:={ uv K a with stop:=λi H=>(uv K a).stop i H/\∃ C,H x=some (y8 x C) }
noncomputable def Wp (K:PySem.W.Frag) (xe:Addr) (tl:TE):TI:=λσ H R=>tl σ H λx H1=>∃ a,x=.ref a/\(∃ xs,zM K H1 a xs)/\R (uL K xe a) H1
theorem Wq {hx:Addr} {P:Program} {w:World} {K:PySem.W.Frag} {tg:Expr} (a it:Addr):g8 hx P w K tg (uL K hx a) [it] it (λi h=>h.IsListIter it a i) where
 mem:=by simp
 obj:=λi h st b hb=>by
  have e:b=it:=by simpa using hb
  subst e
  obtain ⟨o,e,c,d⟩:=st
  exact ⟨o,e,λv z=>by rw [d] at z; cases z⟩
 keep:=λi h h' st k=>st.at λo e=>k it (by simp) o e
 item:=by
  intro X hP hw hK hc i pins s σ H E I hf st hg
  subst hP hw hK
  obtain ⟨xs,x,hq,hx⟩:=hg
  obtain ⟨its,rv,p,hz⟩:=I.list hq
  obtain ⟨u,hu,ru⟩:=rv.get hx
  obtain ⟨f0,f1,f2,f3,f4,f5⟩:=hf it (by simp)
  refine wpAny_pyNext_list_item st p.isList (x:=u) (by simpa using hu) λh' st' sb=>?_
  have I1:zE X pins σ H { s with heap:=h' }:=I.turned (t':=s.toks) (λb o hb e=>(sb.2 b hb).trans e) f0 f1 f3 f4 f5
  obtain ⟨o,e,c,d⟩:=id st'
  exact ⟨u,rfl,j4 (s:={ s with heap:=h' }) e c d (by decide) ⟨x,H,I1,ru,⟨rfl,λys hy=>by rw [I.list_inj hy hq]; exact hx⟩,st',λb hb=>(hf b hb).1⟩⟩
 done:=by
  intro X hP hw hK hc i pins s σ H E I hf st hg
  subst hP hw hK
  obtain ⟨⟨xs,hq,hx'⟩,C,hC⟩:=hg
  obtain ⟨its,rv,p,hz⟩:=I.list hq
  obtain ⟨f0,f1,f2,f3,f4,f5⟩:=hf it (by simp)
  have hl:=rv.length
  obtain ⟨⟨oe,vs,h1,h2,h3,h4⟩,_⟩:=(show yu X.prog X.w H s.heap hx (y8 hx C) from I.hok hx _ hC)
  have ne:hx≠it:=λz=>by rw [z,f0] at hC; cases hC
  exact Wj hc h1 h3 h4 ne st p.isList (by simp; omega) λh' eb=>⟨rfl,I.turned (t':=s.toks) (λb o hb e=>eb b o hb e) f0 f1 f3 f4 f5⟩
 self:=λ_ _ _ _ _ st h=>wpAny_pyIter_listiter st h
section
variable {X:Cx} {tg:Expr}
theorem Wr {hx:Addr} {l:Expr} {tl:TE} (hl:PE X l tl):YN hx X tg l (Wp X.K hx tl):=by
 intro pins s σ H R I h
 refine zb (hl pins s σ H _ I h) λv s1 ⟨x,H1,I1,r1,q1⟩=>?_
 obtain ⟨a,e,⟨xs,hq⟩,q⟩:=q1
 subst e
 cases r1
 obtain ⟨its,rv,p,hz⟩:=I1.list hq
 refine wpAny_pyIter_list p.isList ?_
 refine ⟨s1.heap.objs.size,[s1.heap.objs.size],_,_,H1,rfl,I1.kept (t':=s1.toks) λb o e=>Heap.get?_push_of_some _ e,Wq a _,⟨_,Heap.get?_push_size _ rfl,rfl,rfl⟩,λb hb=>?_,q⟩
 have e:b=s1.heap.objs.size:=by simpa using hb
 subst e
 exact I1.fpOk (Nat.le_refl _) (I1.hok.fresh (Nat.le_refl _))
end
section
variable {X:Cx} {scope:Scope} {own:List Str} {caps:List (Nat × Str)} {elt tg iter cond:Expr} {wi:TI} {g:TG} {tc:TT} {te:TE} {pos:Pos}
theorem Ws {hx:Addr} {pins:List (Addr × Obj)} {σ:St} {H2:Hp} {s2:Shared} {it:Addr} {fp:List Addr} {tn:Nat->Heap->Prop} {J:It} {W:Nat->Nat->List V->St->Hp->Prop} {m0:Nat} {Q:VK} {E:Value->Shared->Prop} {RR:Value->Addr->Result->Shared->Prop}
  (B:vS X scope own caps) (hc:X.A.handled=some (.ref hx)) (hg:∀ C s₀ H₀ ex,PG (yd X scope (zR own caps) C s₀ H₀ ex) tg g) (ht:∀ C s₀ H₀ ex,PT (yd X scope (zR own caps) C s₀ H₀ ex) cond tc) (he:∀ C s₀ H₀ ex,PE (yd X scope (zR own caps) C s₀ H₀ ex) elt te)
  (I2:zE X pins σ H2 s2) (T:g8 hx X.prog X.w X.K tg J fp it tn) (st2:tn 0 s2.heap) (f2:∀ b∈fp,zp X pins H2 b) (w0:W 0 m0 [] (xV own caps σ) H2)
  (turn:∀ i m ys σ1 H,W i m ys σ1 H->(J.stop i H/\∀ p,H p=none->Q (.ref p) (upd H p (.lst ys)))∨
   (J.go i H/\ys.length < sizeLine/\∃ (N:V->St->Hp->Prop) (N0:St->Hp->Prop),(∀ y σ' H',N y σ' H'->∃ m',m' < m/\W (i + 1) m' (ys++[y]) σ' H')/\(∀ σ' H',N0 σ' H'->∃ m',m' < m/\W (i + 1) m' ys σ' H')∧
    ∀ x H',J.yld i H x H'->g x σ1 H' λσ2 H2=>tc σ2 H2 λb H3=>if b=true then te σ2 H3 λy H4=>N y σ2 H4 else N0 σ2 H3))
  (hRR:∀ D C s6 H6 ys m,s6.heap.Ns C m->s2.heap.objs.size<=C->(∀ h',Heap.SameBut C s6.heap h'->zE X pins σ (upd H6 D (.lst ys)) { s6 with heap:=h' })->upd H6 D (.lst ys) C=none->Q (.ref D) (upd H6 D (.lst ys))->RR (.ref D) C (.ok .next) s6) :
  wpAny (model X.prog X.w) X.A (newList []) (λacc s3=>wpAny (model X.prog X.w) X.A (newFunctionEnv scope X.env.globals (xP scope X.env) [] X.env.qual none .none (some X.env)) (λcenv s4=>
   codeAny (model X.prog X.w) X.A (.compStart (.ListComp elt [⟨tg,iter,[cond],0⟩] scope pos) 0 (.ref it) acc { cenv with scope:=relabel scope X.env }) (RR acc cenv.locals) s4) E s3) E s2:=by
 have hlt:∀ b∈fp,b < s2.heap.objs.size:=λb hb=>by
  obtain ⟨o,ho,_⟩:=T.obj _ _ st2 b hb
  exact Heap.lt_size ho
 refine wpAny_newObj_type (wpAny_newFunctionEnv B.ncell (λy hy=>by simp at hy) (λh4 hns hsb=>?_) B.kind)
 dsimp only at hns hsb |-
 generalize hP:s2.heap.push { cls:=.type "list",dict:=none,data:=.seq ([]:List Value).toArray }=HD at hns hsb |-
 have hCD:HD.objs.size=s2.heap.objs.size + 1:=by rw [<- hP,Heap.size_push]
 have hDC:s2.heap.objs.size≠HD.objs.size:=by omega
 have hle:s2.heap.objs.size<=HD.objs.size:=by omega
 have old:∀ b o,s2.heap.get? b=some o->h4.get? b=some o:=λb o eb=>by
  have hb:=Heap.lt_size eb
  exact hsb.extBut b o (Nat.ne_of_lt (Nat.lt_of_lt_of_le hb hle)) (Heap.get?_push_of_some _ (by rw [<- hP]; exact Heap.get?_push_of_some _ eb))
 have hD4:h4.get? s2.heap.objs.size=some { cls:=.type "list",data:=.seq ([]:List Value).toArray 0 }:=
  hsb.extBut _ _ hDC (Heap.get?_push_of_some _ (by rw [<- hP]; exact Heap.get?_push_size _ rfl))
 have IY:zE (yd X scope (zR own caps) HD.objs.size s2 H2 fp) [] (xV own caps σ) H2 { s2 with heap:=h4,toks:=s2.toks + ([]:List (Str × Value)).length }:=
  Zl B I2 f2 (by omega) hlt hns old rfl I2.bare
 have stat:∀ {H':Hp},(∀ b∈fp,H' b=none)->∀ b∈fp,zp (yd X scope (zR own caps) HD.objs.size s2 H2 fp) [] H' b:=λ{H'} hn b hb=>by
  have hb2:=hlt b hb
  refine ⟨hn b hb,?_,λz=>?_,.inl hb,λx c ec=>(f2 b hb).2.2.2.2.1 x c (xk B.free ec).1,λp hp=>by simp at hp⟩
  ·exact Nat.ne_of_lt (Nat.lt_of_lt_of_le hb2 hle)
  ·rcases List.mem_cons.mp (I2.stkSub b z) with e | z
   ·exact (f2 b hb).2.1 e
   ·exact (f2 b hb).2.2.1 z
 have statD:∀ {H':Hp},H' s2.heap.objs.size=none->zp (yd X scope (zR own caps) HD.objs.size s2 H2 fp) [] H' s2.heap.objs.size:=λ{H'} hn=>by
  refine ⟨hn,hDC,λz=>?_,.inr (Nat.le_refl _),λx c ec z=>?_,λp hp=>by simp at hp⟩
  ·obtain ⟨_,o,ho,_⟩:=I2.stack.mem z
   exact absurd (Heap.lt_size ho) (Nat.lt_irrefl _)
  ·obtain ⟨v,o,ho,_⟩:=I2.cell x c (xk B.free ec).1
   rw [z] at ho
   exact absurd (Heap.lt_size ho) (Nat.lt_irrefl _)
 have neD:∀ b∈fp,b≠s2.heap.objs.size:=λb hb=>Nat.ne_of_lt (hlt b hb)
 have IY':zE (yd X scope (zR own caps) HD.objs.size s2 H2 fp) [(s2.heap.objs.size,zu [] 0)] (xV own caps σ) H2 { s2 with heap:=h4,toks:=s2.toks + ([]:List (Str × Value)).length }:=
  IY.pins_of λp hp=>by
   rw [List.mem_singleton.mp hp]
   have z:=statD (I2.hok.fresh (Nat.le_refl _))
   exact ⟨hD4,z.1,z.2.1,z.2.2.1,λv z=>by cases z⟩
 have loop:∀ s3:Shared,s3={ s2 with heap:=h4,toks:=s2.toks + ([]:List (Str × Value)).length }->
   codeAny (model X.prog X.w) X.A (.compLoop (.ListComp elt [⟨tg,iter,[cond],0⟩] scope pos) 0 (.ref it) (.ref s2.heap.objs.size) (compEnvC scope (xP scope X.env) HD.objs.size X.env))
    (RR (.ref s2.heap.objs.size) HD.objs.size) s3:=by
  rintro s3 rfl
  refine X0 (λn s'=>∃ i ys σ' H' its k,zE (yd X scope (zR own caps) HD.objs.size s2 H2 fp) [(s2.heap.objs.size,zu its k)] σ' H' s'/\tn i s'.heap/\(∀ b∈fp,H' b=none)∧
   zN ys its/\ys.length<=sizeLine/\W i n ys σ' H') ?_ m0 ⟨0,[],_,H2,[],0,IY',T.keep _ _ _ st2 λb hb o eb=>old b o eb,λb hb=>(f2 b hb).1,.nil,Nat.zero_le _,w0⟩
  rintro n s5 ⟨i,ys,σ5,H5,its,k,I5,st5,fr5,rv5,hz5,w5⟩
  have stat5:∀ {H':Hp},(∀ b∈fp,H' b=none)->∀ b∈fp,zp (yd X scope (zR own caps) HD.objs.size s2 H2 fp) [(s2.heap.objs.size,zu its k)] H' b:=λ{H'} hn b hb=>by
   obtain ⟨a1,a2,a3,a4,a5,_⟩:=stat hn b hb
   refine ⟨a1,a2,a3,a4,a5,λp hp=>?_⟩
   have hp':p∈[(s2.heap.objs.size,zu its k)]:=hp
   rw [List.mem_singleton.mp hp']
   exact Ne.symm (neD b hb)
  rcases turn i n ys σ5 H5 w5 with ⟨stop,qn⟩ | ⟨go,hlen,N,N0,hN,hN0,step⟩
  ·refine zb (T.done (yd X scope (zR own caps) HD.objs.size s2 H2 fp) rfl rfl rfl hc i _ s5 σ5 H5 _ I5 (stat5 fr5) st5 stop) λr s6 ⟨hr,I6⟩=>?_
   subst hr
   obtain ⟨pD1,pD2,_⟩:=I6.pin (s2.heap.objs.size,zu its k) (List.mem_append_right _ List.mem_cons_self)
   obtain ⟨m6,hn6,_⟩:=I6.loc
   refine hRR _ _ s6 H5 ys m6 hn6 (by omega) (λh' sb=>?_) (by rw [zi (Ne.symm hDC)]; exact I6.free) (qn _ pD2)
   have hC5:H5 HD.objs.size=none:=I6.free
   have nb:∀ b o,s2.heap.get? b=some o->b≠HD.objs.size/\b≠s2.heap.objs.size:=λb o eb=>by
    have hb:=Heap.lt_size eb
    exact ⟨Nat.ne_of_lt (Nat.lt_of_lt_of_le hb hle),Nat.ne_of_lt hb⟩
   have nt:∀ b o,H5 b=some o->b≠s2.heap.objs.size:=λb o eb z=>by rw [z] at eb; rw [show H5 s2.heap.objs.size=none from pD2] at eb; cases eb
   have un:Un (yw X.stack) fp H2 (upd H5 s2.heap.objs.size (.lst ys)) s2.heap h':=
    ⟨λb o eb n1 n2 n3=>sb.extBut b o (nb b o eb).1 (I6.base.keep b o eb n1 n2 n3),
     λb o eb n1 n2 n3=>by
      obtain ⟨sl,e1⟩:=I6.base.slot b o eb n1 n2 n3
      exact ⟨sl,sb.extBut b _ (nb b o eb).1 e1⟩,
     λb o eb n1 n3=>by
      rw [zi (nb b o eb).2]
      exact I6.base.free b o eb n1 n3,
     λb o eb n3=>by
      obtain ⟨o',e1⟩:=I6.base.there b o eb n3
      exact ⟨o',sb.extBut b _ (nb b o eb).1 e1⟩,
     λb xs eb=>by
      have e1:=I6.base.tups b xs eb
      rw [zi (nt b _ e1)]
      exact e1,
     λb o u eb=>by
      have e1:=I6.base.frzs b o u eb
      rw [zi (nt b _ e1)]
      exact e1,
     λb ps eb=>by
      obtain ⟨more,e1⟩:=I6.base.tbls b ps eb
      refine ⟨more,?_⟩
      rw [zi (nt b _ e1)]
      exact e1⟩
   have ok5:yW X.prog X.w (upd H5 s2.heap.objs.size (.lst ys)) h':=λb u eb=>by
    by_cases hb:b=s2.heap.objs.size
    ·subst hb
     rw [zJ] at eb
     cases eb
     exact ⟨hz5,its,k,rv5,sb.extBut _ _ hDC pD1⟩
    ·rw [zi hb] at eb
     refine (I6.hok b u eb).stay (λc v hcv ev=>sb.extBut c v ?_ ev) (λc ec=>by rw [zi (nt c _ ec)]; exact ec) λc xs ec=>by rw [zi (nt c _ ec)]; exact ec
     rintro rfl
     rcases hcv with z | z
     ·rw [<- z,hC5] at eb
      cases eb
     ·rw [hC5] at z
      cases z
   exact I2.call' (s':={ s6 with heap:=h' }) (ch:=fp) I6.os un ok5 I6.bare λb hb=>⟨(f2 b hb).2.2.2.1,(f2 b hb).2.1,(f2 b hb).2.2.2.2.1,(f2 b hb).2.2.2.2.2⟩
  ·refine zb (T.item (yd X scope (zR own caps) HD.objs.size s2 H2 fp) rfl rfl rfl hc i _ s5 σ5 H5 _ I5 (stat5 fr5) st5 go) λr s6 ⟨u,hr,h6⟩=>?_
   subst hr
   refine zb h6 λ_ s7 ⟨x,H7,I7,r7,y7,st7,fr7⟩=>?_
   have I7':=I7.pinned (stat5 fr7) (T.obj _ _ st7)
   refine zb (hg HD.objs.size s2 H2 fp _ s7 σ5 H7 x u _ I7' r7 (step x H7 y7)) λ_ s8 ⟨σ8,H8,I8,q8⟩=>?_
   refine zb (ht HD.objs.size s2 H2 fp _ s8 σ8 H8 _ I8 q8) λok sT ⟨HT,IT,qT⟩=>?_
   cases ok with
   | false=>
    obtain ⟨m',hm',w9⟩:=hN0 σ8 HT qT
    refine ⟨m',hm',i + 1,ys,σ8,HT,its,k,IT.unpinned,?_,λb hb=>?_,rv5,hz5,w9⟩
    ·refine T.keep _ _ _ st7 λb hb o eb=>?_
     exact (IT.pin (b,o) (List.mem_append_right _ (List.mem_append_right _ (wv hb eb)))).1
    ·obtain ⟨o,eb,_⟩:=T.obj _ _ st7 b hb
     exact (IT.pin (b,o) (List.mem_append_right _ (List.mem_append_right _ (wv hb eb)))).2.1
   | true=>
    refine zb (he HD.objs.size s2 H2 fp _ sT σ8 HT _ IT qT) λyv s9 ⟨y,H9,I9,r9,n9⟩=>?_
    obtain ⟨m',hm',w9⟩:=hN y σ8 H9 n9
    have pD9:=(I9.pin (s2.heap.objs.size,zu its k) (List.mem_append_right _ (List.mem_append_left _ List.mem_cons_self))).2.1
    have hl:its.length=ys.length:=rv5.length.symm
    refine gc (Y:=yd X scope (zR own caps) HD.objs.size s2 H2 fp) (its:=its) (k:=k) (pl:=vz fp s7.heap) I9 (statD pD9) rfl (by omega) λh' k' tk keep I'=>?_
    refine ⟨m',hm',i + 1,ys++[y],σ8,H9,its++[yv],k',I',?_,λb hb=>?_,rv5.append (.cons r9 .nil),?_,w9⟩
    ·refine T.keep _ _ _ st7 λb hb o eb=>keep b o (neD b hb) ?_
     exact (I9.pin (b,o) (List.mem_append_right _ (List.mem_append_right _ (wv hb eb)))).1
    ·obtain ⟨o,eb,_⟩:=T.obj _ _ st7 b hb
     exact (I9.pin (b,o) (List.mem_append_right _ (List.mem_append_right _ (wv hb eb)))).2.1
    ·rw [List.length_append,List.length_singleton]
     omega
 exact codeAny_compStart_list (loop _ rfl) (T.self _ 0 _ _ _ (T.keep _ _ _ st2 λb hb o eb=>old b o eb) (loop _ rfl))
theorem Wt {hx:Addr} (B:vS X scope own caps) (hc:X.A.handled=some (.ref hx)) (hi:YN hx X tg iter wi) (hg:∀ C s₀ H₀ ex,PG (yd X scope (zR own caps) C s₀ H₀ ex) tg g)
  (ht:∀ C s₀ H₀ ex,PT (yd X scope (zR own caps) C s₀ H₀ ex) cond tc) (he:∀ C s₀ H₀ ex,PE (yd X scope (zR own caps) C s₀ H₀ ex) elt te) (hs:∀ x,foldedSetIterable iter X.env x=pure x:=by intro _; rfl) :
  PE X (.ListComp elt [⟨tg,iter,[cond],0⟩] scope pos) (X1 own caps wi g tc te):=by
 intro pins s σ H Q I h
 rw [eval_ListComp]
 refine wpAny_comprehension_free (use:=none) rfl hs (jB B.free) B.kind B.locs ?_
 refine zb (hi pins s σ H _ I h) λxv s1 h1=>zb h1 λitv s2 h2=>?_
 obtain ⟨it,fp,tn,J,H2,e,I2,T,st2,f2,W,⟨m0,w0⟩,turn⟩:=h2
 subst e
 refine Ws (RR:=λacc C=>compPost (model X.prog X.w) X.A X.xe none (EP X pins σ Q) acc C) B hc hg ht he I2 T st2 f2 w0 turn λD C s6 H6 ys m hn hC J6 hC6 q=>?_
 exact ⟨m,hn,λh' sb=>⟨.ref D,_,J6 h' sb,rfl,q⟩⟩
end
theorem Wu {K:PySem.W.Frag} {x0 C a:Addr} {xs:List V} {g:TG} {tc:TT} {te:TE} {σ0:St} {H:Hp} {Q:VK} (Pv:Nat->List V->St->Hp->Prop) (h0:Pv 0 [] σ0 H) (hl:∀ i ys σ H,i<=xs.length->Pv i ys σ H->zM K H a xs/\ys.length<=i/\H x0=some (y8 x0 C)) (hz:xs.length<=sizeLine)
  (hs:∀ i x ys σ H,xs[i]? = some x->Pv i ys σ H->g x σ H λσ2 H2=>tc σ2 H2 λb H3=>if b=true then te σ2 H3 λy H4=>Pv (i + 1) (ys++[y]) σ2 H4 else Pv (i + 1) ys σ2 H3)
  (hd:∀ ys σ H,Pv xs.length ys σ H->∀ p,H p=none->Q (.ref p) (upd H p (.lst ys))) :
  Zr (uL K x0 a) g tc te Q σ0 H:=by
 refine ⟨λi m ys σ H=>m=xs.length - i/\i<=xs.length/\Pv i ys σ H,⟨xs.length,by simp,Nat.zero_le _,h0⟩,?_⟩
 rintro i m ys σ H ⟨rfl,hi,p⟩
 obtain ⟨q,hy,hC⟩:=hl i ys σ H hi p
 by_cases hlt:i < xs.length
 ·refine .inr ⟨⟨xs,xs[i],q,by simp [hlt]⟩,by omega,λy σ' H'=>Pv (i + 1) (ys++[y]) σ' H',λσ' H'=>Pv (i + 1) ys σ' H',λy σ' H' z=>⟨xs.length - (i + 1),by omega,rfl,hlt,z⟩,λσ' H' z=>⟨xs.length - (i + 1),by omega,rfl,hlt,z⟩,λx H' y=>?_⟩
  obtain ⟨e,y⟩:=y
  subst e
  exact hs i x ys σ _ (y xs q) p
 ·have e:i=xs.length:=by omega
  subst e
  exact .inl ⟨⟨⟨xs,q,Nat.le_refl _⟩,C,hC⟩,hd ys σ H p⟩
noncomputable def Wv (K:PySem.W.Frag) (Cb:Addr) (i:Nat) (tb:TX) (th:Addr->TS):TS:=λD σ H=>
 tb (λσ1 cls _ H2=>∃ C,cls=.ref C/\PySem.W.exmOne K (.ref C) (.ref Cb)=some true/\∀ e,H2 e=none->
  th e { nx:=λσ' H'=>D.nx (σ'.set i none) H',rt:=D.rt,bk:=λσ' H'=>D.bk (σ'.set i none) H',ct:=λσ' H'=>D.ct (σ'.set i none) H' } (σ1.set i (some (.ref e))) (upd H2 e (y8 e C))) D σ H
theorem Ww {X:Cx} {Cb:Addr} {x n:Str} {i:Nat} {body:List Stmt} {tb:TX} {th:Addr->TS} {b₀:Stmt} {suite:List Stmt} {np hpos pos:Pos} (hg:Gl X x) (hm:X.mg x=some (.ref Cb)) (hc:X.calm=true)
  (hf:X.env.frame=some X.env.locals) (hst:X.stack=X.env :: X.outer) (hN:X.N.Nodup) (hi:X.N[i]? = some n) (hn:X.env.scope.names.lookup n=some .local) (hb:va X body tb) (hh:∀ e,yi (X.mark e) (b₀ :: suite) (th e))
  (hdb:(x == ("__debug__" : Str))=false:=by decide) :
  PS X (.Try body [.ExceptHandler (some (.Name x np)) (some n) (b₀ :: suite) hpos] [] [] pos) (Wv X.K Cb i tb th):=by
 intro pins s σ H D I h
 refine wpAny_Try_except (wpAny_mono (hb pins s σ H D _ I h) (λfl s1 q1=>?_) λev s1 hx=>?_)
 ·cases fl with
  | next=>exact wpAny_execs_nil q1
  | brk=>exact q1
  | cont=>exact q1
  | ret u=>exact q1
 obtain ⟨σ1,s0,H1,H2,e,cls,a0,B,I0,rfl,xl,C,rfl,hx,q⟩:=hx
 have hfr:X.A.frames=some (X.env :: X.outer):=by rw [<- hst]; exact I.ok.frames
 have xl':XL X.prog X.w (X.env :: X.outer) H1 H2 s0 s1 B e (.ref C) a0:=by rw [<- hst]; exact xl
 have behind:∀ {h':Heap} {tk:Nat},XL X.prog X.w (X.env :: X.outer) H1 H2 s0 { s1 with heap:=h',toks:=tk } B e (.ref C) a0->zE X pins σ1 H2 { s1 with heap:=h',toks:=tk }:=λ{h' tk} z=>by
  have z':XL X.prog X.w X.stack H1 H2 s0 { s1 with heap:=h',toks:=tk } B e (.ref C) a0:=by rw [hst]; exact z
  exact I0.call' (ch:=[]) z'.os z'.un z'.held z'.bare λb hb=>absurd hb (by simp)
 have hE:∀ (Y:Around) (v:Value) (sx:Shared),False->notedBy (model X.prog X.w) Y X.env (cameBackBy (model X.prog X.w) X.A X.env X.xe) v sx:=λ_ _ _ z=>z.elim
 refine jT Z5 hfr hf xl'.fly λh4 held4 up4=>?_
 refine gw held4 λh5 fly5 up5=>?_
 have x5:=xl'.move (tk:=s1.toks) fly5 (up4.trans up5)
 have I5:=behind x5
 refine wpAny_handleBy_cons (codeAny_handlers_test (vv (I5.mark e) hg hm ?_ hdb)) (by intro q; cases q)
 obtain ⟨oe,ws,he,hcl,hd,_⟩:=yV.first fly5
 have LT:PySem.W.Looks (model X.prog X.w) h5 (typeOf (.ref e)) (.ref C):=hcl ▸ (PySem.W.Looks.ld he).andThen .now
 refine (PySem.W.exm_one (K:=X.K) I5.kIn LT hx).here (codeAny_handlers_suite_as ?_)
 refine gw (s:={ s1 with heap:=h5 }) fly5 λh6 fly6 up6=>?_
 have x6:=xl'.move (tk:=s1.toks) fly6 ((up4.trans up5).trans up6)
 have I6:=behind x6
 obtain ⟨oe6,ws6,he6,hcl6,hd6,h26⟩:=yV.first fly6
 obtain ⟨new,hH,nfr⟩:=xl.new
 have eL:e≠X.env.locals:=λz=>nfr (by
  rw [hst]
  unfold yw
  rw [List.filterMap_cons,hf,z]
  exact List.mem_cons_self)
 have J6:zE X pins σ1 (upd H2 e (y8 e C)) { s1 with heap:=h6,toks:=s1.toks }:=by
  refine I6.track hH ?_ eL (λy c q z=>?_) (λp hp z=>?_) ⟨⟨oe6,ws6,he6,hcl6,hd6,h26⟩,⟨oe6,he6⟩,λg1 g2 ⟨o,v,p1,p2,p3⟩ k=>⟨o,v,k _ p1,p2,p3⟩⟩
  ·by_cases hx:e∈X.ex
   ·exact .inl hx
   ·refine .inr ?_
    cases q:X.s₀.heap.get? e with
    | none=>rfl
    | some o=>
     obtain ⟨o',z⟩:=I0.base.there e o q hx
     rw [new] at z
     cases z
  ·obtain ⟨v,o,ho,_⟩:=I0.cell y c q
   rw [z,new] at ho
   cases ho
  ·have z1:=(I0.pin p hp).1
   rw [z,new] at z1
   cases z1
 refine qk (X:=X.mark e) (J6.mark e) hN hi (.inl hn) (v:=.ref e) rfl (λs7 I7=>?_) (.inr hn)
 refine wpAny_mono (hh e pins s7 _ _ _ I7 (q e hH)) (λfl s8 h8=>?_) λ_ _ z=>False.elim z
 have hcls:(X.env.scope.kind == .class || (X.env.scope.kind == .module && X.env.locals != X.env.globals))=false:=by rw [I.ok.kind]; rfl
 have goes:∀ {σ8:St} {H8:Hp} {R:Shared->Prop},zE (X.mark e) pins σ8 H8 s8->(∀ s9,zE X pins (σ8.set i none) H8 s9->R s9)->wpAny (model X.prog X.w) X.A (do bindName X.env n .none; unbindBehindTheSuite X.env n hpos) (λ_ s9=>R s9) X.xe s8:=λ{σ8 H8 R} I8 q=>by
  have I8':zE X pins σ8 H8 s8:=I8.unmark λz=>I.ok.hd z
  obtain ⟨m8,hn8,hl8⟩:=id I8'.loc
  refine wpAny_nameGoes_keeps hn hn8 hcls λh9 v9 hn9 sb9=>?_
  exact q _ (I8'.gone hN hi hl8 hn9 λb o nb q=>(sb9.2 b nb).trans q)
 cases fl with
 | ret u=>obtain ⟨v,σ8,H8,I8,r8,q8⟩:=h8; exact goes I8 λs9 I9=>⟨v,_,H8,I9,r8,q8⟩
 | brk=>obtain ⟨σ8,H8,I8,q8⟩:=h8; exact goes I8 λs9 I9=>⟨_,H8,I9,q8⟩
 | cont=>obtain ⟨σ8,H8,I8,q8⟩:=h8; exact goes I8 λs9 I9=>⟨_,H8,I9,q8⟩
 | next=>obtain ⟨σ8,H8,I8,q8⟩:=h8; exact goes I8 λs9 I9=>⟨_,H8,I9,q8⟩
end L2
namespace Sh
open PySem L2
structure kA (mg:Str->Option Value) (C1 C2 c2 c3 c4 c5 c6 c7 c8 c9 cS:Addr):Prop where
 m0:mg "BadThing" = some (.ref C1)
 m1:mg "TooMany" = some (.ref C2)
 m2:mg "BadRule" = some (.ref c2)
 m3:mg "BadTurn" = some (.ref c3)
 m4:mg "NoNumber" = some (.ref c4)
 m5:mg "NoRow" = some (.ref c5)
 m6:mg "NoRun" = some (.ref c6)
 m7:mg "NoText" = some (.ref c7)
 m8:mg "NotClosed" = some (.ref c8)
 m9:mg "NotPlain" = some (.ref c9)
 mS:mg "SteadyError" = some (.ref cS)
structure uM (K:PySem.W.Frag) (C:Addr) (j:Nat) (C1 C2 c2 c3 c4 c5 c6 c7 c8 c9 cS:Addr):Prop where
 xc:xZ K C
 isV:PySem.W.kitOne K (.ref C) (.type "ValueError")=some true
 exm:PySem.W.exmOne K (.ref C) (.ref cS)=some true
 k0:PySem.W.kitOne K (.ref C) (.ref C1)=some (j == 0)
 k1:PySem.W.kitOne K (.ref C) (.ref C2)=some (j == 1)
 k2:PySem.W.kitOne K (.ref C) (.ref c2)=some (j == 2)
 k3:PySem.W.kitOne K (.ref C) (.ref c3)=some (j == 3)
 k4:PySem.W.kitOne K (.ref C) (.ref c4)=some (j == 4)
 k5:PySem.W.kitOne K (.ref C) (.ref c5)=some (j == 5)
 k6:PySem.W.kitOne K (.ref C) (.ref c6)=some (j == 6)
 k7:PySem.W.kitOne K (.ref C) (.ref c7)=some (j == 7)
 k8:PySem.W.kitOne K (.ref C) (.ref c8)=some (j == 8)
 k9:PySem.W.kitOne K (.ref C) (.ref c9)=some (j == 9)
structure yx (K:PySem.W.Frag) (mg:Str->Option Value) (C1 C2:Addr):Prop where
 mg1:mg "BadThing" = some (.ref C1)
 exc1:PySem.W.excIn K C1 gx "ValueError.__new__" = true
 mg2:mg "TooMany" = some (.ref C2)
 exc2:PySem.W.excIn K C2 gx "ValueError.__new__" = true
 ex:∃ c2 c3 c4 c5 c6 c7 c8 c9 cS,kA mg C1 C2 c2 c3 c4 c5 c6 c7 c8 c9 cS/\uM K C1 0 C1 C2 c2 c3 c4 c5 c6 c7 c8 c9 cS/\uM K C2 1 C1 C2 c2 c3 c4 c5 c6 c7 c8 c9 cS
theorem AV.whole_inv {C:Addr} {H:Hp} {v:V} {a:AK} (h:AV C H v a) (e:yG a=true):∃ i,v=.int i/\a=.int i:=by
 cases h with
 | int i=>exact ⟨i,rfl,rfl⟩
 | _=>cases e
theorem Wx {a:AK} (e:yG a=false):xB a=false:=by
 cases a with
 | int i=>cases e
 | _=>rfl
theorem FA.mode_inv {k:Nat} {r n s p a d:AK} (h:FA k (.mode r n s p a d)):FA k r/\FA k n/\FA k s/\FA k p/\FA k a:=by
 cases h with
 | mode h1 h2 h3 h4 h5 h6=>exact ⟨h1.mono (by omega),h2.mono (by omega),h3.mono (by omega),h4.mono (by omega),h5.mono (by omega)⟩
theorem FA.lst_inv1 {k:Nat} {as:List AK} (h:FA (k + 1) (.lst as)):as.length<=900/\∀ a∈as,FA k a:=by
 cases h with
 | lst l h=>exact ⟨l,h⟩
theorem FA.tup_inv1 {k:Nat} {as:List AK} (h:FA (k + 1) (.tup as)):as.length<=900/\∀ a∈as,FA k a:=by
 cases h with
 | tup l h=>exact ⟨l,h⟩
end Sh
namespace K12
open PySem L2 Sh
noncomputable def xC (i:Nat):Stmt:=PySem.Challenge.pw_steadyhand_k12_things_refused.main.body.getD i (.Pass ⟨0,0,0,0⟩)
structure Bl (mg:Str->Option Value):Prop where
 isinstance_:mg "isinstance" = none
 int_:mg "int" = none
 bool_:mg "bool" = none
 tuple_:mg "tuple" = none
 len_:mg "len" = none
 all_:mg "all" = none
 list_:mg "list" = none
 range_:mg "range" = none
 ValueError_:mg "ValueError" = none
 MOST_NUMBERS_:∃ t,mg "MOST_NUMBERS" = some (.int 3 t)
 MOST_PUSHES_:∃ t,mg "MOST_PUSHES" = some (.int 6 t)
 MOST_MODES_:∃ t,mg "MOST_MODES" = some (.int 40 t)
structure yy (K:PySem.W.Frag) (C:Addr):Prop where
 n_rows:xw K C "rows"
 n_nexts:xw K C "nexts"
 n_steer:xw K C "steer"
 n_push:xw K C "push"
 n_add:xw K C "add"
 n_divisor:xw K C "divisor"
structure yz (K:PySem.W.Frag) (C:Addr):Prop where
 n_many:xw K C "many"
 n_kept_pushes:xw K C "kept_pushes"
 n_kept_modes:xw K C "kept_modes"
section
variable {P:Program} {w:World} {K:PySem.W.Frag} {mg:Str->Option Value} {base:Heap}
noncomputable abbrev kB:Stmt:=xC 14
theorem Wy:yS ["thing"] ["thing"] (zQ kB):=.a
theorem Wz {k:Nat} {f:Addr} {fd:FuncData} {ac ad:Addr} (ae:zS K mg "Mode" ac) (af:yy K ac) (ag:zS K mg "Thing" ad) (ah:yz K ad) (Y:zj K ac) {C1 C2:Addr} (Z:yx K mg C1 C2) (F:yT K "is_whole" "is_whole" kB f fd) (B:Bl mg):zP P w K mg base zX (k + 1) f fd ["thing"] (uc ac):=by
 refine F.ok Wy (λvs H Q E h=>?_) (λcdv A outer s H vs Q E hr h=>?_)
 ·obtain ⟨_,_,rfl,_⟩:=h
  rfl
 obtain ⟨v,a,rfl,hv,q⟩:=h
 refine ⟨_,(zf (zk (wZ (zr wk rfl B.isinstance_ xG (zA (zB 0) (zA (wP (v:=.ty "int") (u:=.type "int") rfl B.int_ Xv rfl) zH))) (vx (Ys (zr wk rfl B.isinstance_ xG (zA (zB 0) (zA (wP (v:=.ty "bool") (u:=.type "bool") rfl B.bool_ Xw rfl) zH)))))))),?_⟩
 try dsimp only [zF,Cx.nox,Cx.wish]
 obtain ⟨ty,ak⟩:=hv.ask ae Y
 refine ⟨_,rfl,_,_,_,_,rfl,ak.ty,ak.i,_,rfl,?_⟩
 cases hv with
 | int i=>exact yq rfl ⟨_,rfl,_,_,_,_,rfl,ak.ty,ak.b,_,rfl,q⟩
 | bool b=>exact yq rfl ⟨_,rfl,_,_,_,_,rfl,ak.ty,ak.b,_,rfl,q⟩
 | _=>exact yK rfl q
noncomputable abbrev kC:Stmt:=xC 16
theorem W0:yS ["value","count"] ["value","count"] (zQ kC):=.a
theorem W1 {k:Nat} {f:Addr} {fd:FuncData} {ac ad:Addr} (ae:zS K mg "Mode" ac) (af:yy K ac) (ag:zS K mg "Thing" ad) (ah:yz K ad) (Y:zj K ac) {C1 C2:Addr} (Z:yx K mg C1 C2) (F:yT K "is_numbers" "is_numbers" kC f fd) (B:Bl mg) (ai:Fn P w K mg base "is_whole" ["thing"] k (uc ac)):zP P w K mg base zX (k + 1) f fd ["value","count"] (g5 ac):=by
 refine F.ok W0 (λvs H Q E h=>?_) (λcdv A outer s H vs Q E hr h=>?_)
 ·obtain ⟨_,_,_,_,rfl,_⟩:=h
  rfl
 obtain ⟨v,a,n,k2,rfl,hv,fa,q⟩:=h
 refine ⟨_,(zf (zk (wZ (zr wk rfl B.isinstance_ xG (zA (zB 0) (zA (wP (v:=.ty "list") (u:=.type "list") rfl B.list_ vC rfl) zH))) (wZ (u4 xO (zr yF rfl B.len_ xQ (zA (zB 0) zH)) (zB 1) (yb _)) (vx (zr (uT rfl) rfl B.all_ uV (zA (wc (own:=["number"]) (caps:=[]) (uB rfl) rfl (wu (zB 0)) (λ_ _ _ _=>yg (i:=0) (show (["number"]:List Str).Nodup by decide +kernel) rfl (Or.inl rfl)) (λ_ _ _ _=>(yE ai hr rfl (zA (zB 0) zH)))) zH))))))),?_⟩
 try dsimp only [zF,Cx.nox,Cx.wish]
 obtain ⟨ty,ak⟩:=hv.ask ae Y
 refine ⟨_,rfl,_,_,_,_,rfl,ak.ty,ak.l,_,rfl,?_⟩
 cases hv with
 | @lst p xs as e h=>
  have lx:xs.length=as.length:=Paired.length h
  obtain ⟨fw,fw2⟩:=fa.lst_inv
  refine yq rfl ?_
  refine ⟨_,rfl,p,_,rfl,.inl (zM.of e),_,rfl,rfl,_,rfl,?_⟩
  by_cases c:((xs.length:Nat):Int)=n
  case neg=>
   refine yK (uX c) ?_
   have z:=q _ (zC.refl _)
   rw [show zo n (.lst as)=false from by show (decide ((as.length:Int)=n) && _)=false; rw [decide_eq_false (by rw [<- lx]; exact c)]; rfl] at z
   exact z
  refine yq (uW c) ?_
  refine ⟨_,rfl,p,rfl,⟨_,zM.of e⟩,vB (K:=K) (a:=p) (xs:=xs) (λi ys σ H'=>ys=((as.take i).map yG).map V.bl/\(∃ o,σ=[o])/\zC H H')
   ⟨rfl,⟨none,rfl⟩,zC.refl _⟩ (λi ys σ H' hi ⟨e1,_,sm⟩=>⟨zM.of (sm _ _ e),by rw [e1,List.length_map,List.length_map,List.length_take]; exact Nat.min_le_left _ _⟩) (Nat.le_of_lt (zq (by omega))) ?_ ?_⟩
  ·rintro i x ys σ H' hi ⟨rfl,⟨o,rfl⟩,sm⟩
   obtain ⟨a1,ha1,hx⟩:=xJ h hi
   refine ⟨_,rfl,x,a1,rfl,hx.same sm,?_,⟨_,rfl⟩,sm⟩
   rw [wT ha1,List.map_append,List.map_append]
   rfl
  rintro ys σ J ⟨rfl,⟨o,rfl⟩,sm⟩ l hl
  refine ⟨l,_,rfl,zM.of zJ,?_⟩
  have zl:=zL hl (HO.lst (((as.take xs.length).map yG).map V.bl))
  rw [List.take_of_length_le (by omega)] at zl |-
  rw [show ((as.map yG).all id)=as.all yG by rw [List.all_map]; rfl]
  have z:=q _ (sm.trans zl)
  rw [show zo n (.lst as)=as.all yG from by show (decide ((as.length:Int)=n) && _)=_; rw [decide_eq_true (by rw [<- lx]; exact c)]; rfl] at z
  exact z
 | _=>exact yK rfl (q _ (zC.refl _))
noncomputable abbrev qR:Stmt:=xC 17
theorem W2:yS ["value","tall","wide"] ["value","tall","wide"] (zQ qR):=.a
theorem W3 {k:Nat} {f:Addr} {fd:FuncData} {ac ad:Addr} (ae:zS K mg "Mode" ac) (af:yy K ac) (ag:zS K mg "Thing" ad) (ah:yz K ad) (Y:zj K ac) {C1 C2:Addr} (Z:yx K mg C1 C2) (F:yT K "is_table" "is_table" qR f fd) (B:Bl mg) (aq:Fn P w K mg base "is_numbers" ["value","count"] k (g5 ac)):zP P w K mg base zX (k + 1) f fd ["value","tall","wide"] (YD ac):=by
 refine F.ok W2 (λvs H Q E h=>?_) (λcdv A outer s H vs Q E hr h=>?_)
 ·obtain ⟨_,_,_,_,_,rfl,_⟩:=h
  rfl
 obtain ⟨v,a,n,w0,k2,rfl,hv,fa,q⟩:=h
 refine ⟨_,(zf (zk (wZ (zr wk rfl B.isinstance_ xG (zA (zB 0) (zA (wP (v:=.ty "list") (u:=.type "list") rfl B.list_ vC rfl) zH))) (wZ (u4 xO (zr yF rfl B.len_ xQ (zA (zB 0) zH)) (zB 1) (yb _)) (vx (zr (uT rfl) rfl B.all_ uV (zA (wc (own:=["part"]) (caps:=[(2,"wide")]) (vD (S:=zQ qR) (N:=["value","tall","wide"]) rfl (by decide +kernel) rfl ⟨_,rfl⟩ rfl (by decide +kernel) (by decide +kernel)) rfl (wu (zB 0)) (λ_ _ _ _=>yg (i:=0) (show (["part","wide"]:List Str).Nodup by decide +kernel) rfl (Or.inl rfl)) (λ_ _ _ _=>(yE aq hr rfl (zA (zB 0) (zA (zB 1) zH))))) zH))))))),?_⟩
 try dsimp only [zF,Cx.nox,Cx.wish]
 obtain ⟨ty,ak⟩:=hv.ask ae Y
 refine ⟨_,rfl,_,_,_,_,rfl,ak.ty,ak.l,_,rfl,?_⟩
 cases hv with
 | @lst p xs as e h=>
  have lx:xs.length=as.length:=Paired.length h
  obtain ⟨fw,fw2⟩:=fa.lst_inv
  refine yq rfl ?_
  refine ⟨_,rfl,p,_,rfl,.inl (zM.of e),_,rfl,rfl,_,rfl,?_⟩
  by_cases c:((xs.length:Nat):Int)=n
  case neg=>
   refine yK (uX c) ?_
   have z:=q _ (zC.refl _)
   rw [show zW n w0 (.lst as)=false from by show (decide ((as.length:Int)=n) && _)=false; rw [decide_eq_false (by rw [<- lx]; exact c)]; rfl] at z
   exact z
  refine yq (uW c) ?_
  refine ⟨_,rfl,p,rfl,⟨_,zM.of e⟩,vB (K:=K) (a:=p) (xs:=xs) (λi ys σ H'=>ys=((as.take i).map (zo w0)).map V.bl/\(∃ o,σ=[o,some (.int w0)])/\zC H H')
   ⟨rfl,⟨none,rfl⟩,zC.refl _⟩ (λi ys σ H' hi ⟨e1,_,sm⟩=>⟨zM.of (sm _ _ e),by rw [e1,List.length_map,List.length_map,List.length_take]; exact Nat.min_le_left _ _⟩) (Nat.le_of_lt (zq (by omega))) ?_ ?_⟩
  ·rintro i x ys σ H' hi ⟨rfl,⟨o,rfl⟩,sm⟩
   obtain ⟨a1,ha1,hx⟩:=xJ h hi
   refine ⟨_,rfl,_,rfl,x,a1,w0,k2,rfl,hx.same sm,fw2 a1 (List.mem_of_getElem? ha1),λH2 s2=>⟨?_,⟨_,rfl⟩,sm.trans s2⟩⟩
   rw [wT ha1,List.map_append,List.map_append]
   rfl
  rintro ys σ J ⟨rfl,⟨o,rfl⟩,sm⟩ l hl
  refine ⟨l,_,rfl,zM.of zJ,?_⟩
  have zl:=zL hl (HO.lst (((as.take xs.length).map (zo w0)).map V.bl))
  rw [List.take_of_length_le (by omega)] at zl |-
  rw [show ((as.map (zo w0)).all id)=as.all (zo w0) by rw [List.all_map]; rfl]
  have z:=q _ (sm.trans zl)
  rw [show zW n w0 (.lst as)=as.all (zo w0) from by show (decide ((as.length:Int)=n) && _)=_; rw [decide_eq_true (by rw [<- lx]; exact c)]; rfl] at z
  exact z
 | _=>exact yK rfl (q _ (zC.refl _))
noncomputable abbrev ja:Stmt:=xC 18
theorem W4:yS ["value","depth"] ["value","depth"] (zQ ja):=.a
theorem qS {k:Nat} {f:Addr} {fd:FuncData} {dv:Value} {d0:Nat} {ac ad:Addr} (ae:zS K mg "Mode" ac) (af:yy K ac) (ag:zS K mg "Thing" ad) (ah:yz K ad) (Y:zj K ac) {C1 C2:Addr} (Z:yx K mg C1 C2) (F:xH K "copied" "copied" ja f fd dv) (B:Bl mg) (aj:vT P w K mg base "copied" ["value","depth"] k (jV ac d0) (.int 5)):zP P w K mg base zX (k + 1) f fd ["value","depth"] (jV ac (d0 + 1)):=by
 refine F.ok W4 (λvs H Q E h=>?_) (λcdv A outer s H vs Q E hr h=>?_)
 ·obtain ⟨_,_,_,rfl,_⟩:=h
  rfl
 obtain ⟨v,a,d,rfl,hv,fa,q⟩:=h
 refine ⟨_,(za (yZ (yo xO (zB 1) zK (yb _)) (zf (zk (zB 0))) yY)
  (za (yZ (xq (zr wk rfl B.isinstance_ xG (zA (zB 0) (zA (wP (v:=.ty "list") (u:=.type "list") rfl B.list_ vC rfl) zH)))) (zf (zk (wc (own:=["part"]) (caps:=[(1,"depth")]) (vD (S:=zQ ja) (N:=["value","depth"]) rfl (by decide +kernel) rfl ⟨_,rfl⟩ rfl (by decide +kernel) (by decide +kernel)) rfl (wu (zB 0)) (λ_ _ _ _=>yg (i:=0) (show (["part","depth"]:List Str).Nodup by decide +kernel) rfl (Or.inl rfl)) (λ_ _ _ _=>(yE aj.fn hr rfl (zA (zB 0) (zA (zO (zw wx) (zB 1) zK) zH))))))) yY)
  (za (yZ (xq (zr wk rfl B.isinstance_ xG (zA (zB 0) (zA (wP (v:=.ty "tuple") (u:=.type "tuple") rfl B.tuple_ we rfl) zH)))) (zf (zk (wQ xn rfl B.tuple_ we (zA (wc (own:=["part"]) (caps:=[(1,"depth")]) (vD (S:=zQ ja) (N:=["value","depth"]) rfl (by decide +kernel) rfl ⟨_,rfl⟩ rfl (by decide +kernel) (by decide +kernel)) rfl (ZH (zB 0)) (λ_ _ _ _=>yg (i:=0) (show (["part","depth"]:List Str).Nodup by decide +kernel) rfl (Or.inl rfl)) (λ_ _ _ _=>(yE aj.fn hr rfl (zA (zB 0) (zA (zO (zw wx) (zB 1) zK) zH))))) zH)))) yY)
  (zf (zk (zB 0)))))),?_⟩
 try dsimp only [zF,Cx.nox,Cx.wish]
 obtain ⟨ty,ak⟩:=hv.ask ae Y
 refine ⟨_,rfl,rfl,_,rfl,?_⟩
 by_cases dz:d=0
 ·exact yq (uW dz) ⟨_,rfl,q v H (zC.refl _) hv⟩
 refine yK (uX dz) ?_
 refine ⟨_,rfl,_,_,_,_,rfl,ak.ty,ak.l,_,rfl,?_⟩
 cases hv with
 | @lst p xs as e h=>
  refine yq rfl ?_
  have lx:xs.length=as.length:=Paired.length h
  obtain ⟨fw,fw2⟩:=fa.lst_inv1
  refine ⟨_,rfl,p,rfl,⟨_,zM.of e⟩,vB (K:=K) (a:=p) (xs:=xs) (λi ys σ H'=>Paired (AV ac H') ys (as.take i)/\(∃ o,σ=[o,some (.int d)])/\zC H H')
   ⟨.nil,⟨none,rfl⟩,zC.refl _⟩ (λi ys σ H' hi ⟨e1,_,sm⟩=>⟨zM.of (sm _ _ e),by have:=Paired.length e1; rw [List.length_take] at this; omega⟩) (Nat.le_of_lt (zq (by omega))) ?_ ?_⟩
  ·rintro i x ys σ H' hi ⟨hz,⟨o,rfl⟩,sm⟩
   obtain ⟨a1,ha1,hx⟩:=xJ h hi
   refine ⟨_,rfl,_,rfl,_,_,rfl,rfl,x,a1,d - 1,rfl,hx.same sm,fw2 a1 (List.mem_of_getElem? ha1),λv' H2 s2 hv'=>⟨?_,⟨_,rfl⟩,sm.trans s2⟩⟩
   rw [wT ha1]
   exact wS (R:=AV ac H2) hv' (zG s2 hz)
  rintro ys σ H' ⟨hz,⟨o,rfl⟩,sm⟩ l hl
  rw [List.take_of_length_le (by omega)] at hz
  have zl:=zL hl (HO.lst ys)
  exact q _ _ (sm.trans zl) (.lst zJ (zG zl hz))
 | @tup p xs as e h=>
  refine yK rfl ?_
  refine ⟨_,rfl,_,_,_,_,rfl,ak.ty,ak.u,_,rfl,yq rfl ?_⟩
  have lx:xs.length=as.length:=Paired.length h
  obtain ⟨fw,fw2⟩:=fa.tup_inv1
  refine ⟨_,rfl,p,rfl,⟨_,yD.of e⟩,Zs (K:=K) (a:=p) (xs:=xs) (λi ys σ H'=>Paired (AV ac H') ys (as.take i)/\(∃ o,σ=[o,some (.int d)])/\zC H H')
   ⟨.nil,⟨none,rfl⟩,zC.refl _⟩ (λi ys σ H' hi ⟨e1,_,sm⟩=>⟨yD.of (sm _ _ e),by have:=Paired.length e1; rw [List.length_take] at this; omega⟩) (Nat.le_of_lt (zq (by omega))) ?_ ?_⟩
  ·rintro i x ys σ H' hi ⟨hz,⟨o,rfl⟩,sm⟩
   obtain ⟨a1,ha1,hx⟩:=xJ h hi
   refine ⟨_,rfl,_,rfl,_,_,rfl,rfl,x,a1,d - 1,rfl,hx.same sm,fw2 a1 (List.mem_of_getElem? ha1),λv' H2 s2 hv'=>⟨?_,⟨_,rfl⟩,sm.trans s2⟩⟩
   rw [wT ha1]
   exact wS (R:=AV ac H2) hv' (zG s2 hz)
  rintro ys σ H' ⟨hz,⟨o,rfl⟩,sm⟩ l hl
  rw [List.take_of_length_le (by omega)] at hz
  have zl:=zL hl (HO.lst ys)
  refine ⟨l,_,rfl,.inl ⟨zM.of zJ,λt ht=>?_⟩⟩
  have zt:=zL ht (HO.tup ys)
  exact q _ _ (sm.trans (zl.trans zt)) (.tup zJ (zG (zl.trans zt) hz))
 | int i=>exact yK rfl ⟨_,rfl,_,_,_,_,rfl,ak.ty,ak.u,_,rfl,yK rfl ⟨_,rfl,q _ H (zC.refl _) (.int i)⟩⟩
 | bool i=>exact yK rfl ⟨_,rfl,_,_,_,_,rfl,ak.ty,ak.u,_,rfl,yK rfl ⟨_,rfl,q _ H (zC.refl _) (.bool i)⟩⟩
 | non=>exact yK rfl ⟨_,rfl,_,_,_,_,rfl,ak.ty,ak.u,_,rfl,yK rfl ⟨_,rfl,q _ H (zC.refl _) .non⟩⟩
 | str i=>exact yK rfl ⟨_,rfl,_,_,_,_,rfl,ak.ty,ak.u,_,rfl,yK rfl ⟨_,rfl,q _ H (zC.refl _) (.str i)⟩⟩
 | dic e=>exact yK rfl ⟨_,rfl,_,_,_,_,rfl,ak.ty,ak.u,_,rfl,yK rfl ⟨_,rfl,q _ H (zC.refl _) (.dic e)⟩⟩
 | mode e h1 h2 h3 h4 h5 h6=>exact yK rfl ⟨_,rfl,_,_,_,_,rfl,ak.ty,ak.u,_,rfl,yK rfl ⟨_,rfl,q _ H (zC.refl _) (.mode e h1 h2 h3 h4 h5 h6)⟩⟩
noncomputable abbrev kD:Stmt:=xC 20
theorem W5:yS ["value","many"] ["value","many"] (zQ kD):=.a
theorem W6 {k:Nat} {f:Addr} {fd:FuncData} {ac ad:Addr} (ae:zS K mg "Mode" ac) (af:yy K ac) (ag:zS K mg "Thing" ad) (ah:yz K ad) (Y:zj K ac) {C1 C2:Addr} (Z:yx K mg C1 C2) (F:yT K "is_row" "is_row" kD f fd) (B:Bl mg) (ai:Fn P w K mg base "is_whole" ["thing"] k (uc ac)):zP P w K mg base zX (k + 1) f fd ["value","many"] (YE ac):=by
 refine F.ok W5 (λvs H Q E h=>?_) (λcdv A outer s H vs Q E hr h=>?_)
 ·obtain ⟨_,_,_,_,rfl,_⟩:=h
  rfl
 obtain ⟨v,a,n,k2,rfl,hv,fa,q⟩:=h
 refine ⟨_,(zf (zk (wZ (zr wk rfl B.isinstance_ xG (zA (zB 0) (zA (wP (v:=.ty "tuple") (u:=.type "tuple") rfl B.tuple_ we rfl) zH))) (wZ (u4 xO (zr yF rfl B.len_ xQ (zA (zB 0) zH)) (zO (zw ym) (zB 1) zK) (yb _)) (vx (zr (uT rfl) rfl B.all_ uV (zA (wc (own:=["number"]) (caps:=[]) (uB rfl) rfl (ZH (zB 0)) (λ_ _ _ _=>yg (i:=0) (show (["number"]:List Str).Nodup by decide +kernel) rfl (Or.inl rfl)) (λ_ _ _ _=>(yE ai hr rfl (zA (zB 0) zH)))) zH))))))),?_⟩
 try dsimp only [zF,Cx.nox,Cx.wish]
 obtain ⟨ty,ak⟩:=hv.ask ae Y
 refine ⟨_,rfl,_,_,_,_,rfl,ak.ty,ak.u,_,rfl,?_⟩
 cases hv with
 | @tup p xs as e h=>
  have lx:xs.length=as.length:=Paired.length h
  obtain ⟨fw,fw2⟩:=fa.tup_inv
  refine yq rfl ?_
  refine ⟨_,rfl,p,_,rfl,.inr (yD.of e),_,rfl,_,_,rfl,rfl,rfl,_,rfl,?_⟩
  by_cases c:((xs.length:Nat):Int)=n + 1
  case neg=>
   refine yK (uX c) ?_
   have z:=q _ (zC.refl _)
   rw [show zx n (.tup as)=false from by show (decide ((as.length:Int)=n + 1) && _)=false; rw [decide_eq_false (by rw [<- lx]; exact c)]; rfl] at z
   exact z
  refine yq (uW c) ?_
  refine ⟨_,rfl,p,rfl,⟨_,yD.of e⟩,Zs (K:=K) (a:=p) (xs:=xs) (λi ys σ H'=>ys=((as.take i).map yG).map V.bl/\(∃ o,σ=[o])/\zC H H')
   ⟨rfl,⟨none,rfl⟩,zC.refl _⟩ (λi ys σ H' hi ⟨e1,_,sm⟩=>⟨yD.of (sm _ _ e),by rw [e1,List.length_map,List.length_map,List.length_take]; exact Nat.min_le_left _ _⟩) (Nat.le_of_lt (zq (by omega))) ?_ ?_⟩
  ·rintro i x ys σ H' hi ⟨rfl,⟨o,rfl⟩,sm⟩
   obtain ⟨a1,ha1,hx⟩:=xJ h hi
   refine ⟨_,rfl,x,a1,rfl,hx.same sm,?_,⟨_,rfl⟩,sm⟩
   rw [wT ha1,List.map_append,List.map_append]
   rfl
  rintro ys σ J ⟨rfl,⟨o,rfl⟩,sm⟩ l hl
  refine ⟨l,_,rfl,zM.of zJ,?_⟩
  have zl:=zL hl (HO.lst (((as.take xs.length).map yG).map V.bl))
  rw [List.take_of_length_le (by omega)] at zl |-
  rw [show ((as.map yG).all id)=as.all yG by rw [List.all_map]; rfl]
  have z:=q _ (sm.trans zl)
  rw [show zx n (.tup as)=as.all yG from by show (decide ((as.length:Int)=n + 1) && _)=_; rw [decide_eq_true (by rw [<- lx]; exact c)]; rfl] at z
  exact z
 | _=>exact yK rfl (q _ (zC.refl _))
noncomputable abbrev qU:Stmt:=xC 21
theorem W7:yS ["value","many"] ["value","many"] (zQ qU):=.a
theorem W8 {k:Nat} {f:Addr} {fd:FuncData} {ac ad:Addr} (ae:zS K mg "Mode" ac) (af:yy K ac) (ag:zS K mg "Thing" ad) (ah:yz K ad) (Y:zj K ac) {C1 C2:Addr} (Z:yx K mg C1 C2) (F:yT K "is_room" "is_room" qU f fd) (B:Bl mg) (ax:Fn P w K mg base "is_row" ["value","many"] k (YE ac)):zP P w K mg base zX (k + 1) f fd ["value","many"] (YF ac):=by
 refine F.ok W7 (λvs H Q E h=>?_) (λcdv A outer s H vs Q E hr h=>?_)
 ·obtain ⟨_,_,_,_,rfl,_⟩:=h
  rfl
 obtain ⟨v,a,n,k2,rfl,hv,fa,q⟩:=h
 refine ⟨_,(zf (zk (wZ (zr wk rfl B.isinstance_ xG (zA (zB 0) (zA (wP (v:=.ty "list") (u:=.type "list") rfl B.list_ vC rfl) zH))) (vx (zr (uT rfl) rfl B.all_ uV (zA (wc (own:=["row"]) (caps:=[(1,"many")]) (vD (S:=zQ qU) (N:=["value","many"]) rfl (by decide +kernel) rfl ⟨_,rfl⟩ rfl (by decide +kernel) (by decide +kernel)) rfl (wu (zB 0)) (λ_ _ _ _=>yg (i:=0) (show (["row","many"]:List Str).Nodup by decide +kernel) rfl (Or.inl rfl)) (λ_ _ _ _=>(yE ax hr rfl (zA (zB 0) (zA (zB 1) zH))))) zH)))))),?_⟩
 try dsimp only [zF,Cx.nox,Cx.wish]
 obtain ⟨ty,ak⟩:=hv.ask ae Y
 refine ⟨_,rfl,_,_,_,_,rfl,ak.ty,ak.l,_,rfl,?_⟩
 cases hv with
 | @lst p xs as e h=>
  have lx:xs.length=as.length:=Paired.length h
  obtain ⟨fw,fw2⟩:=fa.lst_inv
  refine yq rfl ?_
  refine ⟨_,rfl,p,rfl,⟨_,zM.of e⟩,vB (K:=K) (a:=p) (xs:=xs) (λi ys σ H'=>ys=((as.take i).map (zx n)).map V.bl/\(∃ o,σ=[o,some (.int n)])/\zC H H')
   ⟨rfl,⟨none,rfl⟩,zC.refl _⟩ (λi ys σ H' hi ⟨e1,_,sm⟩=>⟨zM.of (sm _ _ e),by rw [e1,List.length_map,List.length_map,List.length_take]; exact Nat.min_le_left _ _⟩) (Nat.le_of_lt (zq (by omega))) ?_ ?_⟩
  ·rintro i x ys σ H' hi ⟨rfl,⟨o,rfl⟩,sm⟩
   obtain ⟨a1,ha1,hx⟩:=xJ h hi
   refine ⟨_,rfl,_,rfl,x,a1,n,k2,rfl,hx.same sm,fw2 a1 (List.mem_of_getElem? ha1),λH2 s2=>⟨?_,⟨_,rfl⟩,sm.trans s2⟩⟩
   rw [wT ha1,List.map_append,List.map_append]
   rfl
  rintro ys σ J ⟨rfl,⟨o,rfl⟩,sm⟩ l hl
  refine ⟨l,_,rfl,zM.of zJ,?_⟩
  have zl:=zL hl (HO.lst (((as.take xs.length).map (zx n)).map V.bl))
  rw [List.take_of_length_le (by omega)] at zl |-
  rw [show ((as.map (zx n)).all id)=as.all (zx n) by rw [List.all_map]; rfl]
  exact q _ (sm.trans zl)
 | _=>exact yK rfl (q _ (zC.refl _))
noncomputable abbrev kE:Stmt:=xC 29
theorem W9:yS ["value"] ["value"] (zQ kE):=.a
theorem UA {k:Nat} {f:Addr} {fd:FuncData} {ac ad:Addr} (ae:zS K mg "Mode" ac) (af:yy K ac) (ag:zS K mg "Thing" ad) (ah:yz K ad) (Y:zj K ac) {C1 C2:Addr} (Z:yx K mg C1 C2) (F:yT K "is_push" "is_push" kE f fd) (B:Bl mg) (ai:Fn P w K mg base "is_whole" ["thing"] k (uc ac)):zP P w K mg base zX (k + 1) f fd ["value"] (YG ac):=by
 refine F.ok W9 (λvs H Q E h=>?_) (λcdv A outer s H vs Q E hr h=>?_)
 ·obtain ⟨_,_,rfl,_⟩:=h
  rfl
 obtain ⟨v,a,rfl,hv,q⟩:=h
 refine ⟨_,(za (yZ (PW.pt (wt (wF (xq (zr wk rfl B.isinstance_ xG (zA (zB 0) (zA (wP (v:=.ty "tuple") (u:=.type "tuple") rfl B.tuple_ we rfl) zH))))) (vL (yo j8 (zr yF rfl B.len_ xQ (zA (zB 0) zH)) zK (yb _))))) (zf (zk wB)) yY)
  (zf (zk (wZ (yE ai hr rfl (zA (yJ qO (zB 0) zK (λ_ _=>rfl)) zH)) (wZ (yE ai hr rfl (zA (yJ qO (zB 0) zK (λ_ _=>rfl)) zH)) (vx (u4 (zw u3) (yJ qO (zB 0) zK (λ_ _=>rfl)) (yJ qO (zB 0) zK (λ_ _=>rfl)) (yb _)))))))),?_⟩
 try dsimp only [zF,Cx.nox,Cx.wish]
 obtain ⟨ty,ak⟩:=hv.ask ae Y
 refine ⟨_,rfl,_,_,_,_,rfl,ak.ty,ak.u,_,rfl,?_⟩
 cases hv with
 | @tup p xs as e h=>
  refine yK rfl ?_
  refine ⟨_,rfl,p,_,rfl,.inr (yD.of e),rfl,_,rfl,?_⟩
  cases h with
  | nil=>exact yq (gd (by decide)) q
  | @cons x1 a1 xs1 as1 h1 t1=>
   cases t1 with
   | nil=>exact yq (gd (show ((1:Nat):Int)≠2 by decide)) q
   | @cons x2 a2 xs2 as2 h2 t2=>
    cases t2 with
    | @cons x3 a3 xs3 as3 h3 t3=>
     refine yq (gd ?_) q
     show ((xs3.length + 1 + 1 + 1:Nat):Int)≠2
     omega
    | nil=>
     refine yK (Zn rfl) ?_
     refine ⟨_,rfl,p,_,0,_,rfl,rfl,yD.of e,Zv,x1,a1,rfl,h1,_,rfl,?_⟩
     by_cases c1:yG a1=true
     case neg=>
      rw [Bool.not_eq_true] at c1
      have z:xK (.tup [a1,a2])=false:=by show (yG a1 && _)=false; rw [c1]; rfl
      rw [z] at q
      exact yK c1 q
     refine yq c1 ?_
     refine ⟨_,rfl,p,_,1,_,rfl,rfl,yD.of e,Zw,x2,a2,rfl,h2,_,rfl,?_⟩
     by_cases c2:yG a2=true
     case neg=>
      rw [Bool.not_eq_true] at c2
      have z:xK (.tup [a1,a2])=false:=by show (yG a1 && (yG a2 && _))=false; rw [c1,c2]; rfl
      rw [z] at q
      exact yK c2 q
     refine yq c2 ?_
     obtain ⟨i1,rfl,rfl⟩:=h1.whole_inv c1
     obtain ⟨i2,rfl,rfl⟩:=h2.whole_inv c2
     exact ⟨_,rfl,p,_,0,_,rfl,rfl,yD.of e,Zv,_,rfl,p,_,1,_,rfl,rfl,yD.of e,Zw,_,_,rfl,rfl,q⟩
 | _=>exact yq rfl q
noncomputable abbrev kF:Stmt:=xC 30
theorem UB:yS ["value","many","wide"] ["value","many","wide"] (zQ kF):=.a
theorem UC {k:Nat} {f:Addr} {fd:FuncData} {ac ad:Addr} (ae:zS K mg "Mode" ac) (af:yy K ac) (ag:zS K mg "Thing" ad) (ah:yz K ad) (Y:zj K ac) {C1 C2:Addr} (Z:yx K mg C1 C2) (F:yT K "is_mode" "is_mode" kF f fd) (B:Bl mg) (ay:Fn P w K mg base "is_room" ["value","many"] k (YF ac)) (av:Fn P w K mg base "is_table" ["value","tall","wide"] k (YD ac)) (aq:Fn P w K mg base "is_numbers" ["value","count"] k (g5 ac)) (ai:Fn P w K mg base "is_whole" ["thing"] k (uc ac)):zP P w K mg base zX (k + 1) f fd ["value","many","wide"] (YH ac):=by
 refine F.ok UB (λvs H Q E h=>?_) (λcdv A outer s H vs Q E hr h=>?_)
 ·obtain ⟨_,_,_,_,_,rfl,_⟩:=h
  rfl
 obtain ⟨v,a,n,w0,k2,rfl,hv,fa,q⟩:=h
 refine ⟨_,(za (yZ (PW.pt (wt (wF (xq (zr (show yk _ _ (Zx K) from WC) rfl B.isinstance_ xG (zA (zB 0) (zA (WB ae rfl) zH))))) (vL (wF (xq (yE ay hr rfl (zA (v7 (zB 0) rfl) (zA (zB 1) zH)))))))) (zf (zk wB)) yY)
  (za (yZ (PW.pt (wt (wF (xq (yE av hr rfl (zA (v7 (zB 0) rfl) (zA (zB 1) (zA (zB 1) zH)))))) (vL (wF (xq (yE av hr rfl (zA (v7 (zB 0) rfl) (zA (zB 1) (zA (zB 2) zH))))))))) (zf (zk wB)) yY)
  (za (yZ (PW.pt (wt (wF (xq (yE aq hr rfl (zA (v7 (zB 0) rfl) (zA (zB 1) zH))))) (vL (wF (xq (yE aq hr rfl (zA (v7 (zB 0) rfl) (zA (zB 1) zH)))))))) (zf (zk wB)) yY)
  (zf (zk (wZ (yE ai hr rfl (zA (v7 (zB 0) rfl) zH)) (vx (u4 (zw ZM) (v7 (zB 0) rfl) zK (yb _))))))))),?_⟩
 try dsimp only [zF,Cx.nox,Cx.wish]
 obtain ⟨ty,ak⟩:=hv.ask ae Y
 refine ⟨_,rfl,_,_,_,_,rfl,ak.ty,ak.m,_,rfl,?_⟩
 cases hv with
 | @mode o dx r n9 s9 p9 a9 d9 R N S P A D e hr9 hn hs hp ha hd=>
  obtain ⟨f1,f2,f3,f4,f5⟩:=fa.mode_inv
  refine yK rfl ?_
  refine ⟨_,rfl,o,ac,dx,_,_,rfl,e,ae.cl,af.n_rows,rfl,_,rfl,r,R,n,k2,rfl,hr9,f1,λH1 s1=>?_⟩
  by_cases c1:xA n R=true
  case neg=>
   rw [Bool.not_eq_true] at c1
   have z:=q _ s1
   rw [show yX n w0 (.mode R N S P A D)=false from by show (xA n R && (zW n n N && (zW n w0 P && (zo n S && (zo n A && xB D)))))=false; rw [c1]; rfl] at z
   rw [c1]
   exact ⟨_,rfl,xj z⟩
  rw [c1]
  refine ⟨_,rfl,xU ?_⟩
  refine ⟨_,rfl,o,ac,dx,_,_,rfl,(s1 _ _ e),ae.cl,af.n_nexts,rfl,_,rfl,_,rfl,n9,N,n,n,k2,rfl,(hn.same s1),f2,λH2 s2=>?_⟩
  have s02:=s1.trans s2
  by_cases c2:zW n n N=true
  case neg=>
   rw [Bool.not_eq_true] at c2
   have z:=q _ s02
   rw [show yX n w0 (.mode R N S P A D)=false from by show (xA n R && (zW n n N && (zW n w0 P && (zo n S && (zo n A && xB D)))))=false; rw [c1,c2]; rfl] at z
   rw [c2]
   exact ⟨_,rfl,xj z⟩
  rw [c2]
  refine ⟨_,rfl,xU ?_⟩
  refine ⟨_,rfl,o,ac,dx,_,_,rfl,(s02 _ _ e),ae.cl,af.n_push,rfl,_,rfl,_,rfl,p9,P,n,w0,k2,rfl,(hp.same s02),f4,λH3 s3=>?_⟩
  have s03:=s02.trans s3
  by_cases c3:zW n w0 P=true
  case neg=>
   rw [Bool.not_eq_true] at c3
   have z:=q _ s03
   rw [show yX n w0 (.mode R N S P A D)=false from by show (xA n R && (zW n n N && (zW n w0 P && (zo n S && (zo n A && xB D)))))=false; rw [c1,c2,c3]; rfl] at z
   rw [c3]
   exact ⟨_,rfl,xj z⟩
  rw [c3]
  refine ⟨_,rfl,xU ?_⟩
  refine ⟨_,rfl,o,ac,dx,_,_,rfl,(s03 _ _ e),ae.cl,af.n_steer,rfl,_,rfl,s9,S,n,k2,rfl,(hs.same s03),f3,λH4 s4=>?_⟩
  have s04:=s03.trans s4
  by_cases c4:zo n S=true
  case neg=>
   rw [Bool.not_eq_true] at c4
   have z:=q _ s04
   rw [show yX n w0 (.mode R N S P A D)=false from by show (xA n R && (zW n n N && (zW n w0 P && (zo n S && (zo n A && xB D)))))=false; rw [c1,c2,c3,c4]; rfl] at z
   rw [c4]
   exact ⟨_,rfl,xj z⟩
  rw [c4]
  refine ⟨_,rfl,xU ?_⟩
  refine ⟨_,rfl,o,ac,dx,_,_,rfl,(s04 _ _ e),ae.cl,af.n_add,rfl,_,rfl,a9,A,n,k2,rfl,(ha.same s04),f5,λH5 s5=>?_⟩
  have s05:=s04.trans s5
  by_cases c5:zo n A=true
  case neg=>
   rw [Bool.not_eq_true] at c5
   have z:=q _ s05
   rw [show yX n w0 (.mode R N S P A D)=false from by show (xA n R && (zW n n N && (zW n w0 P && (zo n S && (zo n A && xB D)))))=false; rw [c1,c2,c3,c4,c5]; rfl] at z
   rw [c5]
   exact ⟨_,rfl,xj z⟩
  rw [c5]
  refine ⟨_,rfl,xU ?_⟩
  have z:=q _ s05
  rw [show yX n w0 (.mode R N S P A D)=xB D from by show (xA n R && (zW n n N && (zW n w0 P && (zo n S && (zo n A && xB D)))))=_; rw [c1,c2,c3,c4,c5]; rfl] at z
  refine ⟨_,rfl,o,ac,dx,_,_,rfl,(s05 _ _ e),ae.cl,af.n_divisor,rfl,d9,D,rfl,hd.same s05,_,rfl,?_⟩
  by_cases c6:yG D=true
  case neg=>
   rw [Bool.not_eq_true] at c6
   refine yK c6 ?_
   rw [Wx c6] at z
   exact z
  refine yq c6 ?_
  obtain ⟨i6,rfl,rfl⟩:=hd.whole_inv c6
  exact ⟨_,rfl,o,ac,dx,_,_,rfl,(s05 _ _ e),ae.cl,af.n_divisor,rfl,_,_,rfl,rfl,z⟩
 | _=>exact yq rfl (q _ (zC.refl _))
end
end K12
namespace Sh
open PySem L2
theorem UD (r n s p a d:V):zI "divisor" d (zI "add" a (zI "push" p (zI "steer" s (zI "nexts" n (zI "rows" r [])))))=gz r n s p a d:=rfl
theorem AV.keepB {C C0 dx o:Addr} {H H':Hp} {fs:List (Str × V)} (ho:H o=some (.ins C0 dx fs)) (nf:fs.length≠6) (s:yf o H H'):∀ {v:V} {a:AK},AV C H v a->AV C H' v a
 | _,_,.int i=>.int i
 | _,_,.bool b=>.bool b
 | _,_,.non=>.non
 | _,_,.str x=>.str x
 | _,_,.dic e=>.dic (Sh.keepB ho s e (λz=>by cases z))
 | _,_,.lst e h=>.lst (Sh.keepB ho s e (λz=>by cases z)) (go ho nf s h)
 | _,_,.tup e h=>.tup (Sh.keepB ho s e (λz=>by cases z)) (go ho nf s h)
 | _,_,.mode e h1 h2 h3 h4 h5 h6=>.mode (Sh.keepB ho s e (λz=>by injection z with _ _ z; exact nf (by rw [<- z]; rfl))) (AV.keepB ho nf s h1) (AV.keepB ho nf s h2) (AV.keepB ho nf s h3) (AV.keepB ho nf s h4) (AV.keepB ho nf s h5) (AV.keepB ho nf s h6)
where
 go {C C0 dx o:Addr} {H H':Hp} {fs:List (Str × V)} (ho:H o=some (.ins C0 dx fs)) (nf:fs.length≠6) (s:yf o H H'):∀ {xs:List V} {as:List AK},Paired (AV C H) xs as->Paired (AV C H') xs as
  | _,_,.nil=>.nil
  | _,_,.cons h t=>.cons (AV.keepB ho nf s h) (go ho nf s t)
inductive kG (CT CM C1 C2:Addr) (vs:List V) (H:Hp) (Q:VK) (E:XK):Prop
 | mk (o dx:Addr) (v1 v2 v3:V) (m p ms:AK) (k:Nat) (_:vs=[.ref o,v1,v2,v3]) (_:H o=some (.ins CT dx [])) (_:AV CM H v1 m) (_:AV CM H v2 p) (_:AV CM H v3 ms) (_:FA k p) (_:FA k ms)
  (_:xM m p ms=false->∀ H',zC H H'->E (.ref C1) none H') (_:xM m p ms=true->(yL p > 6\/yL ms > 40)->∀ H',zC H H'->E (.ref C2) none H') (_:xM m p ms=true->¬ (yL p > 6\/yL ms > 40)->∀ H',yf o H H'->Q .non H'):kG CT CM C1 C2 vs H Q E
theorem UE {a:AK} (e:yG a=false):ub a=false:=by
 cases a with
 | int i=>cases e
 | _=>rfl
theorem UF {C:Addr} {H:Hp} {v1 v2 v3:V} {m p ms:AK} (c:xM m p ms=true) (h1:AV C H v1 m) (h2:AV C H v2 p) (h3:AV C H v3 ms) :
  ∃ (n:Int) (pp pm:Addr) (xs xm:List V) (as am:List AK),v1=.int n/\v2=.ref pp/\v3=.ref pm/\p=.lst as/\ms=.lst am/\H pp=some (.lst xs)/\Paired (AV C H) xs as/\H pm=some (.lst xm)/\Paired (AV C H) xm am:=by
 unfold xM at c
 obtain ⟨c1,c2⟩:=Bool.and_eq_true_iff.mp c
 obtain ⟨c2,c3⟩:=Bool.and_eq_true_iff.mp c2
 cases h1 with
 | int i=>
  cases h2 with
  | lst e2 p2=>
   cases h3 with
   | lst e3 p3=>exact ⟨i,_,_,_,_,_,_,rfl,rfl,rfl,rfl,rfl,e2,p2,e3,p3⟩
   | _=>cases c3
  | _=>cases c2
 | _=>cases c1
end Sh
namespace K12
open PySem L2 Sh
section
variable {P:Program} {w:World} {K:PySem.W.Frag} {mg:Str->Option Value} {base:Heap}
noncomputable abbrev qV:Stmt:=xC 28
theorem UG:yS ["many","pushes","modes"] ["many","pushes","modes"] (zQ qV):=.a
theorem UH {k:Nat} {f:Addr} {fd:FuncData} {ac ad:Addr} (ae:zS K mg "Mode" ac) (af:yy K ac) (ag:zS K mg "Thing" ad) (ah:yz K ad) (Y:zj K ac) {C1 C2:Addr} (Z:yx K mg C1 C2) (F:yT K "is_sound" "is_sound" qV f fd) (B:Bl mg) (ai:Fn P w K mg base "is_whole" ["thing"] k (uc ac)) (aA:Fn P w K mg base "is_push" ["value"] k (YG ac)) (aB:Fn P w K mg base "is_mode" ["value","many","wide"] k (YH ac)):zP P w K mg base zX (k + 1) f fd ["many","pushes","modes"] (YI ac):=by
 refine F.ok UG (λvs H Q E h=>?_) (λcdv A outer s H vs Q E hr h=>?_)
 ·obtain ⟨_,_,_,_,_,_,_,rfl,_⟩:=h
  rfl
 obtain ⟨v1,v2,v3,m,p0,ms,k2,rfl,hv1,hv2,hv3,fp,fm,q⟩:=h
 refine ⟨_,(za (yZ (PW.pt (wt (wF (xq (yE ai hr rfl (zA (zB 0) zH)))) (wt (yo (zw gF) (zB 0) zK (yb _)) (vL (yo (zw gG) (zB 0) (gl rfl B.MOST_NUMBERS_) (yb _)))))) (zf (zk wB)) yY)
  (za (yZ (PW.pt (wt (wF (xq (zr wk rfl B.isinstance_ xG (zA (zB 1) (zA (wP (v:=.ty "list") (u:=.type "list") rfl B.list_ vC rfl) zH))))) (vL (wF (xq (zr (uT rfl) rfl B.all_ uV (zA (wc (own:=["push"]) (caps:=[]) (uB rfl) rfl (wu (zB 1)) (λ_ _ _ _=>yg (i:=0) (show (["push"]:List Str).Nodup by decide +kernel) rfl (Or.inl rfl)) (λ_ _ _ _=>(yE aA hr rfl (zA (zB 0) zH)))) zH))))))) (zf (zk wB)) yY)
  (za (yZ (PW.pt (wt (wF (xq (zr wk rfl B.isinstance_ xG (zA (zB 2) (zA (wP (v:=.ty "list") (u:=.type "list") rfl B.list_ vC rfl) zH))))) (vL (yo xO (zr yF rfl B.len_ xQ (zA (zB 2) zH)) zK (yb _))))) (zf (zk wB)) yY)
  (zf (zk (zr (uT rfl) rfl B.all_ uV (zA (wc (own:=["mode"]) (caps:=[(0,"many"),(1,"pushes")]) (vD (S:=zQ qV) (N:=["many","pushes","modes"]) rfl (by decide +kernel) rfl ⟨_,rfl⟩ rfl (by decide +kernel) (by decide +kernel)) rfl (wu (zB 2)) (λ_ _ _ _=>yg (i:=0) (show (["mode","many","pushes"]:List Str).Nodup by decide +kernel) rfl (Or.inl rfl)) (λ_ _ _ _=>(yE aB hr rfl (zA (zB 0) (zA (zB 1) (zA (zr (show yk _ _ (wj K) from yF) rfl B.len_ xQ (zA (zB 2) zH)) zH)))))) zH))))))),?_⟩
 try dsimp only [zF,Cx.nox,Cx.wish]
 refine ⟨_,rfl,v1,m,rfl,hv1,?_⟩
 by_cases c0:yG m=true
 case neg=>
  rw [Bool.not_eq_true] at c0
  have z:=q _ (zC.refl _)
  rw [show xM m p0 ms=false from by unfold xM; rw [UE c0]; rfl] at z
  rw [c0]
  exact ⟨_,rfl,xj z⟩
 rw [c0]
 obtain ⟨n,rfl,rfl⟩:=hv1.whole_inv c0
 refine ⟨_,rfl,xU ?_⟩
 refine ⟨_,rfl,_,_,rfl,rfl,_,rfl,?_⟩
 by_cases c1:n < 1
 ·have z:=q _ (zC.refl _)
  rw [show xM (.int n) p0 ms=false from by show ((decide (1<=n) && _) && _)=false; rw [decide_eq_false (by omega)]; rfl] at z
  exact yq (decide_eq_true c1) z
 refine yK (decide_eq_false c1) ?_
 refine ⟨_,rfl,_,_,rfl,rfl,_,rfl,?_⟩
 by_cases c3:n > 3
 ·have z:=q _ (zC.refl _)
  rw [show xM (.int n) p0 ms=false from by show ((decide (1<=n) && decide (n<=3)) && _)=false; rw [decide_eq_false (show ¬ n<=3 by omega),Bool.and_false]; rfl] at z
  exact yq (decide_eq_true c3) z
 refine yK (decide_eq_false c3) ?_
 have mm:ub (.int n)=true:=by show (decide (1<=n) && decide (n<=3))=true; rw [decide_eq_true (by omega),decide_eq_true (by omega)]; rfl
 replace q:∀ H',zC H H'->Q (.bl (wD p0 && xo n (yL p0) ms)) H':=λH' s=>by
  have:=q H' s
  unfold xM at this
  rw [mm] at this
  exact this
 obtain ⟨ty,ak⟩:=hv2.ask ae Y
 refine ⟨_,rfl,_,_,_,_,rfl,ak.ty,ak.l,_,rfl,?_⟩
 cases hv2 with
 | @lst p xs as e h=>
  have lx:xs.length=as.length:=Paired.length h
  obtain ⟨fw,fw2⟩:=fp.lst_inv
  refine yK rfl ?_
  refine ⟨_,rfl,p,rfl,⟨_,zM.of e⟩,vB (K:=K) (a:=p) (xs:=xs) (λi ys σ H'=>ys=((as.take i).map xK).map V.bl/\(∃ o,σ=[o])/\zC H H')
   ⟨rfl,⟨none,rfl⟩,zC.refl _⟩ (λi ys σ H' hi ⟨e1,_,sm⟩=>⟨zM.of (sm _ _ e),by rw [e1,List.length_map,List.length_map,List.length_take]; exact Nat.min_le_left _ _⟩) (Nat.le_of_lt (zq (by omega))) ?_ ?_⟩
  ·rintro i x ys σ H' hi ⟨rfl,⟨o,rfl⟩,sm⟩
   obtain ⟨a1,ha1,hx⟩:=xJ h hi
   refine ⟨_,rfl,x,a1,rfl,hx.same sm,?_,⟨_,rfl⟩,sm⟩
   rw [wT ha1,List.map_append,List.map_append]
   rfl
  rintro ys σ J ⟨rfl,⟨o,rfl⟩,sm⟩ l hl
  refine ⟨l,_,rfl,zM.of zJ,?_⟩
  have zl:=zL hl (HO.lst (((as.take xs.length).map xK).map V.bl))
  rw [List.take_of_length_le (by omega)] at zl |-
  rw [show ((as.map xK).all id)=as.all xK by rw [List.all_map]; rfl]
  have s2:=sm.trans zl
  by_cases c:as.all xK=true
  case neg=>
   rw [Bool.not_eq_true] at c
   have z:=q _ s2
   rw [show wD (.lst as)=false from c] at z
   rw [c]
   exact ⟨_,rfl,xj z⟩
  rw [c]
  refine ⟨_,rfl,xU ?_⟩
  clear zl hl
  generalize upd J l (HO.lst ((as.map xK).map V.bl))=J2 at s2 |-
  replace hv3:=hv3.same s2
  replace q:∀ H',zC J2 H'->Q (.bl (xo n ((xs.length:Nat):Int) ms)) H':=λH' s=>by
   have:=q H' (s2.trans s)
   rw [show wD (.lst as)=true from c,show yL (.lst as)=((xs.length:Nat):Int) from by rw [lx]; rfl] at this
   exact this
  obtain ⟨ty2,ak2⟩:=hv3.ask ae Y
  refine ⟨_,rfl,_,_,_,_,rfl,ak2.ty,ak2.l,_,rfl,?_⟩
  cases hv3 with
  | @lst p2 xs2 as2 e2 h2=>
   have lx2:xs2.length=as2.length:=Paired.length h2
   obtain ⟨fm1,fm2⟩:=fm.lst_inv
   refine yK rfl ?_
   refine ⟨_,rfl,p2,_,rfl,.inl (zM.of e2),rfl,_,rfl,?_⟩
   by_cases cz:((xs2.length:Nat):Int)=0
   ·have z:=q _ (zC.refl _)
    rw [show xo n ((xs.length:Nat):Int) (.lst as2)=false from by show (!decide ((as2.length:Int)=0) && _)=false; rw [decide_eq_true (by omega)]; rfl] at z
    exact yq (uW cz) z
   refine yK (uX cz) ?_
   refine ⟨_,rfl,p2,rfl,⟨_,zM.of e2⟩,vB (K:=K) (a:=p2) (xs:=xs2) (λi ys σ H'=>ys=((as2.take i).map (yX n ((xs.length:Nat):Int))).map V.bl/\(∃ o,σ=[o,some (.int n),some (.ref p)])/\zC J2 H')
    ⟨rfl,⟨none,rfl⟩,zC.refl _⟩ (λi ys σ H' hi ⟨e1,_,sm⟩=>⟨zM.of (sm _ _ e2),by rw [e1,List.length_map,List.length_map,List.length_take]; exact Nat.min_le_left _ _⟩) (Nat.le_of_lt (zq (by omega))) ?_ ?_⟩
   ·rintro i x ys σ H' hi ⟨rfl,⟨o,rfl⟩,sm⟩
    obtain ⟨a1,ha1,hx⟩:=xJ h2 hi
    refine ⟨_,rfl,_,rfl,_,rfl,p,_,rfl,.inl (zM.of (s2.trans sm _ _ e)),x,a1,n,((xs.length:Nat):Int),k2,rfl,(hx.same sm),fm2 a1 (List.mem_of_getElem? ha1),λH3 s3=>⟨?_,⟨_,rfl⟩,sm.trans s3⟩⟩
    rw [wT ha1,List.map_append,List.map_append]
    rfl
   rintro ys σ J3 ⟨rfl,⟨o,rfl⟩,sm⟩ l2 hl2
   refine ⟨l2,_,rfl,zM.of zJ,?_⟩
   have zl2:=zL hl2 (HO.lst (((as2.take xs2.length).map (yX n ((xs.length:Nat):Int))).map V.bl))
   rw [List.take_of_length_le (by omega)] at zl2 |-
   rw [show ((as2.map (yX n ((xs.length:Nat):Int))).all id)=as2.all (yX n ((xs.length:Nat):Int)) by rw [List.all_map]; rfl]
   have z:=q _ (sm.trans zl2)
   rw [show xo n ((xs.length:Nat):Int) (.lst as2)=as2.all (yX n ((xs.length:Nat):Int)) from by show (!decide ((as2.length:Int)=0) && _)=_; rw [decide_eq_false (by omega)]; rfl] at z
   exact z
  | _=>exact yq rfl (q _ (zC.refl _))
 | _=>exact yq rfl (q _ (zC.refl _))
noncomputable abbrev kH:Stmt:=Zf (xC 26) 0
theorem UI:yS ["self","rows","nexts","steer","push","add","divisor"] ["self","rows","nexts","steer","push","add","divisor"] (zQ kH):=.a
theorem UJ {k:Nat} {f:Addr} {fd:FuncData} {ac ad:Addr} (ae:zS K mg "Mode" ac) (af:yy K ac) (ag:zS K mg "Thing" ad) (ah:yz K ad) (Y:zj K ac) {C1 C2:Addr} (Z:yx K mg C1 C2) (F:yT K "__init__" "Mode.__init__" kH f fd) (B:Bl mg) (aj:vT P w K mg base "copied" ["value","depth"] k (jV ac 4) (.int 5)):zP P w K mg base zX (k + 1) f fd ["self","rows","nexts","steer","push","add","divisor"] (YJ ac):=by
 refine F.ok UI (λvs H Q E h=>?_) (λcdv A outer s H vs Q E hr h=>?_)
 ·obtain ⟨_,_,_,_,_,_,_,_,_,_,_,_,_,_,rfl,_⟩:=h
  rfl
 obtain ⟨o,dx,r,n,s9,p,a,d,R,N,S,P2,A9,D,rfl,ho,hr9,hn,hs,hp,ha,hd,f1,f2,f3,f4,f5,q⟩:=h
 refine ⟨_,(za (vR (zB 0) (jG aj hr rfl (zA (zB 1) zH)) rfl)
  (za (vR (zB 0) (jG aj hr rfl (zA (zB 2) zH)) rfl)
  (za (vR (zB 0) (jG aj hr rfl (zA (zB 3) zH)) rfl)
  (za (vR (zB 0) (jG aj hr rfl (zA (zB 4) zH)) rfl)
  (za (vR (zB 0) (jG aj hr rfl (zA (zB 5) zH)) rfl)
  (zf (vR (zB 0) (zB 6) rfl))))))),?_⟩
 try dsimp only [zF,Cx.nox,Cx.wish]
 have G0:yf o H H:=λ_ _ e _=>e
 refine ⟨_,rfl,r,R,5,rfl,hr9,f1,λx1 H1 s1 y1=>?_⟩
 refine ⟨_,rfl,o,ac,dx,_,rfl,(s1 _ _ ho),ae.cl,af.n_rows,(by show 0 < 1000; decide),?_⟩
 have o1:=zJ (H:=H1) (a:=o) (o:=HO.ins ac dx (zI "rows" x1 []))
 have T1:yf o H1 (upd H1 o (HO.ins ac dx (zI "rows" x1 []))):=vX o H1 _
 have G1:=G0.trans ((zC.but s1).trans T1)
 have b1:=s1 _ _ ho
 generalize hJ1:upd H1 o (HO.ins ac dx (zI "rows" x1 []))=J1 at o1 T1 G1 |-
 refine ⟨_,rfl,n,N,5,rfl,(AV.keepB ho (by decide) G1 hn),f2,λx2 H2 s2 y2=>?_⟩
 refine ⟨_,rfl,o,ac,dx,_,rfl,(s2 _ _ o1),ae.cl,af.n_nexts,(by show 1 < 1000; decide),?_⟩
 have o2:=zJ (H:=H2) (a:=o) (o:=HO.ins ac dx (zI "nexts" x2 (zI "rows" x1 [])))
 have T2:yf o H2 (upd H2 o (HO.ins ac dx (zI "nexts" x2 (zI "rows" x1 [])))):=vX o H2 _
 have G2:=G1.trans ((zC.but s2).trans T2)
 have b2:=s2 _ _ o1
 generalize hJ2:upd H2 o (HO.ins ac dx (zI "nexts" x2 (zI "rows" x1 [])))=J2 at o2 T2 G2 |-
 refine ⟨_,rfl,s9,S,5,rfl,(AV.keepB ho (by decide) G2 hs),f3,λx3 H3 s3 y3=>?_⟩
 refine ⟨_,rfl,o,ac,dx,_,rfl,(s3 _ _ o2),ae.cl,af.n_steer,(by show 2 < 1000; decide),?_⟩
 have o3:=zJ (H:=H3) (a:=o) (o:=HO.ins ac dx (zI "steer" x3 (zI "nexts" x2 (zI "rows" x1 []))))
 have T3:yf o H3 (upd H3 o (HO.ins ac dx (zI "steer" x3 (zI "nexts" x2 (zI "rows" x1 []))))):=vX o H3 _
 have G3:=G2.trans ((zC.but s3).trans T3)
 have b3:=s3 _ _ o2
 generalize hJ3:upd H3 o (HO.ins ac dx (zI "steer" x3 (zI "nexts" x2 (zI "rows" x1 []))))=J3 at o3 T3 G3 |-
 refine ⟨_,rfl,p,P2,5,rfl,(AV.keepB ho (by decide) G3 hp),f4,λx4 H4 s4 y4=>?_⟩
 refine ⟨_,rfl,o,ac,dx,_,rfl,(s4 _ _ o3),ae.cl,af.n_push,(by show 3 < 1000; decide),?_⟩
 have o4:=zJ (H:=H4) (a:=o) (o:=HO.ins ac dx (zI "push" x4 (zI "steer" x3 (zI "nexts" x2 (zI "rows" x1 [])))))
 have T4:yf o H4 (upd H4 o (HO.ins ac dx (zI "push" x4 (zI "steer" x3 (zI "nexts" x2 (zI "rows" x1 [])))))):=vX o H4 _
 have G4:=G3.trans ((zC.but s4).trans T4)
 have b4:=s4 _ _ o3
 generalize hJ4:upd H4 o (HO.ins ac dx (zI "push" x4 (zI "steer" x3 (zI "nexts" x2 (zI "rows" x1 [])))))=J4 at o4 T4 G4 |-
 refine ⟨_,rfl,a,A9,5,rfl,(AV.keepB ho (by decide) G4 ha),f5,λx5 H5 s5 y5=>?_⟩
 refine ⟨_,rfl,o,ac,dx,_,rfl,(s5 _ _ o4),ae.cl,af.n_add,(by show 4 < 1000; decide),?_⟩
 have o5:=zJ (H:=H5) (a:=o) (o:=HO.ins ac dx (zI "add" x5 (zI "push" x4 (zI "steer" x3 (zI "nexts" x2 (zI "rows" x1 []))))))
 have T5:yf o H5 (upd H5 o (HO.ins ac dx (zI "add" x5 (zI "push" x4 (zI "steer" x3 (zI "nexts" x2 (zI "rows" x1 []))))))):=vX o H5 _
 have G5:=G4.trans ((zC.but s5).trans T5)
 have b5:=s5 _ _ o4
 generalize hJ5:upd H5 o (HO.ins ac dx (zI "add" x5 (zI "push" x4 (zI "steer" x3 (zI "nexts" x2 (zI "rows" x1 []))))))=J5 at o5 T5 G5 |-
 refine ⟨_,rfl,_,rfl,o,ac,dx,_,rfl,o5,ae.cl,af.n_divisor,(by show 5 < 1000; decide),?_⟩
 have e6:upd J5 o (HO.ins ac dx (zI "divisor" d (zI "add" x5 (zI "push" x4 (zI "steer" x3 (zI "nexts" x2 (zI "rows" x1 []))))))) o=some (.ins ac dx (gz x1 x2 x3 x4 x5 d)):=zJ.trans (by rw [UD])
 have T6:yf o J5 (upd J5 o (HO.ins ac dx (zI "divisor" d (zI "add" x5 (zI "push" x4 (zI "steer" x3 (zI "nexts" x2 (zI "rows" x1 [])))))))):=vX o J5 _
 generalize hJ6:upd J5 o (HO.ins ac dx (zI "divisor" d (zI "add" x5 (zI "push" x4 (zI "steer" x3 (zI "nexts" x2 (zI "rows" x1 [])))))))=J6 at e6 T6 |-
 have U5:yf o H5 J6:=T5.trans T6
 have U4:yf o H4 J6:=T4.trans ((zC.but s5).trans U5)
 have U3:yf o H3 J6:=T3.trans ((zC.but s4).trans U4)
 have U2:yf o H2 J6:=T2.trans ((zC.but s3).trans U3)
 have U1:yf o H1 J6:=T1.trans ((zC.but s2).trans U2)
 have G6:yf o H J6:=G5.trans T6
 exact q J6 G6 (.mode e6 (AV.keepB b1 (by show (0:Nat)≠6; decide) U1 y1) (AV.keepB b2 (by show (1:Nat)≠6; decide) U2 y2) (AV.keepB b3 (by show (2:Nat)≠6; decide) U3 y3) (AV.keepB b4 (by show (3:Nat)≠6; decide) U4 y4) (AV.keepB b5 (by show (4:Nat)≠6; decide) U5 y5) (AV.keepB ho (by decide) G6 hd))
noncomputable abbrev kI:Stmt:=Zf (xC 27) 0
theorem UK:yS ["self","many","pushes","modes"] ["self","many","pushes","modes"] (zQ kI):=.a
theorem UL {k:Nat} {f:Addr} {fd:FuncData} {ac ad:Addr} (ae:zS K mg "Mode" ac) (af:yy K ac) (ag:zS K mg "Thing" ad) (ah:yz K ad) (Y:zj K ac) {C1 C2:Addr} (Z:yx K mg C1 C2) (F:yT K "__init__" "Thing.__init__" kI f fd) (B:Bl mg) (aD:Fn P w K mg base "is_sound" ["many","pushes","modes"] k (YI ac)):zP P w K mg base (xv P w) (k + 1) f fd ["self","many","pushes","modes"] (kG ad ac C1 C2):=by
 refine F.okX UK (λvs H Q E h=>?_) (λcdv A outer s H vs Q E hr h=>?_)
 ·obtain ⟨_,_,_,_,_,_,_,_,_,rfl,_⟩:=h
  rfl
 obtain ⟨o,dx,v1,v2,v3,m,p,ms,k2,rfl,ho,hv1,hv2,hv3,fp,fm,q1,q2,q3⟩:=h
 refine ⟨_,(za (yZ (wF (xq (yE aD hr rfl (zA (zB 1) (zA (zB 2) (zA (zB 3) zH)))))) (zf (Z8 (C:=C1) (E:=E) (λ_ _ _ _ _ _ _ _ I mx qx=>Z7 I mx qx) Z.exc1 rfl Z.mg1 rfl (zA xS zH))) yY)
  (za (yZ (PW.pt (wt (yo (zw gG) (zr yF rfl B.len_ xQ (zA (zB 2) zH)) (gl rfl B.MOST_PUSHES_) (yb _)) (vL (yo (zw gG) (zr yF rfl B.len_ xQ (zA (zB 3) zH)) (gl rfl B.MOST_MODES_) (yb _))))) (zf (Z8 (C:=C2) (E:=E) (λ_ _ _ _ _ _ _ _ I mx qx=>Z7 I mx qx) Z.exc2 rfl Z.mg2 rfl (zA xS zH))) yY)
  (za (vR (zB 0) (zB 1) rfl)
  (za (vR (zB 0) (wQ qF rfl B.list_ vC (zA (zB 2) zH)) rfl)
  (zf (vR (zB 0) (wQ qF rfl B.list_ vC (zA (zB 3) zH)) rfl)))))),?_⟩
 try dsimp only [zF,Cx.nox,Cx.wish]
 refine ⟨_,rfl,_,rfl,_,rfl,v1,v2,v3,m,p,ms,k2,rfl,hv1,hv2,hv3,fp,fm,λH1 s1=>?_⟩
 by_cases c:xM m p ms=true
 case neg=>
  rw [Bool.not_eq_true] at c
  rw [c]
  exact ⟨_,rfl,xj ⟨(by show 1<=sizeLine; decide),q1 c _ s1⟩⟩
 obtain ⟨n,pp,pm,xs,xm,as,am,rfl,rfl,rfl,rfl,rfl,hpp,hpx,hpm,hmx⟩:=UF c hv1 hv2 hv3
 rw [c]
 refine ⟨_,rfl,xU ?_⟩
 have lp:xs.length=as.length:=Paired.length hpx
 have lm:xm.length=am.length:=Paired.length hmx
 refine ⟨_,rfl,pp,_,rfl,.inl (zM.of (s1 _ _ hpp)),_,_,rfl,rfl,_,rfl,?_⟩
 by_cases c6:((xs.length:Nat):Int) > 6
 ·exact yq (decide_eq_true c6) ⟨(by show 1<=sizeLine; decide),q2 c (.inl (by show (as.length:Int) > 6; omega)) _ s1⟩
 refine yK (decide_eq_false c6) ?_
 refine ⟨_,rfl,pm,_,rfl,.inl (zM.of (s1 _ _ hpm)),_,_,rfl,rfl,_,rfl,?_⟩
 by_cases c4:((xm.length:Nat):Int) > 40
 ·exact yq (decide_eq_true c4) ⟨(by show 1<=sizeLine; decide),q2 c (.inr (by show (am.length:Int) > 40; omega)) _ s1⟩
 refine yK (decide_eq_false c4) ?_
 have q9:=q3 c (λz=>by
  rcases z with z | z
  ·have:(as.length:Int) > 6:=z
   omega
  ·have:(am.length:Int) > 40:=z
   omega)
 have ho1:=s1 _ _ ho
 refine ⟨_,rfl,_,rfl,o,ad,dx,_,rfl,ho1,ag.cl,ah.n_many,(by show 0 < 1000; decide),?_⟩
 have NI:∀ (fs:List (Str × V)) (l:List V),HO.lst l≠.ins ad dx fs:=λ_ _ z=>by cases z
 have e2:=zJ (H:=H1) (a:=o) (o:=HO.ins ad dx (zI "many" (.int n) []))
 have T2:yf o H1 (upd H1 o (HO.ins ad dx (zI "many" (.int n) []))):=vX o H1 _
 generalize hH2:upd H1 o (HO.ins ad dx (zI "many" (.int n) []))=H2 at e2 T2 |-
 have hpa2:=keepB ho1 T2 (s1 _ _ hpp) (NI _ _)
 have hma2:=keepB ho1 T2 (s1 _ _ hpm) (NI _ _)
 refine ⟨_,rfl,pp,xs,rfl,.inl (zM.of hpa2),λkp hkp=>?_⟩
 have z3:=zL hkp (HO.lst xs)
 have G2:yf o H H2:=(zC.but s1).trans T2
 generalize hH3:upd H2 kp (HO.lst xs)=H3 at z3 |-
 refine ⟨_,rfl,o,ad,dx,_,rfl,(z3 _ _ e2),ag.cl,ah.n_kept_pushes,(by show 1 < 1000; decide),?_⟩
 have e4:=zJ (H:=H3) (a:=o) (o:=HO.ins ad dx (zI "kept_pushes" (.ref kp) (zI "many" (.int n) [])))
 have T4:yf o H3 (upd H3 o (HO.ins ad dx (zI "kept_pushes" (.ref kp) (zI "many" (.int n) [])))):=vX o H3 _
 generalize hH4:upd H3 o (HO.ins ad dx (zI "kept_pushes" (.ref kp) (zI "many" (.int n) [])))=H4 at e4 T4 |-
 have hma4:=keepB (z3 _ _ e2) T4 (z3 _ _ hma2) (NI _ _)
 refine ⟨_,rfl,pm,xm,rfl,.inl (zM.of hma4),λkm hkm=>?_⟩
 have z5:=zL hkm (HO.lst xm)
 have G4:yf o H H4:=G2.trans ((zC.but z3).trans T4)
 generalize hH5:upd H4 km (HO.lst xm)=H5 at z5 |-
 refine ⟨_,rfl,o,ad,dx,_,rfl,(z5 _ _ e4),ag.cl,ah.n_kept_modes,(by show 2 < 1000; decide),?_⟩
 exact q9 _ (G4.trans ((zC.but z5).trans (vX o H5 _)))
end
end K12
namespace K12
open PySem L2 Sh
theorem YO (n d k:Nat):HT.sIx n d (some (k:Int))=min k n:=HT.sIx_nat n d k
theorem wo (xs:List V) (k:Nat):zT xs none (some (k:Int))=xs.take k:=by
 unfold zT
 rw [HT.sIx_none,YO,List.drop_zero,Nat.sub_zero]
 exact List.take_eq_take_iff.mpr (by omega)
theorem wp (xs:List V) (k:Nat):zT xs (some (k:Int)) none=xs.drop k:=by
 unfold zT
 rw [HT.sIx_none,YO,List.take_of_length_le (by rw [List.length_drop]; omega)]
 by_cases h:k<=xs.length
 ·rw [Nat.min_eq_left h]
 ·rw [Nat.min_eq_right (by omega),List.drop_length,List.drop_of_length_le (by omega)]
theorem jb (xs:List V) (k:Nat):zT xs (some ((k:Int) + 1)) none=xs.drop (k + 1):=wp xs (k + 1)
theorem UM (xs:List V):zT xs none (some (-1))=xs.take (xs.length - 1):=by
 unfold zT
 have e:HT.sIx xs.length xs.length (some (-1))=xs.length - 1:=by
  show (if (-1:Int) < 0 then ((-1:Int) + (xs.length:Int)).toNat else min (-1:Int).toNat xs.length)=_
  rw [if_pos (by decide)]
  omega
 rw [HT.sIx_none,e,List.drop_zero,Nat.sub_zero]
theorem wW {α β:Type} {R:α->β->Prop}:∀ {xs:List α} {ys:List β} (n:Nat),Paired R xs ys->Paired R (xs.take n) (ys.take n)
 | _,_,0,_=>.nil
 | _,_,_ + 1,.nil=>.nil
 | _,_,n + 1,.cons h t=>.cons h (wW n t)
theorem wA {α β:Type} {R:α->β->Prop}:∀ {xs:List α} {ys:List β} (n:Nat),Paired R xs ys->Paired R (xs.drop n) (ys.drop n)
 | _,_,0,h=>h
 | _,_,_ + 1,.nil=>.nil
 | _,_,n + 1,.cons _ t=>wA n t
theorem vb {α:Type} (xs:List α) (n:Nat):(xs.take n).length<=xs.length:=by rw [List.length_take]; omega
theorem wL {α:Type} (xs:List α) (n:Nat):(xs.drop n).length<=xs.length:=by rw [List.length_drop]; omega
theorem zc {k:Nat} {a:AK} {as:List AK} (h:FA k a) (t:∀ a∈as,FA k a):∀ x∈a :: as,FA k x:=λx m=>by
 rcases List.mem_cons.mp m with rfl | m
 ·exact h
 ·exact t x m
theorem xE {k:Nat} {as bs:List AK} (h:∀ a∈as,FA k a) (t:∀ a∈bs,FA k a):∀ x∈as++bs,FA k x:=λx m=>by
 rcases List.mem_append.mp m with m | m
 ·exact h x m
 ·exact t x m
theorem vc {k n:Nat} {as:List AK} (h:∀ a∈as,FA k a):∀ x∈as.take n,FA k x:=λx m=>h x (List.mem_of_mem_take m)
theorem wM {k n:Nat} {as:List AK} (h:∀ a∈as,FA k a):∀ x∈as.drop n,FA k x:=λx m=>h x (List.mem_of_mem_drop m)
noncomputable def GV (C:Addr) (P:AK->Prop) (k:Nat) (H:Hp) (x:V):Prop:=∃ a,AV C H x a/\P a/\FA k a
noncomputable def yH (C:Addr) (P:AK->Prop) (k:Nat) (H:Hp) (xs:List V):Prop:=∀ x∈xs,GV C P k H x
theorem GV.same {C:Addr} {P:AK->Prop} {k:Nat} {H H':Hp} {x:V} (s:zC H H') (h:GV C P k H x):GV C P k H' x:=
 let ⟨a,h1,h2⟩:=h
 ⟨a,h1.same s,h2⟩
theorem yH.same {C:Addr} {P:AK->Prop} {k:Nat} {H H':Hp} {xs:List V} (s:zC H H') (h:yH C P k H xs):yH C P k H' xs:=λx m=>(h x m).same s
theorem yH.nil {C:Addr} {P:AK->Prop} {k:Nat} {H:Hp}:yH C P k H []:=λ_ h=>nomatch h
theorem yH.cons {C:Addr} {P:AK->Prop} {k:Nat} {H:Hp} {x:V} {xs:List V} (h:GV C P k H x) (t:yH C P k H xs):yH C P k H (x :: xs):=λy m=>by
 rcases List.mem_cons.mp m with rfl | m
 ·exact h
 ·exact t y m
noncomputable def zD (ns:List Int):AK:=.lst (ns.map AK.int)
noncomputable def zZ (ns:List Int):AK:=.tup (ns.map AK.int)
theorem xp {C:Addr} {H:Hp}:∀ ns:List Int,Paired (AV C H) (ns.map V.int) (ns.map AK.int)
 | []=>.nil
 | n :: t=>.cons (.int n) (xp t)
theorem wX {k:Nat} {ns:List Int}:∀ a∈ns.map AK.int,FA (k + 1) a:=λa m=>by
 obtain ⟨i,_,rfl⟩:=List.mem_map.mp m
 exact .int i
theorem qW {as:List AK} {n:Int} (e:(as.length:Int)≠n):zo n (.lst as)=false:=by
 show (decide ((as.length:Int)=n) && _)=false
 rw [decide_eq_false e]
 rfl
theorem UN {as:List AK} {n:Int} {a:AK} (m:a∈as) (e:yG a=false):zo n (.lst as)=false:=by
 show (_ && as.all yG)=false
 rw [List.all_eq_false.mpr ⟨a,m,by rw [e]; exact Bool.false_ne_true⟩,Bool.and_false]
theorem qX {as:List AK} {n:Int} (e:(as.length:Int)≠n + 1):zx n (.tup as)=false:=by
 show (decide ((as.length:Int)=n + 1) && _)=false
 rw [decide_eq_false e]
 rfl
theorem UO {as:List AK} {n:Int} {a:AK} (m:a∈as) (e:yG a=false):zx n (.tup as)=false:=by
 show (_ && as.all yG)=false
 rw [List.all_eq_false.mpr ⟨a,m,by rw [e]; exact Bool.false_ne_true⟩,Bool.and_false]
theorem wa {P:AK->Prop} {k:Nat}:∀ x∈([]:List AK),P x/\FA k x:=λ_ h=>nomatch h
theorem zg {P:AK->Prop} {k:Nat} {a:AK} {as:List AK} (h:P a) (f:FA k a) (t:∀ x∈as,P x/\FA k x):∀ x∈a :: as,P x/\FA k x:=λx m=>by
 rcases List.mem_cons.mp m with rfl | m
 ·exact ⟨h,f⟩
 ·exact t x m
theorem wq {C:Addr} {P:AK->Prop} {k:Nat} {H:Hp}:∀ {xs:List V} {as:List AK},Paired (AV C H) xs as->(∀ a∈as,P a/\FA k a)->yH C P k H xs
 | _,_,.nil,_=>.nil
 | _,_,.cons h t,g=>.cons ⟨_,h,g _ List.mem_cons_self⟩ (wq t λa m=>g a (List.mem_cons_of_mem _ m))
theorem wr {xs:List V} {z:Int} (h0:0<=z) (h1:z < (xs.length:Int)):∃ x∈xs,xb xs z=some x:=by
 obtain ⟨k,rfl⟩:=Int.eq_ofNat_of_zero_le h0
 have hk:k < xs.length:=by omega
 exact ⟨xs[k],List.getElem_mem hk,wR (List.getElem?_eq_getElem hk)⟩
inductive qY (C:Addr) (vs:List V) (H:Hp) (Q:VK) (E:XK):Prop
 | mk (c:Int) (_:vs=[.int c]) (_:∀ (v:V) (H':Hp),zC H H'->GV C (λa=>yG a=false) 2 H' v->Q v H'):qY C vs H Q E
inductive kJ (C:Addr) (vs:List V) (H:Hp) (Q:VK) (E:XK):Prop
 | mk (c:Int) (la:Addr) (ns:List Int) (_:vs=[.int c,.ref la]) (_:H la=some (.lst (ns.map V.int))) (_:1<=ns.length) (_:ns.length<=100) (_:∀ (v:V) (H':Hp),zC H H'->GV C (λa=>zo (ns.length:Int) a=false) 3 H' v->Q v H'):kJ C vs H Q E
inductive kK (C:Addr) (vs:List V) (H:Hp) (Q:VK) (E:XK):Prop
 | mk (c:Int) (ra:Addr) (ns:List Int) (n:Nat) (_:vs=[.int c,.ref ra]) (_:H ra=some (.tup (ns.map V.int))) (_:ns.length=n + 1) (_:1<=n) (_:n<=100) (_:∀ (v:V) (H':Hp),zC H H'->GV C (λa=>zx (n:Int) a=false) 3 H' v->Q v H'):kK C vs H Q E
theorem jc (xs:List Int) {a b:Nat} (h:a<=b) (hb:b<=xs.length):zT (xs.map V.int) (some (a:Int)) (some (b:Int))=((xs.drop a).take (b - a)).map V.int:=by
 have e1:HT.sIx (xs.map V.int).length 0 (some (a:Int))=min a (xs.map V.int).length:=HT.sIx_nat _ 0 a
 have e2:HT.sIx (xs.map V.int).length (xs.map V.int).length (some (b:Int))=min b (xs.map V.int).length:=HT.sIx_nat _ _ b
 unfold zT
 rw [e1,e2,List.length_map,Nat.min_eq_left hb,Nat.min_eq_left (show a<=xs.length by omega),<- List.map_drop,<- List.map_take]
theorem jd {xs:List Int} {a b:Nat} (h:a<=b) (hb:b<=xs.length):((xs.drop a).take (b - a)).length=b - a:=by
 rw [List.length_take,List.length_drop]
 omega
theorem YQ {xs:List Int} {a b e:Nat} (h:∀ x∈xs,Bd e x):∀ x∈(xs.drop a).take (b - a),Bd e x:=λx hx=>h x (List.mem_of_mem_drop (List.mem_of_mem_take hx))
structure qZ (H:Hp) (r n s p a:Addr) (rv nv pv:List V) (m:MD):Prop where
 hr:H r=some (.lst rv)
 hrv:xD H rv m.rows
 hn:H n=some (.lst nv)
 hnv:zY H nv m.nexts
 hs:H s=some (.lst (m.steer.map V.int))
 hp:H p=some (.lst pv)
 hpv:zY H pv m.push
 ha:H a=some (.lst (m.add.map V.int))
theorem qZ.same {H H':Hp} {r n s p a:Addr} {rv nv pv:List V} {m:MD} (z:zC H H') (h:qZ H r n s p a rv nv pv m):qZ H' r n s p a rv nv pv m:=
 ⟨z _ _ h.hr,xD.same z h.hrv,z _ _ h.hn,zY.same z h.hnv,z _ _ h.hs,z _ _ h.hp,zY.same z h.hpv,z _ _ h.ha⟩
noncomputable def wE (H:Hp) (v:V) (m:MD):Prop:=∃ pl r n s p a rv nv pv,v=.ref pl/\H pl=some (.lst [.ref r,.ref n,.ref s,.ref p,.ref a,.int m.div])/\qZ H r n s p a rv nv pv m
theorem wE.same {H H':Hp} {v:V} {m:MD} (z:zC H H') (h:wE H v m):wE H' v m:=
 let ⟨pl,r,n,s,p,a,rv,nv,pv,e,hl,b⟩:=h
 ⟨pl,r,n,s,p,a,rv,nv,pv,e,z _ _ hl,b.same z⟩
inductive kL (vs:List V) (H:Hp) (Q:VK) (E:XK):Prop
 | mk (c mm ww:Int) (_:vs=[.int c,.int mm,.int ww]) (_:1<=mm) (_:mm<=3) (_:0<=ww) (_:ww<=6) (_:∀ (v:V) (m:MD) (H':Hp),zC H H'->wE H' v m->xW m mm.toNat ww.toNat->1<=m.rows.length->m.rows.length<=3->Q v H'):kL vs H Q E
structure P6 where
 r:AK
 n:AK
 s:AK
 p:AK
 a:AK
 d:AK
noncomputable def P6.lst (q:P6):AK:=.lst [q.r,q.n,q.s,q.p,q.a,q.d]
noncomputable def P6.mode (q:P6):AK:=.mode q.r q.n q.s q.p q.a q.d
structure vI (q:P6):Prop where
 r:FA 4 q.r
 n:FA 4 q.n
 s:FA 4 q.s
 p:FA 4 q.p
 a:FA 4 q.a
 d:FA 4 q.d
noncomputable def zv (m:MD):P6:=⟨.lst (m.rows.map zZ),.lst (m.nexts.map zD),zD m.steer,.lst (m.push.map zD),zD m.add,.int m.div⟩
theorem ue {C:Addr} {H:Hp} {tv:List V} {tab:List (List Int)} (h:zY H tv tab):Paired (AV C H) tv (tab.map zD):=by
 induction h with
 | nil=>exact .nil
 | cons h t ih=>
  obtain ⟨a,rfl,e⟩:=h
  exact .cons (.lst e (xp _)) ih
theorem kM {C:Addr} {H:Hp} {rv:List V} {rows:List (List Int)} (h:xD H rv rows):Paired (AV C H) rv (rows.map zZ):=by
 induction h with
 | nil=>exact .nil
 | cons h t ih=>
  obtain ⟨a,rfl,e⟩:=h
  exact .cons (.tup e (xp _)) ih
theorem je {k:Nat} {tab:List (List Int)} {w:Nat} (h:∀ r∈tab,r.length=w) (l:w<=900):∀ a∈tab.map zD,FA (k + 2) a:=λa m=>by
 obtain ⟨r,hr,rfl⟩:=List.mem_map.mp m
 exact .lst (by rw [List.length_map,h r hr]; exact l) wX
theorem YR {k:Nat} {tab:List (List Int)} {w:Nat} (h:∀ r∈tab,r.length=w) (l:w<=900):∀ a∈tab.map zZ,FA (k + 2) a:=λa m=>by
 obtain ⟨r,hr,rfl⟩:=List.mem_map.mp m
 exact .tup (by rw [List.length_map,h r hr]; exact l) wX
theorem qa {m:MD} {n w:Nat} (h:xW m n w):vI (zv m):=by
 have n3:=h.n3
 have p6:=h.p6
 exact ⟨.lst (by rw [List.length_map]; exact h.few) (YR h.rows (by omega)),.lst (by rw [List.length_map,h.nexts.1]; omega) (je h.nexts.2 (by omega)),.lst (by rw [List.length_map,h.steer]; omega) wX,.lst (by rw [List.length_map,h.push.1]; omega) (je h.push.2 (by omega)),.lst (by rw [List.length_map,h.add]; omega) wX,.int _⟩
theorem UP {as:List AK} {n:Int} {a:AK} (m:a∈as) (e:zx n a=false):xA n (.lst as)=false:=by
 show as.all (zx n)=false
 exact List.all_eq_false.mpr ⟨a,m,by rw [e]; exact Bool.false_ne_true⟩
theorem qb {as:List AK} {h w:Int} (e:(as.length:Int)≠h):zW h w (.lst as)=false:=by
 show (decide ((as.length:Int)=h) && _)=false
 rw [decide_eq_false e]
 rfl
theorem YS {as:List AK} {h w:Int} {a:AK} (m:a∈as) (e:zo w a=false):zW h w (.lst as)=false:=by
 show (_ && as.all (zo w))=false
 rw [List.all_eq_false.mpr ⟨a,m,by rw [e]; exact Bool.false_ne_true⟩,Bool.and_false]
theorem YT {n w:Int} {q:P6} (h:xA n q.r=false):yX n w q.mode=false:=by
 show (xA n q.r && _)=false
 rw [h]; rfl
theorem YU {n w:Int} {q:P6} (h:zW n n q.n=false):yX n w q.mode=false:=by
 show (xA n q.r && (zW n n q.n && _))=false
 rw [h]; simp
theorem YV {n w:Int} {q:P6} (h:zW n w q.p=false):yX n w q.mode=false:=by
 show (xA n q.r && (zW n n q.n && (zW n w q.p && _)))=false
 rw [h]; simp
theorem UQ {n w:Int} {q:P6} (h:zo n q.s=false):yX n w q.mode=false:=by
 show (xA n q.r && (zW n n q.n && (zW n w q.p && (zo n q.s && _))))=false
 rw [h]; simp
theorem UR {n w:Int} {q:P6} (h:zo n q.a=false):yX n w q.mode=false:=by
 show (xA n q.r && (zW n n q.n && (zW n w q.p && (zo n q.s && (zo n q.a && _)))))=false
 rw [h]; simp
theorem US {n w:Int} {q:P6} (h:xB q.d=false):yX n w q.mode=false:=by
 show (xA n q.r && (zW n n q.n && (zW n w q.p && (zo n q.s && (zo n q.a && xB q.d)))))=false
 rw [h]; simp
inductive kN (C:Addr) (vs:List V) (H:Hp) (Q:VK) (E:XK):Prop
 | mk (v:V) (m:MD) (c:Int) (n w:Nat) (_:vs=[v,.int c]) (_:wE H v m) (_:xW m n w) (_:1<=n) (_:w<=6) (_:1<=m.rows.length) (_:m.rows.length<=3) (_:∀ (v':V) (q:P6) (H':Hp),zC H H'->AV C H' v' q.lst->yX (n:Int) (w:Int) q.mode=false->vI q->Q v' H'):kN C vs H Q E
noncomputable def yC (b:Int × Int):AK:=.tup [.int b.1,.int b.2]
theorem vk {C:Addr} {H:Hp} {pv:List V} {bs:List (Int × Int)} (h:Paired (wJ H) pv bs):Paired (AV C H) pv (bs.map yC):=by
 induction h with
 | nil=>exact .nil
 | cons h t ih=>
  obtain ⟨a,rfl,e⟩:=h
  exact .cons (.tup e (.cons (.int _) (.cons (.int _) .nil))) ih
theorem kO {k:Nat} {bs:List (Int × Int)}:∀ a∈bs.map yC,FA (k + 2) a:=λa m=>by
 obtain ⟨b,_,rfl⟩:=List.mem_map.mp m
 exact .tup (by show 2<=900; decide) (zc (.int _) (zc (.int _) (λ_ h=>nomatch h)))
theorem UT {as:List AK} {a:AK} (m:a∈as) (e:xK a=false):wD (.lst as)=false:=List.all_eq_false.mpr ⟨a,m,by rw [e]; exact Bool.false_ne_true⟩
theorem kP {as:List AK} {n w:Int} {a:AK} (m:a∈as) (e:yX n w a=false):xo n w (.lst as)=false:=by
 show (_ && as.all (yX n w))=false
 rw [List.all_eq_false.mpr ⟨a,m,by rw [e]; exact Bool.false_ne_true⟩,Bool.and_false]
theorem UU {n w:Int} {a:AK} (e:a.isMode=true):xo n w a=false:=by
 cases a with
 | mode=>rfl
 | _=>cases e
inductive kQ (C:Addr) (vs:List V) (H:Hp) (Q:VK) (E:XK):Prop
 | mk (pa:Addr) (pv:List V) (bs:List (Int × Int)) (c:Int) (_:vs=[.ref pa,.int c]) (_:H pa=some (.lst pv)) (_:Paired (wJ H) pv bs) (_:bs.length<=6) (_:∀ (v:V) (H':Hp),zC H H'->GV C (λa=>wD a=false) 4 H' v->Q v H'):kQ C vs H Q E
inductive kR (C:Addr) (vs:List V) (H:Hp) (Q:VK) (E:XK):Prop
 | mk (ma:Addr) (mv:List V) (as:List AK) (c n w:Int) (_:vs=[.ref ma,.int c]) (_:H ma=some (.lst mv)) (_:Paired (AV C H) mv as) (_:1<=as.length) (_:as.length<=3) (_:(∀ a∈as,FA 5 a)) (_:(∀ a∈as,a.isMode=true)) (_:∀ (v:V) (H':Hp),zC H H'->GV C (λa=>xo n w a=false) 7 H' v->Q v H'):kR C vs H Q E
noncomputable def PQ (C:Addr) (H:Hp) (v:V) (q:P6):Prop:=AV C H v q.lst
theorem wN {C:Addr} {H H':Hp} {vs:List V} {qs:List P6} (s:zC H H') (h:Paired (PQ C H) vs qs):Paired (PQ C H') vs qs:=Paired.mapP h λ_ _ z=>AV.same s z
inductive qc (C:Addr) (vs:List V) (H:Hp) (Q:VK) (E:XK):Prop
 | mk (sa:Addr) (sv:List V) (qs:List P6) (_:vs=[.ref sa]) (_:H sa=some (.lst sv)) (_:Paired (PQ C H) sv qs) (_:(∀ q∈qs,vI q)) (_:qs.length<=100) (_:∀ (l:Addr) (lv:List V) (H':Hp),zC H H'->H' l=some (.lst lv)->Paired (AV C H') lv (qs.map P6.mode)->Q (.ref l) H'):qc C vs H Q E
theorem kS {q:P6} (h:vI q):FA 5 q.mode:=.mode h.r h.n h.s h.p h.a h.d
theorem PQ.inv {C:Addr} {H:Hp} {v:V} {q:P6} (h:PQ C H v q):∃ (p:Addr) (r n s pp a d:V),v=.ref p/\H p=some (.lst [r,n,s,pp,a,d])/\AV C H r q.r/\AV C H n q.n/\AV C H s q.s/\AV C H pp q.p/\AV C H a q.a/\AV C H d q.d:=by
 unfold PQ P6.lst at h
 generalize hq:AK.lst [q.r,q.n,q.s,q.p,q.a,q.d]=al at h
 cases h with
 | lst e hp=>
  injection hq with hq
  subst hq
  cases hp with
  | cons h1 t=>cases t with
   | cons h2 t=>cases t with
    | cons h3 t=>cases t with
     | cons h4 t=>cases t with
      | cons h5 t=>cases t with
       | cons h6 t=>cases t with
        | nil=>exact ⟨_,_,_,_,_,_,_,rfl,e,h1,h2,h3,h4,h5,h6⟩
 | _=>cases hq
noncomputable def YW (C1 C2:Addr):Addr->Sp:=λe vs H Q _=>∃ (C:Addr) (b:zy),vs=[.ref e]/\H e=some (y8 e C)/\((C=C1/\b=.bad)\/(C=C2/\b=.many))/\∀ H',zC H H'->Q (.str b.str) H'
theorem UV:bootBuiltins "ValueError" = some (.type "ValueError"):=by decide +kernel
theorem UW {bs:List Bool} {i:Nat} {x:V} (h:(bs.map V.bl)[i]? = some x):∃ b,bs[i]? = some b/\x=.bl b:=by
 rw [List.getElem?_map] at h
 cases e:bs[i]? with
 | none=>rw [e] at h; cases h
 | some b=>rw [e] at h; exact ⟨b,rfl,(Option.some.inj h).symm⟩
inductive kT (C:Addr) (vs:List V) (H:Hp) (Q:VK) (E:XK):Prop
 | mk (v1 v2 v3:V) (m p ms:AK) (k:Nat) (_:vs=[v1,v2,v3]) (_:AV C H v1 m) (_:AV C H v2 p) (_:AV C H v3 ms) (_:FA k p) (_:FA k ms) (_:∀ H',zC H H'->Q (.str (wV m p ms).str) H'):kT C vs H Q E
theorem qd {m p ms:AK} (c:xM m p ms=false):wV m p ms=.bad:=by unfold wV; rw [if_neg (by rw [c]; exact Bool.false_ne_true)]
theorem kU {m p ms:AK} (c:xM m p ms=true) (h:yL p > 6\/yL ms > 40):wV m p ms=.many:=by unfold wV; rw [if_pos c,if_pos h]
theorem kW {m p ms:AK} (c:xM m p ms=true) (h:¬ (yL p > 6\/yL ms > 40)):wV m p ms=.made:=by unfold wV; rw [if_pos c,if_neg h]
theorem YX (ns:List Int):(ns.map AK.int).all yG=true:=List.all_eq_true.mpr λa m=>by
 obtain ⟨i,_,rfl⟩:=List.mem_map.mp m
 rfl
theorem jf {ns:List Int} {n:Nat} (h:ns.length=n):zo (n:Int) (zD ns)=true:=by
 show (decide (((ns.map AK.int).length:Int)=(n:Int)) && (ns.map AK.int).all yG)=true
 rw [List.length_map,h,decide_eq_true rfl,YX]
 rfl
theorem qe {tab:List (List Int)} {h w:Nat} (e:tab.length=h) (r:∀ x∈tab,x.length=w):zW (h:Int) (w:Int) (.lst (tab.map zD))=true:=by
 show (decide (((tab.map zD).length:Int)=(h:Int)) && (tab.map zD).all (zo (w:Int)))=true
 rw [List.length_map,e,decide_eq_true rfl,List.all_eq_true.mpr λa m=>by
  obtain ⟨x,hx,rfl⟩:=List.mem_map.mp m
  exact jf (r x hx)]
 rfl
theorem YY {rows:List (List Int)} {n:Nat} (r:∀ x∈rows,x.length=n + 1):xA (n:Int) (.lst (rows.map zZ))=true:=List.all_eq_true.mpr λa m=>by
 obtain ⟨x,hx,rfl⟩:=List.mem_map.mp m
 show (decide (((x.map AK.int).length:Int)=(n:Int) + 1) && (x.map AK.int).all yG)=true
 rw [List.length_map,r x hx,decide_eq_true (by omega),YX]
 rfl
theorem YZ {m:MD} {n w:Nat} (h:xW m n w):yX (n:Int) (w:Int) (zv m).mode=true:=by
 show (xA (n:Int) (.lst (m.rows.map zZ)) && (zW (n:Int) (n:Int) (.lst (m.nexts.map zD)) && (zW (n:Int) (w:Int) (.lst (m.push.map zD)) && (zo (n:Int) (zD m.steer) && (zo (n:Int) (zD m.add) && decide (1<=m.div))))))=true
 rw [YY h.rows,qe h.nexts.1 h.nexts.2,qe h.push.1 h.push.2,jf h.steer,jf h.add,decide_eq_true h.div]
 rfl
theorem kX {bs:List (Int × Int)} (h:∀ b∈bs,b.1<=b.2):wD (.lst (bs.map yC))=true:=List.all_eq_true.mpr λa m=>by
 obtain ⟨b,hb,rfl⟩:=List.mem_map.mp m
 show (true && (true && decide (b.1<=b.2)))=true
 rw [decide_eq_true (h b hb)]
 rfl
theorem UX {n:Nat} (h1:1<=n) (h3:n<=3):ub (.int (n:Int))=true:=by
 show (decide ((1:Int)<=(n:Int)) && decide ((n:Int)<=3))=true
 rw [decide_eq_true (by omega),decide_eq_true (by omega)]
 rfl
theorem UY {as:List AK} {n w:Int} (h1:as≠[]) (h:∀ a∈as,yX n w a=true):xo n w (.lst as)=true:=by
 show (!decide ((as.length:Int)=0) && as.all (yX n w))=true
 have:0 < as.length:=List.length_pos_iff.mpr h1
 rw [decide_eq_false (by omega),List.all_eq_true.mpr h]
 rfl
theorem kY {n:Nat} {p ms:AK} (h1:1<=n) (h3:n<=3) (hp:wD p=true) (hm:xo (n:Int) (yL p) ms=true):xM (.int (n:Int)) p ms=true:=by
 unfold xM
 rw [UX h1 h3,hp]
 exact hm
theorem UZ {m p ms:AK} (h:ub m=false):wV m p ms=.bad:=qd (by unfold xM; rw [h]; rfl)
theorem Ua {m p ms:AK} (h:wD p=false):wV m p ms=.bad:=qd (by unfold xM; rw [h]; simp)
theorem kZ {n:Int} {p ms:AK} (h:xo n (yL p) ms=false):wV (.int n) p ms=.bad:=qd (by
 unfold xM
 rw [show jU (.int n)=n from rfl,h]
 simp)
end K12
namespace K12
open PySem L2 Sh
section
variable {P:Program} {w:World} {K:PySem.W.Frag} {mg:Str->Option Value} {base:Heap}
noncomputable abbrev vm:Stmt:=xC 37
theorem Ub:yS ["_law_cell"] ["_law_cell"] (zQ vm):=.a
theorem Uc {k:Nat} {f:Addr} {fd:FuncData} {ac ad:Addr} (ae:zS K mg "Mode" ac) (af:yy K ac) (ag:zS K mg "Thing" ad) (ah:yz K ad) (Y:zj K ac) {C1 C2:Addr} (Z:yx K mg C1 C2) (F:yT K "_law_no_whole" "_law_no_whole" vm f fd) (B:Bl mg):zP P w K mg base zX (k + 1) f fd ["_law_cell"] (qY ac):=by
 refine F.ok Ub (λvs H Q E h=>?_) (λcdv A outer s H vs Q E hr h=>?_)
 ·obtain ⟨_,rfl,_⟩:=h
  rfl
 obtain ⟨c,rfl,q⟩:=h
 conv in (yQ vm)=>whnf
 generalize hL1:(Expr.List [(Expr.Constant (Const.bool true) 0 ⟨145,12,145,16⟩),(Expr.Constant (Const.bool false) 0 ⟨145,18,145,23⟩),(Expr.Constant Const.none 0 ⟨145,25,145,29⟩),(Expr.Constant (Const.str "1") 0 ⟨145,31,145,34⟩),(Expr.Tuple [(Expr.Constant (Const.int 1) 0 ⟨145,37,145,38⟩),(Expr.Constant (Const.int 1) 0 ⟨145,40,145,41⟩)] 0 ⟨145,36,145,42⟩),(Expr.List [(Expr.Constant (Const.int 1) 0 ⟨145,45,145,46⟩)] ⟨145,44,145,47⟩),(Expr.Tuple [(Expr.Constant (Const.int 1) 0 ⟨145,50,145,51⟩)] 0 ⟨145,49,145,53⟩)] ⟨145,11,145,54⟩)=l1
 have pl1:PE (zF zX P w K mg base ["_law_cell"] "_law_no_whole" (zQ vm) f cdv A outer s H E).nox l1 (tK ac (AK.lst [(AK.bool true),(AK.bool false),AK.non,(AK.str "1"),(AK.tup [(AK.int 1),(AK.int 1)]),(AK.lst [(AK.int 1)]),(AK.tup [(AK.int 1)])])):=vH hL1 (zU.lst (Paired.cons zU.bool (Paired.cons zU.bool (Paired.cons zU.non (Paired.cons zU.str (Paired.cons (zU.tup (Paired.cons zU.int (Paired.cons zU.int Paired.nil)) (by decide)) (Paired.cons (zU.lst (Paired.cons zU.int Paired.nil) (by decide)) (Paired.cons (zU.tup (Paired.cons zU.int Paired.nil) (by decide)) Paired.nil))))))) (by decide))
 have sl1:∀ es,starEach (l1 :: es) (zF zX P w K mg base ["_law_cell"] "_law_no_whole" (zQ vm) f cdv A outer s H E).nox.env=(false,eval l1 (zF zX P w K mg base ["_law_cell"] "_law_no_whole" (zQ vm) f cdv A outer s H E).nox.env) :: starEach es (zF zX P w K mg base ["_law_cell"] "_law_no_whole" (zQ vm) f cdv A outer s H E).nox.env:=vG hL1 (zU.lst (Paired.cons zU.bool (Paired.cons zU.bool (Paired.cons zU.non (Paired.cons zU.str (Paired.cons (zU.tup (Paired.cons zU.int (Paired.cons zU.int Paired.nil)) (by decide)) (Paired.cons (zU.lst (Paired.cons zU.int Paired.nil) (by decide)) (Paired.cons (zU.tup (Paired.cons zU.int Paired.nil) (by decide)) Paired.nil))))))) (by decide))
 refine ⟨_,(zf (zk (yJ yU pl1 (zO (ji yI) (zB 0) zK) (λ_ _=>rfl)))),?_⟩
 try dsimp only [zF,Cx.nox,Cx.wish]
 have k0:=Int.fmod_nonneg_of_pos c (show (0:Int) < 7 by decide)
 have k1:=Int.fmod_lt_of_pos c (show (0:Int) < 7 by decide)
 refine λv J y hv=>?_
 cases hv with
 | @lst p xs as e h=>
  have lx:xs.length=7:=Paired.length h
  have al:yH ac (λa=>yG a=false) 2 J xs:=wq h (zg (P:=(λa=>yG a=false)) rfl (FA.bool _) (zg (P:=(λa=>yG a=false)) rfl (FA.bool _) (zg (P:=(λa=>yG a=false)) rfl FA.non (zg (P:=(λa=>yG a=false)) rfl (FA.str _) (zg (P:=(λa=>yG a=false)) rfl (FA.tup (by decide) (zc (FA.int _) (zc (FA.int _) (λ_ h=>nomatch h)))) (zg (P:=(λa=>yG a=false)) rfl (FA.lst (by decide) (zc (FA.int _) (λ_ h=>nomatch h))) (zg (P:=(λa=>yG a=false)) rfl (FA.tup (by decide) (zc (FA.int _) (λ_ h=>nomatch h))) wa)))))))
  obtain ⟨xz,hxz,axz⟩:=wr (xs:=xs) k0 (by rw [lx]; exact k1)
  exact ⟨_,rfl,_,_,rfl,rfl,(show (7:Int)≠0 by decide),p,_,_,_,rfl,rfl,zM.of e,axz,q _ _ y (al xz hxz)⟩
noncomputable abbrev jg:Stmt:=xC 38
theorem ka:yS ["_law_cell","_law_one","_law_at","_law_some"] ["_law_cell","_law_one"] (zQ jg):=.a
theorem Ud {k:Nat} {f:Addr} {fd:FuncData} {ac ad:Addr} (ae:zS K mg "Mode" ac) (af:yy K ac) (ag:zS K mg "Thing" ad) (ah:yz K ad) (Y:zj K ac) {C1 C2:Addr} (Z:yx K mg C1 C2) (F:yT K "_law_no_list" "_law_no_list" jg f fd) (B:Bl mg) (ar:Fn P w K mg base "_law_no_whole" ["_law_cell"] k (qY ac)):zP P w K mg base zX (k + 1) f fd ["_law_cell","_law_one"] (kJ ac):=by
 refine F.ok ka (λvs H Q E h=>?_) (λcdv A outer s H vs Q E hr h=>?_)
 ·obtain ⟨_,_,_,rfl,_⟩:=h
  rfl
 obtain ⟨c,la,ns,rfl,hla,n1,n9,q⟩:=h
 obtain ⟨u_2,E_2,U_2⟩:=L2.wl (p:=λt=>yi (zF zX P w K mg base ["_law_cell","_law_one","_law_at","_law_some"] "_law_no_list" (zQ jg) f cdv A outer s H E).nox ((yQ jg).drop 2) t) (zf (zk (yJ yU (zO zh (zB 3) (zn (zA (yc yr (zB 1) (yM zK) yp) (zA xS zH)))) (zO (ji yI) (zB 0) zK) (λ_ _=>rfl))))
 refine ⟨_,(za (ya (i:=2) ka.nd rfl (Or.inl rfl) (zO (ji yI) (zO (ji xu) (zB 0) zK) (zO (zw ym) (zr yF rfl B.len_ xQ (zA (zB 1) zH)) zK)))
 (za (ya (i:=3) ka.nd rfl (Or.inl rfl) (zn (zA (zO zh (zB 1) (zn (zA zK zH))) (zA (zO zh (yc yr (zB 1) yp (yM (ux Y2 zK))) (zn (zA (yE ar hr rfl (zA (zO (ji xu) (zB 0) zK) zH)) zH))) (zA (wQ xn rfl B.tuple_ we (zA (zB 1) zH)) (zA wC (zA (zO zh (zO zh (yc yr (zB 1) yp (yM (zB 2))) (zn (zA wC zH))) (yc yr (zB 1) (yM (zB 2)) yp)) (zA ge zH))))))))
 U_2)),?_⟩
 try dsimp only [zF,Cx.nox,Cx.wish]
 have k0:=Int.fmod_nonneg_of_pos c (show (0:Int) < 8 by decide)
 have k1:=Int.fmod_lt_of_pos c (show (0:Int) < 8 by decide)
 have b8:Bd 10 (8:Int):=Bd.lit
 have lla:ns.length=(ns.map V.int).length:=(List.length_map _).symm
 have hla0:Paired (AV ac H) (ns.map V.int) (ns.map AK.int):=xp ns
 have j0:=Int.fmod_nonneg_of_pos (c.fdiv 8) (show (0:Int) < ((ns.map V.int).length:Int) + 1 by omega)
 have j1:=Int.fmod_lt_of_pos (c.fdiv 8) (show (0:Int) < ((ns.map V.int).length:Int) + 1 by omega)
 refine ⟨_,rfl,_,_,rfl,rfl,⟨by decide,b8.mono⟩,_,rfl,la,_,rfl,.inl (zM.of hla),_,_,rfl,rfl,_,_,rfl,rfl,(show ((ns.map V.int).length:Int) + 1≠0 by omega),?_⟩
 obtain ⟨j,ej⟩:=Int.eq_ofNat_of_zero_le j0
 rw [show (c.fdiv 8).fmod (((ns.map V.int).length:Int) + 1)=((j:Nat):Int) from ej]
 have hla9:=hla
 have nl:(ns.map AK.int).length=ns.length:=List.length_map _
 have ela:=hla9
 have hla:Paired (AV ac H) (ns.map V.int) (ns.map AK.int):=hla0
 have lla:List.length (ns.map AK.int)<=100:=(by rw [List.length_map]; exact n9)
 have fla:∀ a∈(ns.map AK.int),FA 2 a:=wX
 refine ⟨_,rfl,(by show 1<=sizeLine; decide),λq1 h0q1=>?_⟩
 have yG1:=zL h0q1 (HO.lst [V.int 0])
 have eq1:=zJ (H:=H) (a:=q1) (o:=HO.lst [V.int 0])
 generalize hhG1:upd H q1 (HO.lst [V.int 0])=G1 at yG1 eq1 |-
 have SG1:=yG1
 replace ela:=(yG1 _ _ ela)
 replace hla:=(zG yG1 hla)
 have hq1:Paired (AV ac G1) [V.int 0] [AK.int 0]:=(Paired.cons (AV.int 0) Paired.nil)
 have lq1:List.length [AK.int 0]<=1:=(by show 1<=1; decide)
 have fq1:∀ a∈[AK.int 0],FA 2 a:=zc (FA.int _) (λ_ h=>nomatch h)
 refine ⟨la,q1,_,_,rfl,rfl,ela,eq1,(by have:=lla; have:=lq1; have:=Paired.length hla; have:=Paired.length hq1; exact Nat.le_of_lt (zq (by omega))),λq2 h0q2=>?_⟩
 have yG2:=zL h0q2 (HO.lst ((ns.map V.int)++[V.int 0]))
 have eq2:=zJ (H:=G1) (a:=q2) (o:=HO.lst ((ns.map V.int)++[V.int 0]))
 generalize hhG2:upd G1 q2 (HO.lst ((ns.map V.int)++[V.int 0]))=G2 at yG2 eq2 |-
 have SG2:=SG1.trans yG2
 replace ela:=(yG2 _ _ ela)
 replace hla:=(zG yG2 hla)
 replace eq1:=(yG2 _ _ eq1)
 replace hq1:=(zG yG2 hq1)
 have hq2:Paired (AV ac G2) ((ns.map V.int)++[V.int 0]) ((ns.map AK.int)++[AK.int 0]):=yl hla hq1
 have lq2:List.length ((ns.map AK.int)++[AK.int 0])<=101:=(by rw [List.length_append]; omega)
 have fq2:∀ a∈((ns.map AK.int)++[AK.int 0]),FA 2 a:=xE fla fq1
 have mq2:AV ac G2 (V.ref q2) (AK.lst ((ns.map AK.int)++[AK.int 0])):=(AV.lst eq2 hq2)
 refine ⟨_,rfl,_,rfl,_,rfl,la,_,rfl,zM.of ela,λq3 h0q3=>?_⟩
 rw [show zT (ns.map V.int) none (some (-1))=(List.take (List.length (ns.map V.int) - 1) (ns.map V.int)) from UM _]
 have yG3:=zL h0q3 (HO.lst (List.take (List.length (ns.map V.int) - 1) (ns.map V.int)))
 have eq3:=zJ (H:=G2) (a:=q3) (o:=HO.lst (List.take (List.length (ns.map V.int) - 1) (ns.map V.int)))
 generalize hhG3:upd G2 q3 (HO.lst (List.take (List.length (ns.map V.int) - 1) (ns.map V.int)))=G3 at yG3 eq3 |-
 have SG3:=SG2.trans yG3
 replace ela:=(yG3 _ _ ela)
 replace hla:=(zG yG3 hla)
 replace mq2:=(AV.same yG3 mq2)
 have hq3:Paired (AV ac G3) (List.take (List.length (ns.map V.int) - 1) (ns.map V.int)) (List.take (List.length (ns.map V.int) - 1) (ns.map AK.int)):=wW _ hla
 have lq3:List.length (List.take (List.length (ns.map V.int) - 1) (ns.map AK.int))<=100:=Nat.le_trans (vb _ _) lla
 have fq3:∀ a∈(List.take (List.length (ns.map V.int) - 1) (ns.map AK.int)),FA 2 a:=vc fla
 refine ⟨_,rfl,_,_,rfl,rfl,⟨by decide,b8.mono⟩,_,rfl,λv4 Jv4 yv4 gv4=>?_⟩
 obtain ⟨av4,mv4,wv4,fv4⟩:=gv4
 have SG4:=SG3.trans yv4
 replace ela:=(yv4 _ _ ela)
 replace hla:=(zG yv4 hla)
 replace mq2:=(AV.same yv4 mq2)
 replace eq3:=(yv4 _ _ eq3)
 replace hq3:=(zG yv4 hq3)
 refine ⟨(by show 1<=sizeLine; decide),λq5 h0q5=>?_⟩
 have yG5:=zL h0q5 (HO.lst [v4])
 have eq5:=zJ (H:=Jv4) (a:=q5) (o:=HO.lst [v4])
 generalize hhG5:upd Jv4 q5 (HO.lst [v4])=G5 at yG5 eq5 |-
 have SG5:=SG4.trans yG5
 replace ela:=(yG5 _ _ ela)
 replace hla:=(zG yG5 hla)
 replace mq2:=(AV.same yG5 mq2)
 replace eq3:=(yG5 _ _ eq3)
 replace hq3:=(zG yG5 hq3)
 replace mv4:=(AV.same yG5 mv4)
 have hq5:Paired (AV ac G5) [v4] [av4]:=(Paired.cons mv4 Paired.nil)
 have lq5:List.length [av4]<=1:=(by show 1<=1; decide)
 have fq5:∀ a∈[av4],FA 2 a:=zc fv4 (λ_ h=>nomatch h)
 refine ⟨q3,q5,_,_,rfl,rfl,eq3,eq5,(by have:=lq3; have:=lq5; have:=Paired.length hq3; have:=Paired.length hq5; exact Nat.le_of_lt (zq (by omega))),λq6 h0q6=>?_⟩
 have yG6:=zL h0q6 (HO.lst ((List.take (List.length (ns.map V.int) - 1) (ns.map V.int))++[v4]))
 have eq6:=zJ (H:=G5) (a:=q6) (o:=HO.lst ((List.take (List.length (ns.map V.int) - 1) (ns.map V.int))++[v4]))
 generalize hhG6:upd G5 q6 (HO.lst ((List.take (List.length (ns.map V.int) - 1) (ns.map V.int))++[v4]))=G6 at yG6 eq6 |-
 have SG6:=SG5.trans yG6
 replace ela:=(yG6 _ _ ela)
 replace hla:=(zG yG6 hla)
 replace mq2:=(AV.same yG6 mq2)
 replace eq3:=(yG6 _ _ eq3)
 replace hq3:=(zG yG6 hq3)
 replace eq5:=(yG6 _ _ eq5)
 replace hq5:=(zG yG6 hq5)
 have hq6:Paired (AV ac G6) ((List.take (List.length (ns.map V.int) - 1) (ns.map V.int))++[v4]) ((List.take (List.length (ns.map V.int) - 1) (ns.map AK.int))++[av4]):=yl hq3 hq5
 have lq6:List.length ((List.take (List.length (ns.map V.int) - 1) (ns.map AK.int))++[av4])<=101:=(by rw [List.length_append]; omega)
 have fq6:∀ a∈((List.take (List.length (ns.map V.int) - 1) (ns.map AK.int))++[av4]),FA 2 a:=xE fq3 fq5
 have mq6:AV ac G6 (V.ref q6) (AK.lst ((List.take (List.length (ns.map V.int) - 1) (ns.map AK.int))++[av4])):=(AV.lst eq6 hq6)
 refine ⟨_,rfl,la,_,rfl,.inl ⟨zM.of ela,λq7 h0q7=>?_⟩⟩
 have yG7:=zL h0q7 (HO.tup (ns.map V.int))
 have eq7:=zJ (H:=G6) (a:=q7) (o:=HO.tup (ns.map V.int))
 generalize hhG7:upd G6 q7 (HO.tup (ns.map V.int))=G7 at yG7 eq7 |-
 have SG7:=SG6.trans yG7
 replace ela:=(yG7 _ _ ela)
 replace hla:=(zG yG7 hla)
 replace mq2:=(AV.same yG7 mq2)
 replace mq6:=(AV.same yG7 mq6)
 have hq7:Paired (AV ac G7) (ns.map V.int) (ns.map AK.int):=hla
 have lq7:List.length (ns.map AK.int)<=100:=lla
 have fq7:∀ a∈(ns.map AK.int),FA 2 a:=fla
 have mq7:AV ac G7 (V.ref q7) (AK.tup (ns.map AK.int)):=(AV.tup eq7 hq7)
 refine ⟨_,rfl,_,rfl,_,rfl,la,_,rfl,zM.of ela,λq8 h0q8=>?_⟩
 rw [show zT (ns.map V.int) none (some ((j:Nat):Int))=(List.take j (ns.map V.int)) from wo _ _]
 have yG8:=zL h0q8 (HO.lst (List.take j (ns.map V.int)))
 have eq8:=zJ (H:=G7) (a:=q8) (o:=HO.lst (List.take j (ns.map V.int)))
 generalize hhG8:upd G7 q8 (HO.lst (List.take j (ns.map V.int)))=G8 at yG8 eq8 |-
 have SG8:=SG7.trans yG8
 replace ela:=(yG8 _ _ ela)
 replace hla:=(zG yG8 hla)
 replace mq2:=(AV.same yG8 mq2)
 replace mq6:=(AV.same yG8 mq6)
 replace mq7:=(AV.same yG8 mq7)
 have hq8:Paired (AV ac G8) (List.take j (ns.map V.int)) (List.take j (ns.map AK.int)):=wW _ hla
 have lq8:List.length (List.take j (ns.map AK.int))<=100:=Nat.le_trans (vb _ _) lla
 have fq8:∀ a∈(List.take j (ns.map AK.int)),FA 2 a:=vc fla
 refine ⟨(by show 1<=sizeLine; decide),λq9 h0q9=>?_⟩
 have yG9:=zL h0q9 (HO.lst [V.non])
 have eq9:=zJ (H:=G8) (a:=q9) (o:=HO.lst [V.non])
 generalize hhG9:upd G8 q9 (HO.lst [V.non])=G9 at yG9 eq9 |-
 have SG9:=SG8.trans yG9
 replace ela:=(yG9 _ _ ela)
 replace hla:=(zG yG9 hla)
 replace mq2:=(AV.same yG9 mq2)
 replace mq6:=(AV.same yG9 mq6)
 replace mq7:=(AV.same yG9 mq7)
 replace eq8:=(yG9 _ _ eq8)
 replace hq8:=(zG yG9 hq8)
 have hq9:Paired (AV ac G9) [V.non] [AK.non]:=(Paired.cons AV.non Paired.nil)
 have lq9:List.length [AK.non]<=1:=(by show 1<=1; decide)
 have fq9:∀ a∈[AK.non],FA 2 a:=zc FA.non (λ_ h=>nomatch h)
 refine ⟨q8,q9,_,_,rfl,rfl,eq8,eq9,(by have:=lq8; have:=lq9; have:=Paired.length hq8; have:=Paired.length hq9; exact Nat.le_of_lt (zq (by omega))),λq10 h0q10=>?_⟩
 have yG10:=zL h0q10 (HO.lst ((List.take j (ns.map V.int))++[V.non]))
 have eq10:=zJ (H:=G9) (a:=q10) (o:=HO.lst ((List.take j (ns.map V.int))++[V.non]))
 generalize hhG10:upd G9 q10 (HO.lst ((List.take j (ns.map V.int))++[V.non]))=G10 at yG10 eq10 |-
 have SG10:=SG9.trans yG10
 replace ela:=(yG10 _ _ ela)
 replace hla:=(zG yG10 hla)
 replace mq2:=(AV.same yG10 mq2)
 replace mq6:=(AV.same yG10 mq6)
 replace mq7:=(AV.same yG10 mq7)
 replace eq8:=(yG10 _ _ eq8)
 replace hq8:=(zG yG10 hq8)
 replace eq9:=(yG10 _ _ eq9)
 replace hq9:=(zG yG10 hq9)
 have hq10:Paired (AV ac G10) ((List.take j (ns.map V.int))++[V.non]) ((List.take j (ns.map AK.int))++[AK.non]):=yl hq8 hq9
 have lq10:List.length ((List.take j (ns.map AK.int))++[AK.non])<=101:=(by rw [List.length_append]; omega)
 have fq10:∀ a∈((List.take j (ns.map AK.int))++[AK.non]),FA 2 a:=xE fq8 fq9
 refine ⟨_,rfl,_,rfl,_,rfl,la,_,rfl,zM.of ela,λq11 h0q11=>?_⟩
 rw [show zT (ns.map V.int) (some ((j:Nat):Int)) none=(List.drop j (ns.map V.int)) from wp _ _]
 have yG11:=zL h0q11 (HO.lst (List.drop j (ns.map V.int)))
 have eq11:=zJ (H:=G10) (a:=q11) (o:=HO.lst (List.drop j (ns.map V.int)))
 generalize hhG11:upd G10 q11 (HO.lst (List.drop j (ns.map V.int)))=G11 at yG11 eq11 |-
 have SG11:=SG10.trans yG11
 replace ela:=(yG11 _ _ ela)
 replace hla:=(zG yG11 hla)
 replace mq2:=(AV.same yG11 mq2)
 replace mq6:=(AV.same yG11 mq6)
 replace mq7:=(AV.same yG11 mq7)
 replace eq10:=(yG11 _ _ eq10)
 replace hq10:=(zG yG11 hq10)
 have hq11:Paired (AV ac G11) (List.drop j (ns.map V.int)) (List.drop j (ns.map AK.int)):=wA _ hla
 have lq11:List.length (List.drop j (ns.map AK.int))<=100:=Nat.le_trans (wL _ _) lla
 have fq11:∀ a∈(List.drop j (ns.map AK.int)),FA 2 a:=wM fla
 refine ⟨q10,q11,_,_,rfl,rfl,eq10,eq11,(by have:=lq10; have:=lq11; have:=Paired.length hq10; have:=Paired.length hq11; exact Nat.le_of_lt (zq (by omega))),λq12 h0q12=>?_⟩
 have yG12:=zL h0q12 (HO.lst (((List.take j (ns.map V.int))++[V.non])++(List.drop j (ns.map V.int))))
 have eq12:=zJ (H:=G11) (a:=q12) (o:=HO.lst (((List.take j (ns.map V.int))++[V.non])++(List.drop j (ns.map V.int))))
 generalize hhG12:upd G11 q12 (HO.lst (((List.take j (ns.map V.int))++[V.non])++(List.drop j (ns.map V.int))))=G12 at yG12 eq12 |-
 have SG12:=SG11.trans yG12
 replace ela:=(yG12 _ _ ela)
 replace hla:=(zG yG12 hla)
 replace mq2:=(AV.same yG12 mq2)
 replace mq6:=(AV.same yG12 mq6)
 replace mq7:=(AV.same yG12 mq7)
 replace eq10:=(yG12 _ _ eq10)
 replace hq10:=(zG yG12 hq10)
 replace eq11:=(yG12 _ _ eq11)
 replace hq11:=(zG yG12 hq11)
 have hq12:Paired (AV ac G12) (((List.take j (ns.map V.int))++[V.non])++(List.drop j (ns.map V.int))) (((List.take j (ns.map AK.int))++[AK.non])++(List.drop j (ns.map AK.int))):=yl hq10 hq11
 have lq12:List.length (((List.take j (ns.map AK.int))++[AK.non])++(List.drop j (ns.map AK.int)))<=201:=(by rw [List.length_append]; omega)
 have fq12:∀ a∈(((List.take j (ns.map AK.int))++[AK.non])++(List.drop j (ns.map AK.int))),FA 2 a:=xE fq10 fq11
 have mq12:AV ac G12 (V.ref q12) (AK.lst (((List.take j (ns.map AK.int))++[AK.non])++(List.drop j (ns.map AK.int)))):=(AV.lst eq12 hq12)
 refine λq13 h0q13=>?_
 have yG13:=zL h0q13 (HO.dK [])
 have eq13:=zJ (H:=G12) (a:=q13) (o:=HO.dK [])
 generalize hhG13:upd G12 q13 (HO.dK [])=G13 at yG13 eq13 |-
 have SG13:=SG12.trans yG13
 replace ela:=(yG13 _ _ ela)
 replace hla:=(zG yG13 hla)
 replace mq2:=(AV.same yG13 mq2)
 replace mq6:=(AV.same yG13 mq6)
 replace mq7:=(AV.same yG13 mq7)
 replace mq12:=(AV.same yG13 mq12)
 refine ⟨(by show 6<=sizeLine; decide),λq14 h0q14=>?_⟩
 have yG14:=zL h0q14 (HO.lst [V.ref q2,V.ref q6,V.ref q7,V.non,V.ref q12,V.ref q13])
 have eq14:=zJ (H:=G13) (a:=q14) (o:=HO.lst [V.ref q2,V.ref q6,V.ref q7,V.non,V.ref q12,V.ref q13])
 generalize hhG14:upd G13 q14 (HO.lst [V.ref q2,V.ref q6,V.ref q7,V.non,V.ref q12,V.ref q13])=G14 at yG14 eq14 |-
 have SG14:=SG13.trans yG14
 replace ela:=(yG14 _ _ ela)
 replace hla:=(zG yG14 hla)
 replace mq2:=(AV.same yG14 mq2)
 replace mq6:=(AV.same yG14 mq6)
 replace mq7:=(AV.same yG14 mq7)
 replace mq12:=(AV.same yG14 mq12)
 replace eq13:=(yG14 _ _ eq13)
 have hq14:Paired (AV ac G14) [V.ref q2,V.ref q6,V.ref q7,V.non,V.ref q12,V.ref q13] [AK.lst ((ns.map AK.int)++[AK.int 0]),AK.lst ((List.take (List.length (ns.map V.int) - 1) (ns.map AK.int))++[av4]),AK.tup (ns.map AK.int),AK.non,AK.lst (((List.take j (ns.map AK.int))++[AK.non])++(List.drop j (ns.map AK.int))),AK.dic]:=(Paired.cons mq2 (Paired.cons mq6 (Paired.cons mq7 (Paired.cons AV.non (Paired.cons mq12 (Paired.cons (AV.dic eq13) Paired.nil))))))
 have lq14:List.length [AK.lst ((ns.map AK.int)++[AK.int 0]),AK.lst ((List.take (List.length (ns.map V.int) - 1) (ns.map AK.int))++[av4]),AK.tup (ns.map AK.int),AK.non,AK.lst (((List.take j (ns.map AK.int))++[AK.non])++(List.drop j (ns.map AK.int))),AK.dic]<=6:=(by show 6<=6; decide)
 have fq14:∀ a∈[AK.lst ((ns.map AK.int)++[AK.int 0]),AK.lst ((List.take (List.length (ns.map V.int) - 1) (ns.map AK.int))++[av4]),AK.tup (ns.map AK.int),AK.non,AK.lst (((List.take j (ns.map AK.int))++[AK.non])++(List.drop j (ns.map AK.int))),AK.dic],FA 3 a:=zc (FA.lst (Nat.le_trans lq2 (by decide)) fq2) (zc (FA.lst (Nat.le_trans lq6 (by decide)) fq6) (zc (FA.tup (Nat.le_trans lq7 (by decide)) fq7) (zc FA.non (zc (FA.lst (Nat.le_trans lq12 (by decide)) fq12) (zc FA.dic (λ_ h=>nomatch h))))))
 show u_2 _ [some (.int c),some (.ref la),some (.int ((j:Nat):Int)),some (.ref q14)] _
 rw [E_2]
 try dsimp only [zF,Cx.nox,Cx.wish]
 refine ⟨_,rfl,_,rfl,_,rfl,la,_,rfl,zM.of ela,λq15 h0q15=>?_⟩
 rw [show zT (ns.map V.int) (some 1) none=(List.drop 1 (ns.map V.int)) from wp _ _]
 have yG15:=zL h0q15 (HO.lst (List.drop 1 (ns.map V.int)))
 have eq15:=zJ (H:=G14) (a:=q15) (o:=HO.lst (List.drop 1 (ns.map V.int)))
 generalize hhG15:upd G14 q15 (HO.lst (List.drop 1 (ns.map V.int)))=G15 at yG15 eq15 |-
 have SG15:=SG14.trans yG15
 replace ela:=(yG15 _ _ ela)
 replace hla:=(zG yG15 hla)
 replace eq14:=(yG15 _ _ eq14)
 replace hq14:=(zG yG15 hq14)
 have hq15:Paired (AV ac G15) (List.drop 1 (ns.map V.int)) (List.drop 1 (ns.map AK.int)):=wA _ hla
 have lq15:List.length (List.drop 1 (ns.map AK.int))<=100:=Nat.le_trans (wL _ _) lla
 have fq15:∀ a∈(List.drop 1 (ns.map AK.int)),FA 2 a:=wM fla
 have mq15:AV ac G15 (V.ref q15) (AK.lst (List.drop 1 (ns.map AK.int))):=(AV.lst eq15 hq15)
 refine ⟨(by show 2<=sizeLine; decide),λq16 h0q16=>?_⟩
 have yG16:=zL h0q16 (HO.lst [V.ref q15,V.str "0"])
 have eq16:=zJ (H:=G15) (a:=q16) (o:=HO.lst [V.ref q15,V.str "0"])
 generalize hhG16:upd G15 q16 (HO.lst [V.ref q15,V.str "0"])=G16 at yG16 eq16 |-
 have SG16:=SG15.trans yG16
 replace ela:=(yG16 _ _ ela)
 replace hla:=(zG yG16 hla)
 replace eq14:=(yG16 _ _ eq14)
 replace hq14:=(zG yG16 hq14)
 replace mq15:=(AV.same yG16 mq15)
 have hq16:Paired (AV ac G16) [V.ref q15,V.str "0"] [AK.lst (List.drop 1 (ns.map AK.int)),AK.str "0"]:=(Paired.cons mq15 (Paired.cons (AV.str "0") Paired.nil))
 have lq16:List.length [AK.lst (List.drop 1 (ns.map AK.int)),AK.str "0"]<=2:=(by show 2<=2; decide)
 have fq16:∀ a∈[AK.lst (List.drop 1 (ns.map AK.int)),AK.str "0"],FA 3 a:=zc (FA.lst (Nat.le_trans lq15 (by decide)) fq15) (zc (FA.str _) (λ_ h=>nomatch h))
 refine ⟨q14,q16,_,_,rfl,rfl,eq14,eq16,(by have:=lq14; have:=lq16; have:=Paired.length hq14; have:=Paired.length hq16; exact Nat.le_of_lt (zq (by omega))),λq17 h0q17=>?_⟩
 have yG17:=zL h0q17 (HO.lst ([V.ref q2,V.ref q6,V.ref q7,V.non,V.ref q12,V.ref q13]++[V.ref q15,V.str "0"]))
 have eq17:=zJ (H:=G16) (a:=q17) (o:=HO.lst ([V.ref q2,V.ref q6,V.ref q7,V.non,V.ref q12,V.ref q13]++[V.ref q15,V.str "0"]))
 generalize hhG17:upd G16 q17 (HO.lst ([V.ref q2,V.ref q6,V.ref q7,V.non,V.ref q12,V.ref q13]++[V.ref q15,V.str "0"]))=G17 at yG17 eq17 |-
 have SG17:=SG16.trans yG17
 replace ela:=(yG17 _ _ ela)
 replace hla:=(zG yG17 hla)
 replace eq14:=(yG17 _ _ eq14)
 replace hq14:=(zG yG17 hq14)
 replace eq16:=(yG17 _ _ eq16)
 replace hq16:=(zG yG17 hq16)
 have hq17:Paired (AV ac G17) ([V.ref q2,V.ref q6,V.ref q7,V.non,V.ref q12,V.ref q13]++[V.ref q15,V.str "0"]) ([AK.lst ((ns.map AK.int)++[AK.int 0]),AK.lst ((List.take (List.length (ns.map V.int) - 1) (ns.map AK.int))++[av4]),AK.tup (ns.map AK.int),AK.non,AK.lst (((List.take j (ns.map AK.int))++[AK.non])++(List.drop j (ns.map AK.int))),AK.dic]++[AK.lst (List.drop 1 (ns.map AK.int)),AK.str "0"]):=yl hq14 hq16
 have lq17:List.length ([AK.lst ((ns.map AK.int)++[AK.int 0]),AK.lst ((List.take (List.length (ns.map V.int) - 1) (ns.map AK.int))++[av4]),AK.tup (ns.map AK.int),AK.non,AK.lst (((List.take j (ns.map AK.int))++[AK.non])++(List.drop j (ns.map AK.int))),AK.dic]++[AK.lst (List.drop 1 (ns.map AK.int)),AK.str "0"])<=8:=(by rw [List.length_append]; omega)
 have fq17:∀ a∈([AK.lst ((ns.map AK.int)++[AK.int 0]),AK.lst ((List.take (List.length (ns.map V.int) - 1) (ns.map AK.int))++[av4]),AK.tup (ns.map AK.int),AK.non,AK.lst (((List.take j (ns.map AK.int))++[AK.non])++(List.drop j (ns.map AK.int))),AK.dic]++[AK.lst (List.drop 1 (ns.map AK.int)),AK.str "0"]),FA 3 a:=xE fq14 fq16
 have al:yH ac (λa=>zo (ns.length:Int) a=false) 3 G17 ([V.ref q2,V.ref q6,V.ref q7,V.non,V.ref q12,V.ref q13]++[V.ref q15,V.str "0"]):=wq hq17 (zg (P:=(λa=>zo (ns.length:Int) a=false)) (qW (by rw [List.length_append]; show ((_ + 1:Nat):Int)≠_; rw [nl]; omega)) (FA.lst (Nat.le_trans lq2 (by decide)) fq2) (zg (P:=(λa=>zo (ns.length:Int) a=false)) (UN (a:=av4) (List.mem_append_right _ (List.mem_singleton.mpr rfl)) wv4) (FA.lst (Nat.le_trans lq6 (by decide)) fq6) (zg (P:=(λa=>zo (ns.length:Int) a=false)) rfl (FA.tup (Nat.le_trans lq7 (by decide)) fq7) (zg (P:=(λa=>zo (ns.length:Int) a=false)) rfl FA.non (zg (P:=(λa=>zo (ns.length:Int) a=false)) (qW (by rw [List.length_append,List.length_append,List.length_take,List.length_drop,nl]; show ((min j ns.length + 1 + (ns.length - j):Nat):Int)≠_; omega)) (FA.lst (Nat.le_trans lq12 (by decide)) fq12) (zg (P:=(λa=>zo (ns.length:Int) a=false)) rfl FA.dic (zg (P:=(λa=>zo (ns.length:Int) a=false)) (qW (by rw [List.length_drop,nl]; omega)) (FA.lst (Nat.le_trans lq15 (by decide)) fq15) (zg (P:=(λa=>zo (ns.length:Int) a=false)) rfl (FA.str _) wa))))))))
 obtain ⟨xz,hxz,axz⟩:=wr (xs:=([V.ref q2,V.ref q6,V.ref q7,V.non,V.ref q12,V.ref q13]++[V.ref q15,V.str "0"])) k0 (by show _ < ((8:Nat):Int); omega)
 exact ⟨_,rfl,_,_,rfl,rfl,(show (8:Int)≠0 by decide),q17,_,_,_,rfl,rfl,zM.of eq17,axz,q _ _ SG17 (al xz hxz)⟩
noncomputable abbrev jh:Stmt:=xC 39
theorem kb:yS ["_law_cell","_law_row","_law_at","_law_some"] ["_law_cell","_law_row"] (zQ jh):=.a
theorem Ue {k:Nat} {f:Addr} {fd:FuncData} {ac ad:Addr} (ae:zS K mg "Mode" ac) (af:yy K ac) (ag:zS K mg "Thing" ad) (ah:yz K ad) (Y:zj K ac) {C1 C2:Addr} (Z:yx K mg C1 C2) (F:yT K "_law_no_row" "_law_no_row" jh f fd) (B:Bl mg) (ar:Fn P w K mg base "_law_no_whole" ["_law_cell"] k (qY ac)):zP P w K mg base zX (k + 1) f fd ["_law_cell","_law_row"] (kK ac):=by
 refine F.ok kb (λvs H Q E h=>?_) (λcdv A outer s H vs Q E hr h=>?_)
 ·obtain ⟨_,_,_,_,rfl,_⟩:=h
  rfl
 obtain ⟨c,ra,ns,n,rfl,hra,ln,n1,n9,q⟩:=h
 obtain ⟨u_2,E_2,U_2⟩:=L2.wl (p:=λt=>yi (zF zX P w K mg base ["_law_cell","_law_row","_law_at","_law_some"] "_law_no_row" (zQ jh) f cdv A outer s H E).nox ((yQ jh).drop 2) t) (zf (zk (yJ yU (zO zh (zB 3) (zn (zA (zO jW (zO jW (yc jY (zB 1) yp (yM (zB 2))) (xi (zA wC zH))) (yc jY (zB 1) (yM (zB 2)) yp)) (zA zK zH)))) (zO (ji yI) (zB 0) zK) (λ_ _=>rfl))))
 refine ⟨_,(za (ya (i:=2) kb.nd rfl (Or.inl rfl) (zO (ji yI) (zO (ji xu) (zB 0) zK) (zr yF rfl B.len_ xQ (zA (zB 1) zH))))
 (za (ya (i:=3) kb.nd rfl (Or.inl rfl) (zn (zA (wQ qF rfl B.list_ vC (zA (zB 1) zH)) (zA (zO jW (zB 1) (xi (zA zK zH))) (zA (yc jY (zB 1) (yM zK) yp) (zA (zO jW (zO jW (yc jY (zB 1) yp (yM (zB 2))) (xi (zA (yE ar hr rfl (zA (zO (ji xu) (zB 0) zK) zH)) zH))) (yc jY (zB 1) (yM (zO (zw ym) (zB 2) zK)) yp)) (zA wC (zA xS (zA (xi zH) zH)))))))))
 U_2)),?_⟩
 try dsimp only [zF,Cx.nox,Cx.wish]
 have k0:=Int.fmod_nonneg_of_pos c (show (0:Int) < 9 by decide)
 have k1:=Int.fmod_lt_of_pos c (show (0:Int) < 9 by decide)
 have b9:Bd 10 (9:Int):=Bd.lit
 have lra:(ns.map V.int).length=n + 1:=(List.length_map _).trans ln
 have hra0:Paired (AV ac H) (ns.map V.int) (ns.map AK.int):=xp ns
 have j0:=Int.fmod_nonneg_of_pos (c.fdiv 9) (show (0:Int) < ((ns.map V.int).length:Int) by omega)
 have j1:=Int.fmod_lt_of_pos (c.fdiv 9) (show (0:Int) < ((ns.map V.int).length:Int) by omega)
 refine ⟨_,rfl,_,_,rfl,rfl,⟨by decide,b9.mono⟩,_,rfl,ra,_,rfl,.inr (yD.of hra),_,_,rfl,rfl,(show ((ns.map V.int).length:Int)≠0 by omega),?_⟩
 obtain ⟨j,ej⟩:=Int.eq_ofNat_of_zero_le j0
 rw [show (c.fdiv 9).fmod ((ns.map V.int).length:Int)=((j:Nat):Int) from ej]
 have jn:j < n + 1:=by omega
 have nl:(ns.map AK.int).length=n + 1:=(List.length_map _).trans ln
 have era:=hra
 have hra:Paired (AV ac H) (ns.map V.int) (ns.map AK.int):=hra0
 have lra:List.length (ns.map AK.int)<=101:=(by omega)
 have fra:∀ a∈(ns.map AK.int),FA 2 a:=wX
 refine ⟨_,rfl,ra,_,rfl,.inr (yD.of era),λq1 h0q1=>?_⟩
 have yG1:=zL h0q1 (HO.lst (ns.map V.int))
 have eq1:=zJ (H:=H) (a:=q1) (o:=HO.lst (ns.map V.int))
 generalize hhG1:upd H q1 (HO.lst (ns.map V.int))=G1 at yG1 eq1 |-
 have SG1:=yG1
 replace era:=(yG1 _ _ era)
 replace hra:=(zG yG1 hra)
 have hq1:Paired (AV ac G1) (ns.map V.int) (ns.map AK.int):=hra
 have lq1:List.length (ns.map AK.int)<=101:=lra
 have fq1:∀ a∈(ns.map AK.int),FA 2 a:=fra
 have mq1:AV ac G1 (V.ref q1) (AK.lst (ns.map AK.int)):=(AV.lst eq1 hq1)
 refine ⟨_,rfl,(by show 1<=sizeLine; decide),λq2 h0q2=>?_⟩
 have yG2:=zL h0q2 (HO.tup [V.int 0])
 have eq2:=zJ (H:=G1) (a:=q2) (o:=HO.tup [V.int 0])
 generalize hhG2:upd G1 q2 (HO.tup [V.int 0])=G2 at yG2 eq2 |-
 have SG2:=SG1.trans yG2
 replace era:=(yG2 _ _ era)
 replace hra:=(zG yG2 hra)
 replace mq1:=(AV.same yG2 mq1)
 have hq2:Paired (AV ac G2) [V.int 0] [AK.int 0]:=(Paired.cons (AV.int 0) Paired.nil)
 have lq2:List.length [AK.int 0]<=1:=(by show 1<=1; decide)
 have fq2:∀ a∈[AK.int 0],FA 2 a:=zc (FA.int _) (λ_ h=>nomatch h)
 refine ⟨ra,q2,_,_,rfl,rfl,era,eq2,(by have:=lra; have:=lq2; have:=Paired.length hra; have:=Paired.length hq2; exact Nat.le_of_lt (zq (by omega))),λq3 Jq3 yq3 eq3=>?_⟩
 have SG3:=SG2.trans yq3
 replace era:=(yq3 _ _ era)
 replace hra:=(zG yq3 hra)
 replace mq1:=(AV.same yq3 mq1)
 replace eq2:=(yq3 _ _ eq2)
 replace hq2:=(zG yq3 hq2)
 have hq3:Paired (AV ac Jq3) ((ns.map V.int)++[V.int 0]) ((ns.map AK.int)++[AK.int 0]):=yl hra hq2
 have lq3:List.length ((ns.map AK.int)++[AK.int 0])<=102:=(by rw [List.length_append]; omega)
 have fq3:∀ a∈((ns.map AK.int)++[AK.int 0]),FA 2 a:=xE fra fq2
 have mq3:AV ac Jq3 (V.ref q3) (AK.tup ((ns.map AK.int)++[AK.int 0])):=(AV.tup eq3 hq3)
 refine ⟨_,rfl,_,rfl,ra,_,rfl,era,λq4 Jq4 yq4 eq4=>?_⟩
 rw [show zT (ns.map V.int) (some 1) none=(List.drop 1 (ns.map V.int)) from wp _ _] at eq4
 have SG4:=SG3.trans yq4
 replace era:=(yq4 _ _ era)
 replace hra:=(zG yq4 hra)
 replace mq1:=(AV.same yq4 mq1)
 replace mq3:=(AV.same yq4 mq3)
 have hq4:Paired (AV ac Jq4) (List.drop 1 (ns.map V.int)) (List.drop 1 (ns.map AK.int)):=wA _ hra
 have lq4:List.length (List.drop 1 (ns.map AK.int))<=101:=Nat.le_trans (wL _ _) lra
 have fq4:∀ a∈(List.drop 1 (ns.map AK.int)),FA 2 a:=wM fra
 have mq4:AV ac Jq4 (V.ref q4) (AK.tup (List.drop 1 (ns.map AK.int))):=(AV.tup eq4 hq4)
 refine ⟨_,rfl,_,rfl,_,rfl,ra,_,rfl,era,λq5 Jq5 yq5 eq5=>?_⟩
 rw [show zT (ns.map V.int) none (some ((j:Nat):Int))=(List.take j (ns.map V.int)) from wo _ _] at eq5
 have SG5:=SG4.trans yq5
 replace era:=(yq5 _ _ era)
 replace hra:=(zG yq5 hra)
 replace mq1:=(AV.same yq5 mq1)
 replace mq3:=(AV.same yq5 mq3)
 replace mq4:=(AV.same yq5 mq4)
 have hq5:Paired (AV ac Jq5) (List.take j (ns.map V.int)) (List.take j (ns.map AK.int)):=wW _ hra
 have lq5:List.length (List.take j (ns.map AK.int))<=101:=Nat.le_trans (vb _ _) lra
 have fq5:∀ a∈(List.take j (ns.map AK.int)),FA 2 a:=vc fra
 refine ⟨_,rfl,_,_,rfl,rfl,⟨by decide,b9.mono⟩,_,rfl,λv6 Jv6 yv6 gv6=>?_⟩
 obtain ⟨av6,mv6,wv6,fv6⟩:=gv6
 have SG6:=SG5.trans yv6
 replace era:=(yv6 _ _ era)
 replace hra:=(zG yv6 hra)
 replace mq1:=(AV.same yv6 mq1)
 replace mq3:=(AV.same yv6 mq3)
 replace mq4:=(AV.same yv6 mq4)
 replace eq5:=(yv6 _ _ eq5)
 replace hq5:=(zG yv6 hq5)
 refine ⟨(by show 1<=sizeLine; decide),λq7 h0q7=>?_⟩
 have yG7:=zL h0q7 (HO.tup [v6])
 have eq7:=zJ (H:=Jv6) (a:=q7) (o:=HO.tup [v6])
 generalize hhG7:upd Jv6 q7 (HO.tup [v6])=G7 at yG7 eq7 |-
 have SG7:=SG6.trans yG7
 replace era:=(yG7 _ _ era)
 replace hra:=(zG yG7 hra)
 replace mq1:=(AV.same yG7 mq1)
 replace mq3:=(AV.same yG7 mq3)
 replace mq4:=(AV.same yG7 mq4)
 replace eq5:=(yG7 _ _ eq5)
 replace hq5:=(zG yG7 hq5)
 replace mv6:=(AV.same yG7 mv6)
 have hq7:Paired (AV ac G7) [v6] [av6]:=(Paired.cons mv6 Paired.nil)
 have lq7:List.length [av6]<=1:=(by show 1<=1; decide)
 have fq7:∀ a∈[av6],FA 2 a:=zc fv6 (λ_ h=>nomatch h)
 refine ⟨q5,q7,_,_,rfl,rfl,eq5,eq7,(by have:=lq5; have:=lq7; have:=Paired.length hq5; have:=Paired.length hq7; exact Nat.le_of_lt (zq (by omega))),λq8 Jq8 yq8 eq8=>?_⟩
 have SG8:=SG7.trans yq8
 replace era:=(yq8 _ _ era)
 replace hra:=(zG yq8 hra)
 replace mq1:=(AV.same yq8 mq1)
 replace mq3:=(AV.same yq8 mq3)
 replace mq4:=(AV.same yq8 mq4)
 replace eq5:=(yq8 _ _ eq5)
 replace hq5:=(zG yq8 hq5)
 replace eq7:=(yq8 _ _ eq7)
 replace hq7:=(zG yq8 hq7)
 have hq8:Paired (AV ac Jq8) ((List.take j (ns.map V.int))++[v6]) ((List.take j (ns.map AK.int))++[av6]):=yl hq5 hq7
 have lq8:List.length ((List.take j (ns.map AK.int))++[av6])<=102:=(by rw [List.length_append]; omega)
 have fq8:∀ a∈((List.take j (ns.map AK.int))++[av6]),FA 2 a:=xE fq5 fq7
 refine ⟨_,rfl,_,rfl,_,_,rfl,rfl,_,rfl,ra,_,rfl,era,λq9 Jq9 yq9 eq9=>?_⟩
 rw [show zT (ns.map V.int) (some (((j:Nat):Int) + 1)) none=(List.drop (j + 1) (ns.map V.int)) from jb _ _] at eq9
 have SG9:=SG8.trans yq9
 replace era:=(yq9 _ _ era)
 replace hra:=(zG yq9 hra)
 replace mq1:=(AV.same yq9 mq1)
 replace mq3:=(AV.same yq9 mq3)
 replace mq4:=(AV.same yq9 mq4)
 replace eq8:=(yq9 _ _ eq8)
 replace hq8:=(zG yq9 hq8)
 have hq9:Paired (AV ac Jq9) (List.drop (j + 1) (ns.map V.int)) (List.drop (j + 1) (ns.map AK.int)):=wA _ hra
 have lq9:List.length (List.drop (j + 1) (ns.map AK.int))<=101:=Nat.le_trans (wL _ _) lra
 have fq9:∀ a∈(List.drop (j + 1) (ns.map AK.int)),FA 2 a:=wM fra
 refine ⟨q8,q9,_,_,rfl,rfl,eq8,eq9,(by have:=lq8; have:=lq9; have:=Paired.length hq8; have:=Paired.length hq9; exact Nat.le_of_lt (zq (by omega))),λq10 Jq10 yq10 eq10=>?_⟩
 have SG10:=SG9.trans yq10
 replace era:=(yq10 _ _ era)
 replace hra:=(zG yq10 hra)
 replace mq1:=(AV.same yq10 mq1)
 replace mq3:=(AV.same yq10 mq3)
 replace mq4:=(AV.same yq10 mq4)
 replace eq8:=(yq10 _ _ eq8)
 replace hq8:=(zG yq10 hq8)
 replace eq9:=(yq10 _ _ eq9)
 replace hq9:=(zG yq10 hq9)
 have hq10:Paired (AV ac Jq10) (((List.take j (ns.map V.int))++[v6])++(List.drop (j + 1) (ns.map V.int))) (((List.take j (ns.map AK.int))++[av6])++(List.drop (j + 1) (ns.map AK.int))):=yl hq8 hq9
 have lq10:List.length (((List.take j (ns.map AK.int))++[av6])++(List.drop (j + 1) (ns.map AK.int)))<=203:=(by rw [List.length_append]; omega)
 have fq10:∀ a∈(((List.take j (ns.map AK.int))++[av6])++(List.drop (j + 1) (ns.map AK.int))),FA 2 a:=xE fq8 fq9
 have mq10:AV ac Jq10 (V.ref q10) (AK.tup (((List.take j (ns.map AK.int))++[av6])++(List.drop (j + 1) (ns.map AK.int)))):=(AV.tup eq10 hq10)
 refine ⟨(by show 0<=sizeLine; decide),λq11 h0q11=>?_⟩
 have yG11:=zL h0q11 (HO.tup ([]:List V))
 have eq11:=zJ (H:=Jq10) (a:=q11) (o:=HO.tup ([]:List V))
 generalize hhG11:upd Jq10 q11 (HO.tup ([]:List V))=G11 at yG11 eq11 |-
 have SG11:=SG10.trans yG11
 replace era:=(yG11 _ _ era)
 replace hra:=(zG yG11 hra)
 replace mq1:=(AV.same yG11 mq1)
 replace mq3:=(AV.same yG11 mq3)
 replace mq4:=(AV.same yG11 mq4)
 replace mq10:=(AV.same yG11 mq10)
 have hq11:Paired (AV ac G11) ([]:List V) ([]:List AK):=Paired.nil
 have lq11:List.length ([]:List AK)<=0:=(by show 0<=0; decide)
 have fq11:∀ a∈([]:List AK),FA 2 a:=λ_ h=>nomatch h
 have mq11:AV ac G11 (V.ref q11) (AK.tup ([]:List AK)):=(AV.tup eq11 hq11)
 refine ⟨(by show 7<=sizeLine; decide),λq12 h0q12=>?_⟩
 have yG12:=zL h0q12 (HO.lst [V.ref q1,V.ref q3,V.ref q4,V.ref q10,V.non,V.str "row",V.ref q11])
 have eq12:=zJ (H:=G11) (a:=q12) (o:=HO.lst [V.ref q1,V.ref q3,V.ref q4,V.ref q10,V.non,V.str "row",V.ref q11])
 generalize hhG12:upd G11 q12 (HO.lst [V.ref q1,V.ref q3,V.ref q4,V.ref q10,V.non,V.str "row",V.ref q11])=G12 at yG12 eq12 |-
 have SG12:=SG11.trans yG12
 replace era:=(yG12 _ _ era)
 replace hra:=(zG yG12 hra)
 replace mq1:=(AV.same yG12 mq1)
 replace mq3:=(AV.same yG12 mq3)
 replace mq4:=(AV.same yG12 mq4)
 replace mq10:=(AV.same yG12 mq10)
 replace mq11:=(AV.same yG12 mq11)
 have hq12:Paired (AV ac G12) [V.ref q1,V.ref q3,V.ref q4,V.ref q10,V.non,V.str "row",V.ref q11] [AK.lst (ns.map AK.int),AK.tup ((ns.map AK.int)++[AK.int 0]),AK.tup (List.drop 1 (ns.map AK.int)),AK.tup (((List.take j (ns.map AK.int))++[av6])++(List.drop (j + 1) (ns.map AK.int))),AK.non,AK.str "row",AK.tup ([]:List AK)]:=(Paired.cons mq1 (Paired.cons mq3 (Paired.cons mq4 (Paired.cons mq10 (Paired.cons AV.non (Paired.cons (AV.str "row") (Paired.cons mq11 Paired.nil)))))))
 have lq12:List.length [AK.lst (ns.map AK.int),AK.tup ((ns.map AK.int)++[AK.int 0]),AK.tup (List.drop 1 (ns.map AK.int)),AK.tup (((List.take j (ns.map AK.int))++[av6])++(List.drop (j + 1) (ns.map AK.int))),AK.non,AK.str "row",AK.tup ([]:List AK)]<=7:=(by show 7<=7; decide)
 have fq12:∀ a∈[AK.lst (ns.map AK.int),AK.tup ((ns.map AK.int)++[AK.int 0]),AK.tup (List.drop 1 (ns.map AK.int)),AK.tup (((List.take j (ns.map AK.int))++[av6])++(List.drop (j + 1) (ns.map AK.int))),AK.non,AK.str "row",AK.tup ([]:List AK)],FA 3 a:=zc (FA.lst (Nat.le_trans lq1 (by decide)) fq1) (zc (FA.tup (Nat.le_trans lq3 (by decide)) fq3) (zc (FA.tup (Nat.le_trans lq4 (by decide)) fq4) (zc (FA.tup (Nat.le_trans lq10 (by decide)) fq10) (zc FA.non (zc (FA.str _) (zc (FA.tup (Nat.le_trans lq11 (by decide)) fq11) (λ_ h=>nomatch h)))))))
 show u_2 _ [some (.int c),some (.ref ra),some (.int ((j:Nat):Int)),some (.ref q12)] _
 rw [E_2]
 try dsimp only [zF,Cx.nox,Cx.wish]
 refine ⟨_,rfl,_,rfl,_,rfl,_,rfl,ra,_,rfl,era,λq13 Jq13 yq13 eq13=>?_⟩
 rw [show zT (ns.map V.int) none (some ((j:Nat):Int))=(List.take j (ns.map V.int)) from wo _ _] at eq13
 have SG13:=SG12.trans yq13
 replace era:=(yq13 _ _ era)
 replace hra:=(zG yq13 hra)
 replace eq12:=(yq13 _ _ eq12)
 replace hq12:=(zG yq13 hq12)
 have hq13:Paired (AV ac Jq13) (List.take j (ns.map V.int)) (List.take j (ns.map AK.int)):=wW _ hra
 have lq13:List.length (List.take j (ns.map AK.int))<=101:=Nat.le_trans (vb _ _) lra
 have fq13:∀ a∈(List.take j (ns.map AK.int)),FA 2 a:=vc fra
 refine ⟨(by show 1<=sizeLine; decide),λq14 h0q14=>?_⟩
 have yG14:=zL h0q14 (HO.tup [V.non])
 have eq14:=zJ (H:=Jq13) (a:=q14) (o:=HO.tup [V.non])
 generalize hhG14:upd Jq13 q14 (HO.tup [V.non])=G14 at yG14 eq14 |-
 have SG14:=SG13.trans yG14
 replace era:=(yG14 _ _ era)
 replace hra:=(zG yG14 hra)
 replace eq12:=(yG14 _ _ eq12)
 replace hq12:=(zG yG14 hq12)
 replace eq13:=(yG14 _ _ eq13)
 replace hq13:=(zG yG14 hq13)
 have hq14:Paired (AV ac G14) [V.non] [AK.non]:=(Paired.cons AV.non Paired.nil)
 have lq14:List.length [AK.non]<=1:=(by show 1<=1; decide)
 have fq14:∀ a∈[AK.non],FA 2 a:=zc FA.non (λ_ h=>nomatch h)
 refine ⟨q13,q14,_,_,rfl,rfl,eq13,eq14,(by have:=lq13; have:=lq14; have:=Paired.length hq13; have:=Paired.length hq14; exact Nat.le_of_lt (zq (by omega))),λq15 Jq15 yq15 eq15=>?_⟩
 have SG15:=SG14.trans yq15
 replace era:=(yq15 _ _ era)
 replace hra:=(zG yq15 hra)
 replace eq12:=(yq15 _ _ eq12)
 replace hq12:=(zG yq15 hq12)
 replace eq13:=(yq15 _ _ eq13)
 replace hq13:=(zG yq15 hq13)
 replace eq14:=(yq15 _ _ eq14)
 replace hq14:=(zG yq15 hq14)
 have hq15:Paired (AV ac Jq15) ((List.take j (ns.map V.int))++[V.non]) ((List.take j (ns.map AK.int))++[AK.non]):=yl hq13 hq14
 have lq15:List.length ((List.take j (ns.map AK.int))++[AK.non])<=102:=(by rw [List.length_append]; omega)
 have fq15:∀ a∈((List.take j (ns.map AK.int))++[AK.non]),FA 2 a:=xE fq13 fq14
 refine ⟨_,rfl,_,rfl,_,rfl,ra,_,rfl,era,λq16 Jq16 yq16 eq16=>?_⟩
 rw [show zT (ns.map V.int) (some ((j:Nat):Int)) none=(List.drop j (ns.map V.int)) from wp _ _] at eq16
 have SG16:=SG15.trans yq16
 replace era:=(yq16 _ _ era)
 replace hra:=(zG yq16 hra)
 replace eq12:=(yq16 _ _ eq12)
 replace hq12:=(zG yq16 hq12)
 replace eq15:=(yq16 _ _ eq15)
 replace hq15:=(zG yq16 hq15)
 have hq16:Paired (AV ac Jq16) (List.drop j (ns.map V.int)) (List.drop j (ns.map AK.int)):=wA _ hra
 have lq16:List.length (List.drop j (ns.map AK.int))<=101:=Nat.le_trans (wL _ _) lra
 have fq16:∀ a∈(List.drop j (ns.map AK.int)),FA 2 a:=wM fra
 refine ⟨q15,q16,_,_,rfl,rfl,eq15,eq16,(by have:=lq15; have:=lq16; have:=Paired.length hq15; have:=Paired.length hq16; exact Nat.le_of_lt (zq (by omega))),λq17 Jq17 yq17 eq17=>?_⟩
 have SG17:=SG16.trans yq17
 replace era:=(yq17 _ _ era)
 replace hra:=(zG yq17 hra)
 replace eq12:=(yq17 _ _ eq12)
 replace hq12:=(zG yq17 hq12)
 replace eq15:=(yq17 _ _ eq15)
 replace hq15:=(zG yq17 hq15)
 replace eq16:=(yq17 _ _ eq16)
 replace hq16:=(zG yq17 hq16)
 have hq17:Paired (AV ac Jq17) (((List.take j (ns.map V.int))++[V.non])++(List.drop j (ns.map V.int))) (((List.take j (ns.map AK.int))++[AK.non])++(List.drop j (ns.map AK.int))):=yl hq15 hq16
 have lq17:List.length (((List.take j (ns.map AK.int))++[AK.non])++(List.drop j (ns.map AK.int)))<=203:=(by rw [List.length_append]; omega)
 have fq17:∀ a∈(((List.take j (ns.map AK.int))++[AK.non])++(List.drop j (ns.map AK.int))),FA 2 a:=xE fq15 fq16
 have mq17:AV ac Jq17 (V.ref q17) (AK.tup (((List.take j (ns.map AK.int))++[AK.non])++(List.drop j (ns.map AK.int)))):=(AV.tup eq17 hq17)
 refine ⟨(by show 2<=sizeLine; decide),λq18 h0q18=>?_⟩
 have yG18:=zL h0q18 (HO.lst [V.ref q17,V.int 5])
 have eq18:=zJ (H:=Jq17) (a:=q18) (o:=HO.lst [V.ref q17,V.int 5])
 generalize hhG18:upd Jq17 q18 (HO.lst [V.ref q17,V.int 5])=G18 at yG18 eq18 |-
 have SG18:=SG17.trans yG18
 replace era:=(yG18 _ _ era)
 replace hra:=(zG yG18 hra)
 replace eq12:=(yG18 _ _ eq12)
 replace hq12:=(zG yG18 hq12)
 replace mq17:=(AV.same yG18 mq17)
 have hq18:Paired (AV ac G18) [V.ref q17,V.int 5] [AK.tup (((List.take j (ns.map AK.int))++[AK.non])++(List.drop j (ns.map AK.int))),AK.int 5]:=(Paired.cons mq17 (Paired.cons (AV.int 5) Paired.nil))
 have lq18:List.length [AK.tup (((List.take j (ns.map AK.int))++[AK.non])++(List.drop j (ns.map AK.int))),AK.int 5]<=2:=(by show 2<=2; decide)
 have fq18:∀ a∈[AK.tup (((List.take j (ns.map AK.int))++[AK.non])++(List.drop j (ns.map AK.int))),AK.int 5],FA 3 a:=zc (FA.tup (Nat.le_trans lq17 (by decide)) fq17) (zc (FA.int _) (λ_ h=>nomatch h))
 refine ⟨q12,q18,_,_,rfl,rfl,eq12,eq18,(by have:=lq12; have:=lq18; have:=Paired.length hq12; have:=Paired.length hq18; exact Nat.le_of_lt (zq (by omega))),λq19 h0q19=>?_⟩
 have yG19:=zL h0q19 (HO.lst ([V.ref q1,V.ref q3,V.ref q4,V.ref q10,V.non,V.str "row",V.ref q11]++[V.ref q17,V.int 5]))
 have eq19:=zJ (H:=G18) (a:=q19) (o:=HO.lst ([V.ref q1,V.ref q3,V.ref q4,V.ref q10,V.non,V.str "row",V.ref q11]++[V.ref q17,V.int 5]))
 generalize hhG19:upd G18 q19 (HO.lst ([V.ref q1,V.ref q3,V.ref q4,V.ref q10,V.non,V.str "row",V.ref q11]++[V.ref q17,V.int 5]))=G19 at yG19 eq19 |-
 have SG19:=SG18.trans yG19
 replace era:=(yG19 _ _ era)
 replace hra:=(zG yG19 hra)
 replace eq12:=(yG19 _ _ eq12)
 replace hq12:=(zG yG19 hq12)
 replace eq18:=(yG19 _ _ eq18)
 replace hq18:=(zG yG19 hq18)
 have hq19:Paired (AV ac G19) ([V.ref q1,V.ref q3,V.ref q4,V.ref q10,V.non,V.str "row",V.ref q11]++[V.ref q17,V.int 5]) ([AK.lst (ns.map AK.int),AK.tup ((ns.map AK.int)++[AK.int 0]),AK.tup (List.drop 1 (ns.map AK.int)),AK.tup (((List.take j (ns.map AK.int))++[av6])++(List.drop (j + 1) (ns.map AK.int))),AK.non,AK.str "row",AK.tup ([]:List AK)]++[AK.tup (((List.take j (ns.map AK.int))++[AK.non])++(List.drop j (ns.map AK.int))),AK.int 5]):=yl hq12 hq18
 have lq19:List.length ([AK.lst (ns.map AK.int),AK.tup ((ns.map AK.int)++[AK.int 0]),AK.tup (List.drop 1 (ns.map AK.int)),AK.tup (((List.take j (ns.map AK.int))++[av6])++(List.drop (j + 1) (ns.map AK.int))),AK.non,AK.str "row",AK.tup ([]:List AK)]++[AK.tup (((List.take j (ns.map AK.int))++[AK.non])++(List.drop j (ns.map AK.int))),AK.int 5])<=9:=(by rw [List.length_append]; omega)
 have fq19:∀ a∈([AK.lst (ns.map AK.int),AK.tup ((ns.map AK.int)++[AK.int 0]),AK.tup (List.drop 1 (ns.map AK.int)),AK.tup (((List.take j (ns.map AK.int))++[av6])++(List.drop (j + 1) (ns.map AK.int))),AK.non,AK.str "row",AK.tup ([]:List AK)]++[AK.tup (((List.take j (ns.map AK.int))++[AK.non])++(List.drop j (ns.map AK.int))),AK.int 5]),FA 3 a:=xE fq12 fq18
 have al:yH ac (λa=>zx (n:Int) a=false) 3 G19 ([V.ref q1,V.ref q3,V.ref q4,V.ref q10,V.non,V.str "row",V.ref q11]++[V.ref q17,V.int 5]):=wq hq19 (zg (P:=(λa=>zx (n:Int) a=false)) rfl (FA.lst (Nat.le_trans lq1 (by decide)) fq1) (zg (P:=(λa=>zx (n:Int) a=false)) (qX (by rw [List.length_append,nl]; show ((n + 1 + 1:Nat):Int)≠_; omega)) (FA.tup (Nat.le_trans lq3 (by decide)) fq3) (zg (P:=(λa=>zx (n:Int) a=false)) (qX (by rw [List.length_drop,nl]; omega)) (FA.tup (Nat.le_trans lq4 (by decide)) fq4) (zg (P:=(λa=>zx (n:Int) a=false)) (UO (a:=av6) (List.mem_append_left _ (List.mem_append_right _ (List.mem_singleton.mpr rfl))) wv6) (FA.tup (Nat.le_trans lq10 (by decide)) fq10) (zg (P:=(λa=>zx (n:Int) a=false)) rfl FA.non (zg (P:=(λa=>zx (n:Int) a=false)) rfl (FA.str _) (zg (P:=(λa=>zx (n:Int) a=false)) (qX (by show ((0:Nat):Int)≠_; omega)) (FA.tup (Nat.le_trans lq11 (by decide)) fq11) (zg (P:=(λa=>zx (n:Int) a=false)) (qX (by rw [List.length_append,List.length_append,List.length_take,List.length_drop,nl]; show ((min j (n + 1) + 1 + (n + 1 - j):Nat):Int)≠_; omega)) (FA.tup (Nat.le_trans lq17 (by decide)) fq17) (zg (P:=(λa=>zx (n:Int) a=false)) rfl (FA.int _) wa)))))))))
 obtain ⟨xz,hxz,axz⟩:=wr (xs:=([V.ref q1,V.ref q3,V.ref q4,V.ref q10,V.non,V.str "row",V.ref q11]++[V.ref q17,V.int 5])) k0 (by show _ < ((9:Nat):Int); omega)
 exact ⟨_,rfl,_,_,rfl,rfl,(show (9:Int)≠0 by decide),q19,_,_,_,rfl,rfl,zM.of eq19,axz,q _ _ SG19 (al xz hxz)⟩
end
end K12
namespace K12
open PySem L2 Sh
section
variable {P:Program} {w:World} {K:PySem.W.Frag} {mg:Str->Option Value} {base:Heap}
noncomputable abbrev kd:Stmt:=xC 32
theorem Uf:yS ["_law_script","_law_k"] ["_law_script","_law_k"] (zQ kd):=.a
theorem Ug {k:Nat} {f:Addr} {fd:FuncData} {ac ad:Addr} (ae:zS K mg "Mode" ac) (af:yy K ac) (ag:zS K mg "Thing" ad) (ah:yz K ad) (Y:zj K ac) {C1 C2:Addr} (Z:yx K mg C1 C2) (F:yT K "_law_cell_at" "_law_cell_at" kd f fd) (B:Bl mg):zP P w K mg base zX (k + 1) f fd ["_law_script","_law_k"] (qM K):=by
 refine F.ok Uf (λvs H Q E h=>?_) (λcdv A outer s H vs Q E hr h=>?_)
 ·obtain ⟨_,_,_,rfl,_⟩:=h
  rfl
 obtain ⟨a,ns,k,rfl,hS,h0,q⟩:=h
 refine ⟨_,(za (yZ (yo (zw gF) (zB 1) (zr yF rfl B.len_ xQ (zA (zB 0) zH)) (yb _)) (zf (zk (yJ yU (zB 0) (zB 1) (λ_ _=>rfl)))) yY)
  (zf (zk zK))),?_⟩
 try dsimp only [zF,Cx.nox,Cx.wish]
 refine ⟨_,rfl,_,rfl,a,_,rfl,.inl hS,_,_,rfl,rfl,_,rfl,?_⟩
 refine yR (λc=>?_) (λc=>?_)
 ·have c':k < ((ns.map V.int).length:Int):=of_decide_eq_true c
  rw [List.length_map] at c'
  have hk:k.toNat < ns.length:=by omega
  have ek:k=((k.toNat:Nat):Int):=by omega
  have q0:xb (ns.map V.int) ((k.toNat:Nat):Int)=some (.int ns[k.toNat]):=wR (by rw [List.getElem?_map,List.getElem?_eq_getElem hk]; rfl)
  rw [<- ek] at q0
  refine ⟨_,rfl,_,rfl,a,_,k,.int (ns[k.toNat]),rfl,rfl,hS,q0,?_⟩
  ·have e:ns[k.toNat]=vE ns k:=by unfold vE; rw [List.getElem?_eq_getElem hk]; rfl
   rw [e]
   exact q
 ·have c':¬ k < ((ns.map V.int).length:Int):=λz=>c (decide_eq_true z)
  rw [List.length_map] at c'
  have e:(0:Int)=vE ns k:=by unfold vE; rw [List.getElem?_eq_none (by omega)]; rfl
  show Q (.int 0) H
  rw [e]
  exact q
noncomputable abbrev kg:Stmt:=xC 33
theorem vn:yS ["_law_cell","_law_many","_law_found","_law_rest","_law_k","_law_number"] ["_law_cell","_law_many"] (zQ kg):=.a
theorem Uh {k:Nat} {f:Addr} {fd:FuncData} {ac ad:Addr} (ae:zS K mg "Mode" ac) (af:yy K ac) (ag:zS K mg "Thing" ad) (ah:yz K ad) (Y:zj K ac) {C1 C2:Addr} (Z:yx K mg C1 C2) (F:yT K "_law_stream" "_law_stream" kg f fd) (B:Bl mg):zP P w K mg base zX (k + 1) f fd ["_law_cell","_law_many"] gj:=by
 refine F.ok vn (λvs H Q E h=>?_) (λcdv A outer s H vs Q E hr h=>?_)
 ·obtain ⟨_,_,rfl,_⟩:=h
  rfl
 obtain ⟨c,mm,rfl,m0,m10,q⟩:=h
 refine ⟨_,(za (ya (i:=2) vn.nd rfl (Or.inl rfl) (zn zH))
  (za (yZ (yo (zw ZM) (zB 0) (zO (ji j7) zK zK) (yb _)) (za (ya (i:=3) vn.nd rfl (Or.inl rfl) (zO (zw wx) (zB 0) (zO (ji j7) zK zK)))
   (za (gB PassesOwn.never rfl (vO rfl B.range_ (zA (zB 1) zH)) (yg (i:=4) vn.nd rfl (Or.inl rfl)) (za (ZC (gW PySem.F.plainAttrs_list PySem.F.slot_list_append PySem.F.type_list_append jO (zB 2) (zA (zO (ji yI) (zB 3) zK) zH)))
    (zf (ya (i:=3) vn.nd rfl (Or.inl rfl) (zO (ji xu) (zB 3) zK)))))
   (zf (zk (zB 2))))) yY)
  (za (ya (i:=5) vn.nd rfl (Or.inl rfl) (zO (zw ym) (zO (ji yI) (zB 0) zK) zK))
  (za (gB PassesOwn.never rfl (vO rfl B.range_ (zA (zO (zw ym) (zB 1) zK) zH)) (yg (i:=4) vn.nd rfl (Or.inl rfl)) (za (ya (i:=5) vn.nd rfl (Or.inl rfl) (zO (ji yI) (zO (zw ym) (zO (zw ym) (zO (ji vA) (zB 5) (zB 5)) (zO (ji vA) zK (zB 5))) (zB 4)) zK))
   (zf (ZC (gW PySem.F.plainAttrs_list PySem.F.slot_list_append PySem.F.type_list_append jO (zB 2) (zA (zB 5) zH))))))
  (zf (zk (yc yr (zB 2) (yM zK) yp))))))),?_⟩
 try dsimp only [zF,Cx.nox,Cx.wish]
 have p0:(0:Int) < 2147483647:=by decide
 have b0:Bd 31 (2147483647:Int):=Bd.lit
 have big:(2147483647:Int) < 10 ^ 45:=by decide
 have bmod:∀ z:Int,Bd 31 (z.fmod 2147483647):=λz=>by
  have h1:=Int.fmod_nonneg_of_pos z p0
  have h2:=Int.fmod_lt_of_pos z p0
  have h3:(2147483647:Int).natAbs < 2 ^ 31:=b0
  show (z.fmod 2147483647).natAbs < 2 ^ 31
  omega
 refine ⟨(by show 0<=sizeLine; decide),λl hl=>?_⟩
 refine ⟨_,rfl,_,_,rfl,rfl,⟨by decide,by decide,by decide⟩,_,_,rfl,rfl,_,rfl,?_⟩
 refine yR (λcc=>?_) (λcc=>?_)
 ·refine ⟨_,rfl,_,_,rfl,rfl,⟨by decide,by decide,by decide⟩,_,_,rfl,rfl,?_⟩
  refine ⟨_,rfl,mm,rfl,(by omega),(by omega),gC (lo:=0) (n:=mm.toNat)
   (λi σ H2=>∃ (xs:List Int) (rs:Int) (kk:Option V),σ=[some (.int c),some (.int mm),some (.ref l),some (.int rs),kk,none]/\H2=upd H l (.lst (xs.map V.int))/\xs.length=i/\∀ x∈xs,0<=x/\x < 10 ^ 45)
   ⟨[],_,none,rfl,rfl,rfl,λx hx=>by cases hx⟩ ?_ ?_⟩
  ·rintro i σ H2 hi ⟨xs,rs,kk,rfl,rfl,hlen,hxs⟩
   refine ⟨_,rfl,.inl ⟨rfl,_,zM.of zJ⟩,_,rfl,_,_,rfl,rfl,(show (2147483647:Int)≠0 by decide),l,_,_,rfl,rfl,zJ,?_,?_⟩
   ·rw [List.length_map]
    exact zq (by omega)
   refine ⟨_,rfl,_,_,rfl,rfl,⟨(show (2147483647:Int)≠0 by decide),b0.mono⟩,?_⟩
   refine ⟨xs++[rs.fmod 2147483647],_,_,rfl,?_,?_,λx hx=>?_⟩
   ·rw [kz,List.map_append]
    rfl
   ·rw [List.length_append,hlen]
    rfl
   ·rcases List.mem_append.mp hx with hx | hx
    ·exact hxs x hx
    ·rw [List.mem_singleton.mp hx]
     have h2:=Int.fmod_lt_of_pos rs p0
     exact ⟨Int.fmod_nonneg_of_pos _ p0,by omega⟩
  ·rintro σ H2 ⟨xs,rs,kk,rfl,rfl,hlen,hxs⟩
   exact ⟨_,rfl,q l _ xs (zL hl _) hl zJ hlen hxs⟩
 ·refine ⟨_,rfl,_,_,rfl,rfl,(show (2147483647:Int)≠0 by decide),_,_,rfl,rfl,?_⟩
  have bk:Bd 31 (48271:Int):=Bd.lit
  have hb0:Bd 62 (c.fmod 2147483647 + 48271):=((bmod c).add bk).mono
  refine ⟨_,rfl,_,_,rfl,rfl,mm + 2,rfl,(by omega),(by omega),gC (lo:=0) (n:=(mm + 2).toNat)
   (λi σ H2=>∃ (xs:List Int) (nh:Int) (kk:Option V),σ=[some (.int c),some (.int mm),some (.ref l),none,kk,some (.int nh)]/\H2=upd H l (.lst (xs.map V.int))/\xs.length=i/\Bd 62 nh/\∀ x∈xs,0<=x/\x < 10 ^ 45)
   ⟨[],_,none,rfl,rfl,rfl,hb0,λx hx=>by cases hx⟩ ?_ ?_⟩
  ·rintro i σ H2 hi ⟨xs,nh,kk,rfl,rfl,hlen,hnh,hxs⟩
   refine ⟨_,rfl,_,rfl,_,_,rfl,rfl,⟨hnh.mono,hnh.mono⟩,_,rfl,_,_,rfl,rfl,⟨bk.mono,hnh.mono⟩,_,_,rfl,rfl,_,rfl,_,_,rfl,rfl,_,_,rfl,rfl,(show (2147483647:Int)≠0 by decide),?_⟩
   refine ⟨_,rfl,.inl ⟨rfl,_,zM.of zJ⟩,_,rfl,l,_,_,rfl,rfl,zJ,?_,?_⟩
   ·rw [List.length_map]
    exact zq (by omega)
   refine ⟨xs++[(nh * nh + 48271 * nh + (0 + (i:Int))).fmod 2147483647],_,_,rfl,?_,?_,(bmod _).mono,λx hx=>?_⟩
   ·rw [kz,List.map_append]
    rfl
   ·rw [List.length_append,hlen]
    rfl
   ·rcases List.mem_append.mp hx with hx | hx
    ·exact hxs x hx
    ·rw [List.mem_singleton.mp hx]
     have h2:=Int.fmod_lt_of_pos (nh * nh + 48271 * nh + (0 + (i:Int))) p0
     exact ⟨Int.fmod_nonneg_of_pos _ p0,by omega⟩
  ·rintro σ H2 ⟨xs,nh,kk,rfl,rfl,hlen,hnh,hxs⟩
   refine ⟨_,rfl,_,rfl,l,_,rfl,zM.of zJ,λp hp=>?_⟩
   have ec:zT (xs.map V.int) (some 2) none=(xs.drop 2).map V.int:=by
    have e1:HT.sIx (xs.map V.int).length 0 (some 2)=min 2 (xs.map V.int).length:=HT.sIx_nat _ 0 2
    unfold zT
    rw [e1,HT.sIx_none,List.length_map,hlen,show min 2 (mm + 2).toNat=2 by omega,<- List.map_drop,List.take_of_length_le (by rw [List.length_map,List.length_drop]; omega)]
   refine q p _ (xs.drop 2) ((zL hl _).trans (zL hp _)) ((zL hl _).free hp) (zJ.trans (by rw [ec])) (by rw [List.length_drop]; omega) λx hx=>hxs x (List.mem_of_mem_drop hx)
noncomputable abbrev uf:Stmt:=xC 36
theorem jj:yS ["_law_cell","_law_many","_law_wide","_law_xs","_law_rows","_law_move","_law_push"] ["_law_cell","_law_many","_law_wide"] (zQ uf):=.a
theorem Ui {k:Nat} {f:Addr} {fd:FuncData} {ac ad:Addr} (ae:zS K mg "Mode" ac) (af:yy K ac) (ag:zS K mg "Thing" ad) (ah:yz K ad) (Y:zj K ac) {C1 C2:Addr} (Z:yx K mg C1 C2) (F:yT K "_law_parts" "_law_parts" uf f fd) (B:Bl mg) (aE:Fn P w K mg base "_law_stream" ["_law_cell","_law_many"] k gj):zP P w K mg base zX (k + 1) f fd ["_law_cell","_law_many","_law_wide"] kL:=by
 refine F.ok jj (λvs H Q E h=>?_) (λcdv A outer s H vs Q E hr h=>?_)
 ·obtain ⟨_,_,_,rfl,_⟩:=h
  rfl
 obtain ⟨c,mm,ww,rfl,m1,m3,w0,w3,q⟩:=h
 refine ⟨_,(za (ya (i:=3) jj.nd rfl (Or.inr rfl) (wc (own:=["_law_number"]) (caps:=[]) (uB rfl) rfl (wu (yE aE hr rfl (zA (zB 0) (zA zK zH)))) (λ_ _ _ _=>yg (i:=0) (show (["_law_number"]:List Str).Nodup by decide +kernel) rfl (Or.inl rfl)) (λ_ _ _ _=>(zO (zw wx) (zO (ji yI) (zB 0) zK) zK))))
  (za (jF (i:=4) jj.nd rfl rfl (own:=["_law_k"]) (caps:=[(1,"_law_many"),(3,"_law_xs")]) (vD (S:=zQ uf) (N:=["_law_cell","_law_many","_law_wide","_law_xs","_law_rows","_law_move","_law_push"]) rfl (by decide +kernel) rfl ⟨_,rfl⟩ rfl (by decide +kernel) (by decide +kernel)) rfl (vO rfl B.range_ (zA (zO (zw ym) zK (zO (ji yI) (zB 0) zK)) zH)) (λ_ _ _ _=>yg (i:=0) (show (["_law_k","_law_many","_law_xs"]:List Str).Nodup by decide +kernel) rfl (Or.inl rfl)) (λ_ _ _ _=>(wQ (show yk _ _ (uI K) from xn) rfl B.tuple_ we (zA (yc (show w4 _ (xx K) from yr) (zB 2) (yM (zO (ji vA) zK (zB 0))) (yM (zO (zw ym) (zO (zw ym) (zO (ji vA) zK (zB 0)) (zB 1)) zK))) zH))) rfl)
  (za (jF (i:=5) jj.nd rfl rfl (own:=["_law_i"]) (caps:=[(1,"_law_many"),(3,"_law_xs")]) (vD (S:=zQ uf) (N:=["_law_cell","_law_many","_law_wide","_law_xs","_law_rows","_law_move","_law_push"]) rfl (by decide +kernel) rfl ⟨_,rfl⟩ rfl (by decide +kernel) (by decide +kernel)) rfl (vO rfl B.range_ (zA (zB 1) zH)) (λ_ _ _ _=>yg (i:=0) (show (["_law_i","_law_many","_law_xs"]:List Str).Nodup by decide +kernel) rfl (Or.inl rfl)) (λ_ _ _ _=>(yc (show w4 _ (xx K) from yr) (zB 2) (yM (zO (zw ym) zK (zO (ji vA) zK (zB 0)))) (yM (zO (zw ym) (zO (zw ym) zK (zO (ji vA) zK (zB 0))) (zB 1))))) rfl)
  (za (jF (i:=6) jj.nd rfl rfl (own:=["_law_i"]) (caps:=[(2,"_law_wide"),(3,"_law_xs")]) (vD (S:=zQ uf) (N:=["_law_cell","_law_many","_law_wide","_law_xs","_law_rows","_law_move","_law_push"]) rfl (by decide +kernel) rfl ⟨_,rfl⟩ rfl (by decide +kernel) (by decide +kernel)) rfl (vO rfl B.range_ (zA (zB 1) zH)) (λ_ _ _ _=>yg (i:=0) (show (["_law_i","_law_wide","_law_xs"]:List Str).Nodup by decide +kernel) rfl (Or.inl rfl)) (λ_ _ _ _=>(yc (show w4 _ (xx K) from yr) (zB 2) (yM (zO (zw ym) zK (zO (ji vA) zK (zB 0)))) (yM (zO (zw ym) (zO (zw ym) zK (zO (ji vA) zK (zB 0))) (zB 1))))) rfl)
  (zf (zk (zn (zA (zB 4) (zA (zB 5) (zA (yc yr (zB 3) (yM zK) (yM (zO (zw ym) zK (zB 1)))) (zA (zB 6) (zA (yc yr (zB 3) (yM zK) (yM (zO (zw ym) zK (zB 1)))) (zA (zO (zw ym) zK (zO (ji yI) (zB 0) zK)) zH))))))))))))),?_⟩
 try dsimp only [zF,Cx.nox,Cx.wish]
 have b4:Bd 4 (4:Int):=Bd.lit
 refine ⟨_,rfl,_,50,rfl,(by decide),(by decide),λxa J1 xs y1 _ ex lx bx0=>?_⟩
 have lx50:xs.length=50:=lx
 have SG1:=y1
 refine ⟨xa,rfl,⟨_,zM.of ex⟩,vB (K:=K) (a:=xa) (xs:=xs.map V.int) (λi ys σ H'=>∃ ws:List Int,ys=ws.map V.int/\ws.length=i/\(∀ x∈ws,Bd 101 x)/\(∃ o,σ=[o])/\H'=J1)
  ⟨[],rfl,rfl,(λx hx=>by cases hx),⟨none,rfl⟩,rfl⟩ (λi ys σ H' hi ⟨ws,e1,l1,_,_,e3⟩=>⟨by rw [e3]; exact zM.of ex,by rw [e1,List.length_map]; omega⟩) (by rw [List.length_map,lx50]; exact Nat.le_of_lt (zq (by decide))) ?_ ?_⟩
 ·rintro i x ys σ H' hi ⟨ws,rfl,lw,bw,⟨o,rfl⟩,rfl⟩
  obtain ⟨z,hz,rfl⟩:=X9 hi
  have h1:=Int.fmod_nonneg_of_pos z (show (0:Int) < 19 by decide)
  have h2:=Int.fmod_lt_of_pos z (show (0:Int) < 19 by decide)
  have b5:Bd 5 (z.fmod 19 - 9):=by
   show (z.fmod 19 - 9).natAbs < 2 ^ 5
   omega
  refine ⟨_,rfl,_,_,rfl,rfl,(show (19:Int)≠0 by decide),_,_,rfl,rfl,ws++[z.fmod 19 - 9],(by rw [List.map_append]; rfl),(by rw [List.length_append,lw]; rfl),λu hu=>?_,⟨_,rfl⟩,rfl⟩
  rcases List.mem_append.mp hu with hu | hu
  ·exact bw u hu
  ·rw [List.mem_singleton.mp hu]; exact b5.mono
 rintro ys σ H' ⟨ns,rfl,ln0,bns,⟨o,rfl⟩,hZ⟩ nu hnu
 rw [hZ] at hnu |-
 clear hZ
 have ln:ns.length=50:=by rw [ln0,List.length_map,lx50]
 have yG2:=zL hnu (HO.lst (ns.map V.int))
 have enu:=zJ (H:=J1) (a:=nu) (o:=HO.lst (ns.map V.int))
 generalize hhG2:upd J1 nu (HO.lst (ns.map V.int))=G2 at yG2 enu |-
 have SG2:=SG1.trans yG2
 replace ex:=(yG2 _ _ ex)
 have k0:=Int.fmod_nonneg_of_pos c (show (0:Int) < 3 by decide)
 have k3:=Int.fmod_lt_of_pos c (show (0:Int) < 3 by decide)
 refine ⟨_,rfl,_,_,rfl,rfl,(show (3:Int)≠0 by decide),_,_,rfl,rfl,_,rfl,(by omega),(by omega),uU (lo:=0) (n:=(1 + c.fmod 3).toNat)
  (λi ys σ H'=>∃ rows:List (List Int),xD H' ys rows/\rows.length=i/\(∀ r∈rows,r.length=mm.toNat + 1)/\(∃ o,σ=[o,some (.int mm),some (.ref nu)])/\zC G2 H')
  ⟨[],.nil,rfl,(λr hr'=>by cases hr'),⟨none,rfl⟩,zC.refl _⟩ (λi ys σ H' ⟨tab,ht,hl,_⟩=>by have:=Paired.length ht; omega) (Nat.le_of_lt (zq (by omega))) ?_ ?_⟩
 ·rintro i ys σ H3 hi ⟨rows,ht,hl,htl,⟨o,rfl⟩,sm⟩
  have bi:Bd 10 ((0:Int) + (i:Int)):=by
   show ((0:Int) + (i:Int)).natAbs < 2 ^ 10
   omega
  have ec:zT (ns.map V.int) (some (4 * ((0:Int) + (i:Int)))) (some (4 * ((0:Int) + (i:Int)) + mm + 1))=((ns.drop (4 * i)).take (4 * i + mm.toNat + 1 - 4 * i)).map V.int:=by
   rw [show (4:Int) * ((0:Int) + (i:Int))=((4 * i:Nat):Int) by omega,show ((4 * i:Nat):Int) + mm + 1=((4 * i + mm.toNat + 1:Nat):Int) by omega]
   exact jc ns (by omega) (by omega)
  refine ⟨_,rfl,_,rfl,_,_,rfl,rfl,⟨b4.mono,bi.mono⟩,_,rfl,_,rfl,_,_,rfl,rfl,⟨b4.mono,bi.mono⟩,_,rfl,_,_,rfl,rfl,_,_,rfl,rfl,_,rfl,nu,_,rfl,zM.of (sm _ _ enu),λp hp=>?_⟩
  have z:=zL hp (HO.lst (zT (ns.map V.int) (some (4 * ((0:Int) + (i:Int)))) (some (4 * ((0:Int) + (i:Int)) + mm + 1))))
  refine ⟨p,_,rfl,.inl ⟨zM.of (zJ.trans (by rw [ec])),λt htt=>?_⟩⟩
  have zz:=zL htt (HO.tup (((ns.drop (4 * i)).take (4 * i + mm.toNat + 1 - 4 * i)).map V.int))
  refine ⟨rows++[(ns.drop (4 * i)).take (4 * i + mm.toNat + 1 - 4 * i)],wS (R:=λv (k:List Int)=>Tp _ v (k.map V.int)) ⟨t,rfl,zJ⟩ (xD.same (z.trans zz) ht),(by rw [List.length_append,hl]; rfl),λr hr'=>?_,⟨_,rfl⟩,sm.trans (z.trans zz)⟩
  rcases List.mem_append.mp hr' with hr' | hr'
  ·exact htl r hr'
  ·rw [List.mem_singleton.mp hr',jd (by omega) (by omega)]
   omega
 rintro rv σ J3 ⟨rows,hrv,lr,RO,⟨o2,rfl⟩,y3⟩ ra hra
 have SG3:=SG2.trans y3
 replace enu:=(y3 _ _ enu)
 have yG4:=zL hra (HO.lst rv)
 have era:=zJ (H:=J3) (a:=ra) (o:=HO.lst rv)
 generalize hhG4:upd J3 ra (HO.lst rv)=G4 at yG4 era |-
 have SG4:=SG3.trans yG4
 replace enu:=(yG4 _ _ enu)
 replace hrv:=(xD.same yG4 hrv)
 refine ⟨_,rfl,mm,rfl,(by omega),(by omega),uU (lo:=0) (n:=mm.toNat)
  (λi ys σ H'=>∃ tab:List (List Int),zY H' ys tab/\tab.length=i/\(∀ r∈tab,r.length=mm.toNat/\∀ x∈r,Bd 101 x)/\(∃ o,σ=[o,some (.int mm),some (.ref nu)])/\zC G4 H')
  ⟨[],.nil,rfl,(λr hr'=>by cases hr'),⟨none,rfl⟩,zC.refl _⟩ (λi ys σ H' ⟨tab,ht,hl,_⟩=>by have:=Paired.length ht; omega) (Nat.le_of_lt (zq (by omega))) ?_ ?_⟩
 ·rintro i ys σ H' hi ⟨tab,ht,hl,htl,⟨o,rfl⟩,sm⟩
  have bi:Bd 10 ((0:Int) + (i:Int)):=by
   show ((0:Int) + (i:Int)).natAbs < 2 ^ 10
   omega
  have bg:Bd 10 (3:Int):=Bd.lit
  have ec:zT (ns.map V.int) (some (12 + 3 * ((0:Int) + (i:Int)))) (some (12 + 3 * ((0:Int) + (i:Int)) + mm))=((ns.drop (12 + 3 * i)).take (12 + 3 * i + mm.toNat - (12 + 3 * i))).map V.int:=by
   rw [show (12:Int) + 3 * ((0:Int) + (i:Int))=((12 + 3 * i:Nat):Int) by omega,show ((12 + 3 * i:Nat):Int) + mm=((12 + 3 * i + mm.toNat:Nat):Int) by omega]
   exact jc ns (by omega) (by omega)
  refine ⟨_,rfl,_,rfl,_,_,rfl,rfl,⟨bg.mono,bi.mono⟩,_,_,rfl,rfl,_,rfl,_,rfl,_,_,rfl,rfl,⟨bg.mono,bi.mono⟩,_,_,rfl,rfl,_,rfl,_,_,rfl,rfl,_,rfl,nu,_,rfl,zM.of (sm _ _ enu),λp hp=>?_⟩
  have z:=zL hp (HO.lst (zT (ns.map V.int) (some (12 + 3 * ((0:Int) + (i:Int)))) (some (12 + 3 * ((0:Int) + (i:Int)) + mm))))
  refine ⟨tab++[(ns.drop (12 + 3 * i)).take (12 + 3 * i + mm.toNat - (12 + 3 * i))],wS (R:=xy _) ⟨p,rfl,zJ.trans (by rw [ec])⟩ (ht.same z),(by rw [List.length_append,hl]; rfl),λr hr'=>?_,⟨_,rfl⟩,sm.trans z⟩
  rcases List.mem_append.mp hr' with hr' | hr'
  ·exact htl r hr'
  ·rw [List.mem_singleton.mp hr',jd (by omega) (by omega)]
   exact ⟨by omega,YQ bns⟩
 rintro tn σ J4 ⟨tN,htn,ltN,otN,⟨o1,rfl⟩,y4⟩ na hna
 have SG5:=SG4.trans y4
 replace enu:=(y4 _ _ enu)
 replace hrv:=(xD.same y4 hrv)
 replace era:=(y4 _ _ era)
 have yG6:=zL hna (HO.lst tn)
 have ena:=zJ (H:=J4) (a:=na) (o:=HO.lst tn)
 generalize hhG6:upd J4 na (HO.lst tn)=G6 at yG6 ena |-
 have SG6:=SG5.trans yG6
 replace enu:=(yG6 _ _ enu)
 replace hrv:=(xD.same yG6 hrv)
 replace era:=(yG6 _ _ era)
 replace htn:=(zY.same yG6 htn)
 refine ⟨_,rfl,mm,rfl,(by omega),(by omega),uU (lo:=0) (n:=mm.toNat)
  (λi ys σ H'=>∃ tab:List (List Int),zY H' ys tab/\tab.length=i/\(∀ r∈tab,r.length=ww.toNat/\∀ x∈r,Bd 101 x)/\(∃ o,σ=[o,some (.int ww),some (.ref nu)])/\zC G6 H')
  ⟨[],.nil,rfl,(λr hr'=>by cases hr'),⟨none,rfl⟩,zC.refl _⟩ (λi ys σ H' ⟨tab,ht,hl,_⟩=>by have:=Paired.length ht; omega) (Nat.le_of_lt (zq (by omega))) ?_ ?_⟩
 ·rintro i ys σ H' hi ⟨tab,ht,hl,htl,⟨o,rfl⟩,sm⟩
  have bi:Bd 10 ((0:Int) + (i:Int)):=by
   show ((0:Int) + (i:Int)).natAbs < 2 ^ 10
   omega
  have bg:Bd 10 (7:Int):=Bd.lit
  have ec:zT (ns.map V.int) (some (21 + 7 * ((0:Int) + (i:Int)))) (some (21 + 7 * ((0:Int) + (i:Int)) + ww))=((ns.drop (21 + 7 * i)).take (21 + 7 * i + ww.toNat - (21 + 7 * i))).map V.int:=by
   rw [show (21:Int) + 7 * ((0:Int) + (i:Int))=((21 + 7 * i:Nat):Int) by omega,show ((21 + 7 * i:Nat):Int) + ww=((21 + 7 * i + ww.toNat:Nat):Int) by omega]
   exact jc ns (by omega) (by omega)
  refine ⟨_,rfl,_,rfl,_,_,rfl,rfl,⟨bg.mono,bi.mono⟩,_,_,rfl,rfl,_,rfl,_,rfl,_,_,rfl,rfl,⟨bg.mono,bi.mono⟩,_,_,rfl,rfl,_,rfl,_,_,rfl,rfl,_,rfl,nu,_,rfl,zM.of (sm _ _ enu),λp hp=>?_⟩
  have z:=zL hp (HO.lst (zT (ns.map V.int) (some (21 + 7 * ((0:Int) + (i:Int)))) (some (21 + 7 * ((0:Int) + (i:Int)) + ww))))
  refine ⟨tab++[(ns.drop (21 + 7 * i)).take (21 + 7 * i + ww.toNat - (21 + 7 * i))],wS (R:=xy _) ⟨p,rfl,zJ.trans (by rw [ec])⟩ (ht.same z),(by rw [List.length_append,hl]; rfl),λr hr'=>?_,⟨_,rfl⟩,sm.trans z⟩
  rcases List.mem_append.mp hr' with hr' | hr'
  ·exact htl r hr'
  ·rw [List.mem_singleton.mp hr',jd (by omega) (by omega)]
   exact ⟨by omega,YQ bns⟩
 rintro tp σ J5 ⟨tP,htp,ltP,otP,⟨o1,rfl⟩,y5⟩ pa hpa
 have SG7:=SG6.trans y5
 replace enu:=(y5 _ _ enu)
 replace hrv:=(xD.same y5 hrv)
 replace era:=(y5 _ _ era)
 replace htn:=(zY.same y5 htn)
 replace ena:=(y5 _ _ ena)
 have yG8:=zL hpa (HO.lst tp)
 have epa:=zJ (H:=J5) (a:=pa) (o:=HO.lst tp)
 generalize hhG8:upd J5 pa (HO.lst tp)=G8 at yG8 epa |-
 have SG8:=SG7.trans yG8
 replace enu:=(yG8 _ _ enu)
 replace hrv:=(xD.same yG8 hrv)
 replace era:=(yG8 _ _ era)
 replace htn:=(zY.same yG8 htn)
 replace ena:=(yG8 _ _ ena)
 replace htp:=(zY.same yG8 htp)
 have ecS:zT (ns.map V.int) (some 42) (some (42 + mm))=((ns.drop 42).take (42 + mm.toNat - 42)).map V.int:=by
  rw [show (42:Int)=((42:Nat):Int) from rfl,show ((42:Nat):Int) + mm=((42 + mm.toNat:Nat):Int) by omega]
  exact jc ns (by omega) (by omega)
 have ecA:zT (ns.map V.int) (some 45) (some (45 + mm))=((ns.drop 45).take (45 + mm.toNat - 45)).map V.int:=by
  rw [show (45:Int)=((45:Nat):Int) from rfl,show ((45:Nat):Int) + mm=((45 + mm.toNat:Nat):Int) by omega]
  exact jc ns (by omega) (by omega)
 refine ⟨_,rfl,_,rfl,_,rfl,_,rfl,_,rfl,_,_,rfl,rfl,_,rfl,nu,_,rfl,zM.of enu,λsa hsa=>?_⟩
 rw [ecS]
 have yG9:=zL hsa (HO.lst (((ns.drop 42).take (42 + mm.toNat - 42)).map V.int))
 have esa:=zJ (H:=G8) (a:=sa) (o:=HO.lst (((ns.drop 42).take (42 + mm.toNat - 42)).map V.int))
 generalize hhG9:upd G8 sa (HO.lst (((ns.drop 42).take (42 + mm.toNat - 42)).map V.int))=G9 at yG9 esa |-
 have SG9:=SG8.trans yG9
 replace enu:=(yG9 _ _ enu)
 replace hrv:=(xD.same yG9 hrv)
 replace era:=(yG9 _ _ era)
 replace htn:=(zY.same yG9 htn)
 replace ena:=(yG9 _ _ ena)
 replace htp:=(zY.same yG9 htp)
 replace epa:=(yG9 _ _ epa)
 refine ⟨_,rfl,_,rfl,_,rfl,_,rfl,_,_,rfl,rfl,_,rfl,nu,_,rfl,zM.of enu,λaa haa=>?_⟩
 rw [ecA]
 have yG10:=zL haa (HO.lst (((ns.drop 45).take (45 + mm.toNat - 45)).map V.int))
 have eaa:=zJ (H:=G9) (a:=aa) (o:=HO.lst (((ns.drop 45).take (45 + mm.toNat - 45)).map V.int))
 generalize hhG10:upd G9 aa (HO.lst (((ns.drop 45).take (45 + mm.toNat - 45)).map V.int))=G10 at yG10 eaa |-
 have SG10:=SG9.trans yG10
 replace enu:=(yG10 _ _ enu)
 replace hrv:=(xD.same yG10 hrv)
 replace era:=(yG10 _ _ era)
 replace htn:=(zY.same yG10 htn)
 replace ena:=(yG10 _ _ ena)
 replace htp:=(zY.same yG10 htp)
 replace epa:=(yG10 _ _ epa)
 replace esa:=(yG10 _ _ esa)
 have d0:=Int.fmod_nonneg_of_pos c (show (0:Int) < 9 by decide)
 refine ⟨_,rfl,_,_,rfl,rfl,(show (9:Int)≠0 by decide),_,_,rfl,rfl,(by show 6<=sizeLine; decide),λpl hpl=>?_⟩
 generalize c.fmod 9=dv at d0 |-
 have yG11:=zL hpl (HO.lst [V.ref ra,V.ref na,V.ref sa,V.ref pa,V.ref aa,V.int (1 + dv)])
 have epl:=zJ (H:=G10) (a:=pl) (o:=HO.lst [V.ref ra,V.ref na,V.ref sa,V.ref pa,V.ref aa,V.int (1 + dv)])
 generalize hhG11:upd G10 pl (HO.lst [V.ref ra,V.ref na,V.ref sa,V.ref pa,V.ref aa,V.int (1 + dv)])=G11 at yG11 epl |-
 have SG11:=SG10.trans yG11
 replace enu:=(yG11 _ _ enu)
 replace hrv:=(xD.same yG11 hrv)
 replace era:=(yG11 _ _ era)
 replace htn:=(zY.same yG11 htn)
 replace ena:=(yG11 _ _ ena)
 replace htp:=(zY.same yG11 htp)
 replace epa:=(yG11 _ _ epa)
 replace esa:=(yG11 _ _ esa)
 replace eaa:=(yG11 _ _ eaa)
 have l1:((ns.drop 42).take (42 + mm.toNat - 42)).length=mm.toNat:=by rw [jd (by omega) (by omega)]; omega
 have l2:((ns.drop 45).take (45 + mm.toNat - 45)).length=mm.toNat:=by rw [jd (by omega) (by omega)]; omega
 exact q (.ref pl) ⟨rows,tN,(ns.drop 42).take (42 + mm.toNat - 42),tP,(ns.drop 45).take (45 + mm.toNat - 45),1 + dv⟩ _ SG11 ⟨pl,ra,na,sa,pa,aa,rv,tn,tp,rfl,epl,⟨era,hrv,ena,htn,esa,epa,htp,eaa⟩⟩
  ⟨RO,(by show rows.length<=900; omega),⟨ltN,λr hr=>(otN r hr).1⟩,l1,⟨ltP,λr hr=>(otP r hr).1⟩,l2,(by show 1<=1 + dv; omega),(by omega),(by omega)⟩ (by show 1<=rows.length; omega) (by show rows.length<=3; omega)
end
end K12
namespace K12
open PySem L2 Sh
section
variable {P:Program} {w:World} {K:PySem.W.Frag} {mg:Str->Option Value} {base:Heap}
noncomputable abbrev xN:Stmt:=xC 40
theorem wY:yS ["_law_parts_here","_law_cell","_law_rows","_law_move","_law_steer","_law_push","_law_add","_law_divisor","_law_way","_law_rest","_law_at"] ["_law_parts_here","_law_cell"] (zQ xN):=.a
theorem Uj {k:Nat} {f:Addr} {fd:FuncData} {ac ad:Addr} (ae:zS K mg "Mode" ac) (af:yy K ac) (ag:zS K mg "Thing" ad) (ah:yz K ad) (Y:zj K ac) {C1 C2:Addr} (Z:yx K mg C1 C2) (F:yT K "_law_spoilt" "_law_spoilt" xN f fd) (B:Bl mg) (aF:Fn P w K mg base "_law_no_row" ["_law_cell","_law_row"] k (kK ac)) (au:Fn P w K mg base "_law_no_list" ["_law_cell","_law_one"] k (kJ ac)):zP P w K mg base zX (k + 1) f fd ["_law_parts_here","_law_cell"] (kN ac):=by
 refine F.ok wY (λvs H Q E h=>?_) (λcdv A outer s H vs Q E hr h=>?_)
 ·obtain ⟨_,_,_,_,_,rfl,_⟩:=h
  rfl
 obtain ⟨v,m,c,n,w2,rfl,hM,MO,n1,w6,r1,r3,q⟩:=h
 obtain ⟨u_11,E_11,U_11⟩:=L2.wl (p:=λt=>yi (zF zX P w K mg base ["_law_parts_here","_law_cell","_law_rows","_law_move","_law_steer","_law_push","_law_add","_law_divisor","_law_way","_law_rest","_law_at"] "_law_spoilt" (zQ xN) f cdv A outer s H E).nox ((yQ xN).drop 11) t) (zf (zk (zn (zA (zB 2) (zA (zB 3) (zA (zB 4) (zA (zB 5) (zA (zB 6) (zA (yJ yU (zn (zA zK (zA (zO (zw wx) (zO (zw wx) zK zK) (zO (ji yI) (zB 9) (zO (ji j7) zK zK))) (zA wB (zA wC (zA xS (zA (xi (zA zK (zA zK zH))) zH))))))) (zO (ji yI) (zB 9) zK) (λ_ _=>rfl)) zH)))))))))
 obtain ⟨u_10,E_10,U_10⟩:=L2.wl (p:=λt=>yi (zF zX P w K mg base ["_law_parts_here","_law_cell","_law_rows","_law_move","_law_steer","_law_push","_law_add","_law_divisor","_law_way","_law_rest","_law_at"] "_law_spoilt" (zQ xN) f cdv A outer s H E).nox ((yQ xN).drop 10) t) (za (yZ (yo xO (zB 8) zK (yb _)) (zf (zk (zn (zA (zB 2) (zA (zB 3) (zA (zB 4) (zA (zB 5) (zA (yE au hr rfl (zA (zB 9) (zA (zB 6) zH))) (zA (zB 7) zH))))))))) yY)
 U_11)
 obtain ⟨u_9,E_9,U_9⟩:=L2.wl (p:=λt=>yi (zF zX P w K mg base ["_law_parts_here","_law_cell","_law_rows","_law_move","_law_steer","_law_push","_law_add","_law_divisor","_law_way","_law_rest","_law_at"] "_law_spoilt" (zQ xN) f cdv A outer s H E).nox ((yQ xN).drop 9) t) (za (yZ (yo xO (zB 8) zK (yb _)) (zf (zk (zn (zA (zB 2) (zA (zB 3) (zA (zB 4) (zA (yJ yU (zn (zA (zO zh (zB 5) (zn (zA (yJ yU (zB 5) zK (λ_ _=>rfl)) zH))) (zA (yc yr (zB 5) (yM zK) yp) (zA (wQ xn rfl B.tuple_ we (zA (zB 5) zH)) (zA wC zH))))) (zO (ji yI) (zB 9) zK) (λ_ _=>rfl)) (zA (zB 6) (zA (zB 7) zH))))))))) yY)
 U_10)
 obtain ⟨u_8,E_8,U_8⟩:=L2.wl (p:=λt=>yi (zF zX P w K mg base ["_law_parts_here","_law_cell","_law_rows","_law_move","_law_steer","_law_push","_law_add","_law_divisor","_law_way","_law_rest","_law_at"] "_law_spoilt" (zQ xN) f cdv A outer s H E).nox ((yQ xN).drop 8) t) (za (yZ (yo xO (zB 8) zK (yb _)) (za (ya (i:=10) wY.nd rfl (Or.inl rfl) (zO (ji yI) (zB 9) (zr yF rfl B.len_ xQ (zA (zB 5) zH))))
  (zf (zk (zn (zA (zB 2) (zA (zB 3) (zA (zB 4) (zA (zO zh (zO zh (yc yr (zB 5) yp (yM (zB 10))) (zn (zA (zO zh (yJ yU (zB 5) (zB 10) (λ_ _=>rfl)) (zn (zA zK zH))) zH))) (yc yr (zB 5) (yM (zO (zw ym) (zB 10) zK)) yp)) (zA (zB 6) (zA (zB 7) zH)))))))))) yY)
 U_9)
 obtain ⟨u_7,E_7,U_7⟩:=L2.wl (p:=λt=>yi (zF zX P w K mg base ["_law_parts_here","_law_cell","_law_rows","_law_move","_law_steer","_law_push","_law_add","_law_divisor","_law_way","_law_rest","_law_at"] "_law_spoilt" (zQ xN) f cdv A outer s H E).nox ((yQ xN).drop 7) t) (za (yZ (yo xO (zB 8) zK (yb _)) (zf (zk (zn (zA (zB 2) (zA (zB 3) (zA (yE au hr rfl (zA (zB 9) (zA (zB 4) zH))) (zA (zB 5) (zA (zB 6) (zA (zB 7) zH))))))))) yY)
 U_8)
 obtain ⟨u_6,E_6,U_6⟩:=L2.wl (p:=λt=>yi (zF zX P w K mg base ["_law_parts_here","_law_cell","_law_rows","_law_move","_law_steer","_law_push","_law_add","_law_divisor","_law_way","_law_rest","_law_at"] "_law_spoilt" (zQ xN) f cdv A outer s H E).nox ((yQ xN).drop 6) t) (za (yZ (yo xO (zB 8) zK (yb _)) (zf (zk (zn (zA (zB 2) (zA (yJ yU (zn (zA (zO zh (zB 3) (zn (zA (yJ yU (zB 3) zK (λ_ _=>rfl)) zH))) (zA (yc yr (zB 3) (yM zK) yp) (zA (wQ xn rfl B.tuple_ we (zA (zB 3) zH)) (zA wC zH))))) (zO (ji yI) (zB 9) zK) (λ_ _=>rfl)) (zA (zB 4) (zA (zB 5) (zA (zB 6) (zA (zB 7) zH))))))))) yY)
 U_7)
 obtain ⟨u_5,E_5,U_5⟩:=L2.wl (p:=λt=>yi (zF zX P w K mg base ["_law_parts_here","_law_cell","_law_rows","_law_move","_law_steer","_law_push","_law_add","_law_divisor","_law_way","_law_rest","_law_at"] "_law_spoilt" (zQ xN) f cdv A outer s H E).nox ((yQ xN).drop 5) t) (za (yZ (yo xO (zB 8) zK (yb _)) (za (ya (i:=10) wY.nd rfl (Or.inl rfl) (zO (ji yI) (zB 9) (zr yF rfl B.len_ xQ (zA (zB 3) zH))))
  (zf (zk (zn (zA (zB 2) (zA (zO zh (zO zh (yc yr (zB 3) yp (yM (zB 10))) (zn (zA (yE au hr rfl (zA (zO (ji xu) (zB 9) zK) (zA (yJ yU (zB 3) (zB 10) (λ_ _=>rfl)) zH))) zH))) (yc yr (zB 3) (yM (zO (zw ym) (zB 10) zK)) yp)) (zA (zB 4) (zA (zB 5) (zA (zB 6) (zA (zB 7) zH)))))))))) yY)
 U_6)
 obtain ⟨u_4,E_4,U_4⟩:=L2.wl (p:=λt=>yi (zF zX P w K mg base ["_law_parts_here","_law_cell","_law_rows","_law_move","_law_steer","_law_push","_law_add","_law_divisor","_law_way","_law_rest","_law_at"] "_law_spoilt" (zQ xN) f cdv A outer s H E).nox ((yQ xN).drop 4) t) (za (yZ (yo xO (zB 8) zK (yb _)) (zf (zk (zn (zA (yJ yU (zn (zA (wQ xn rfl B.tuple_ we (zA (zB 2) zH)) (zA wC (zA (yJ yU (zB 2) zK (λ_ _=>rfl)) (zA ge zH))))) (zO (ji yI) (zB 9) zK) (λ_ _=>rfl)) (zA (zB 3) (zA (zB 4) (zA (zB 5) (zA (zB 6) (zA (zB 7) zH))))))))) yY)
 U_5)
 obtain ⟨u_3,E_3,U_3⟩:=L2.wl (p:=λt=>yi (zF zX P w K mg base ["_law_parts_here","_law_cell","_law_rows","_law_move","_law_steer","_law_push","_law_add","_law_divisor","_law_way","_law_rest","_law_at"] "_law_spoilt" (zQ xN) f cdv A outer s H E).nox ((yQ xN).drop 3) t) (za (yZ (yo xO (zB 8) zK (yb _)) (za (ya (i:=10) wY.nd rfl (Or.inl rfl) (zO (ji yI) (zB 9) (zr yF rfl B.len_ xQ (zA (zB 2) zH))))
  (zf (zk (zn (zA (zO zh (zO zh (yc yr (zB 2) yp (yM (zB 10))) (zn (zA (yE aF hr rfl (zA (zO (ji xu) (zB 9) zK) (zA (yJ yU (zB 2) (zB 10) (λ_ _=>rfl)) zH))) zH))) (yc yr (zB 2) (yM (zO (zw ym) (zB 10) zK)) yp)) (zA (zB 3) (zA (zB 4) (zA (zB 5) (zA (zB 6) (zA (zB 7) zH)))))))))) yY)
 U_4)
 refine ⟨_,(za (ZE (zB 0) (WF rfl (vg (yg (i:=2) wY.nd rfl (Or.inl rfl)) (vg (yg (i:=3) wY.nd rfl (Or.inl rfl)) (vg (yg (i:=4) wY.nd rfl (Or.inl rfl)) (vg (yg (i:=5) wY.nd rfl (Or.inl rfl)) (vg (yg (i:=6) wY.nd rfl (Or.inl rfl)) (vg (yg (i:=7) wY.nd rfl (Or.inl rfl)) ZD))))))))
 (za (ya (i:=8) wY.nd rfl (Or.inl rfl) (zO (ji yI) (zB 1) zK))
 (za (ya (i:=9) wY.nd rfl (Or.inl rfl) (zO (ji xu) (zB 1) zK))
 U_3))),?_⟩
 try dsimp only [zF,Cx.nox,Cx.wish]
 obtain ⟨pl,r0,n0,sa,p0,aa,rv,nv,pv,rfl,hl,PD⟩:=hM
 have n3:=MO.n3
 have b9:Bd 10 (9:Int):=Bd.lit
 have b3:Bd 10 (3:Int):=Bd.lit
 have few:=qa MO
 have lr:rv.length=m.rows.length:=Paired.length PD.hrv
 have ln:nv.length=n:=(Paired.length PD.hnv).trans MO.nexts.1
 have lp:pv.length=n:=(Paired.length PD.hpv).trans MO.push.1
 have hr0:Paired (AV ac H) rv (m.rows.map zZ):=kM PD.hrv
 have hn0:Paired (AV ac H) nv (m.nexts.map zD):=ue PD.hnv
 have hp0:Paired (AV ac H) pv (m.push.map zD):=ue PD.hpv
 have fr:∀ a∈m.rows.map zZ,FA 3 a:=YR MO.rows (by omega)
 have fn:∀ a∈m.nexts.map zD,FA 3 a:=je MO.nexts.2 (by omega)
 have fp:∀ a∈m.push.map zD,FA 3 a:=je MO.push.2 (by omega)
 have br:AV ac H (.ref r0) (zv m).r:=.lst PD.hr hr0
 have bn:AV ac H (.ref n0) (zv m).n:=.lst PD.hn hn0
 have bs:AV ac H (.ref sa) (zv m).s:=.lst PD.hs (xp _)
 have bp:AV ac H (.ref p0) (zv m).p:=.lst PD.hp hp0
 have ba:AV ac H (.ref aa) (zv m).a:=.lst PD.ha (xp _)
 have er0:=PD.hr
 have en0:=PD.hn
 have ep0:=PD.hp
 refine ⟨_,rfl,pl,_,rfl,zM.of hl,rfl,_,_,rfl,_,_,rfl,_,_,rfl,_,_,rfl,_,_,rfl,_,_,rfl,rfl,?_⟩
 refine ⟨_,rfl,_,_,rfl,rfl,(show (9:Int)≠0 by decide),?_⟩
 refine ⟨_,rfl,_,_,rfl,rfl,⟨by decide,b9.mono⟩,?_⟩
 generalize c.fmod 9=wy
 generalize c.fdiv 9=rs
 show u_3 _ [some (.ref pl),some (.int c),some (.ref r0),some (.ref n0),some (.ref sa),some (.ref p0),some (.ref aa),some (.int m.div),some (.int wy),some (.int rs),none] _
 rw [E_3]
 try dsimp only [zF,Cx.nox,Cx.wish]
 refine ⟨_,rfl,rfl,_,rfl,?_⟩
 refine yR (λcc=>?_) (λcc=>?_)
 ·clear cc
  have lr0:List.length (m.rows.map zZ)<=3:=(by rw [List.length_map]; omega)
  have ln0:List.length (m.nexts.map zD)<=3:=(by rw [List.length_map]; have:=MO.nexts.1; omega)
  have lp0:List.length (m.push.map zD)<=3:=(by rw [List.length_map]; have:=MO.push.1; omega)
  have fr0:=fr
  have fn0:=fn
  have fp0:=fp
  have j0:=Int.fmod_nonneg_of_pos rs (show (0:Int) < (rv.length:Int) by omega)
  have j1:=Int.fmod_lt_of_pos rs (show (0:Int) < (rv.length:Int) by omega)
  refine ⟨_,rfl,_,rfl,r0,_,rfl,.inl (zM.of er0),_,_,rfl,rfl,(show (rv.length:Int)≠0 by omega),?_⟩
  obtain ⟨j,ej⟩:=Int.eq_ofNat_of_zero_le j0
  rw [show rs.fmod (rv.length:Int)=((j:Nat):Int) from ej]
  have jn:j < rv.length:=by omega
  refine ⟨_,rfl,_,rfl,_,rfl,r0,_,rfl,zM.of er0,λq1 h0q1=>?_⟩
  rw [show zT rv none (some ((j:Nat):Int))=(List.take j rv) from wo _ _]
  have yG1:=zL h0q1 (HO.lst (List.take j rv))
  have eq1:=zJ (H:=H) (a:=q1) (o:=HO.lst (List.take j rv))
  generalize hhG1:upd H q1 (HO.lst (List.take j rv))=G1 at yG1 eq1 |-
  have SG1:=yG1
  replace er0:=(yG1 _ _ er0)
  replace hr0:=(zG yG1 hr0)
  have hq1:Paired (AV ac G1) (List.take j rv) (List.take j (m.rows.map zZ)):=wW _ hr0
  have lq1:List.length (List.take j (m.rows.map zZ))<=3:=Nat.le_trans (vb _ _) lr0
  have fq1:∀ a∈(List.take j (m.rows.map zZ)),FA 3 a:=vc fr0
  have vb2:rv[j]? = some (rv[j]'(by omega)):=List.getElem?_eq_getElem _
  obtain ⟨rb2,gb2,b2,zb2,ib2⟩:=xJ PD.hrv vb2
  have wb2:rv[j]? = some (.ref b2):=vb2.trans (by rw [zb2])
  have eb2:=(SG1 _ _ ib2)
  have kb2:rb2.length=n + 1:=MO.rows rb2 (List.mem_of_getElem? gb2)
  have hb2:Paired (AV ac G1) (rb2.map V.int) (rb2.map AK.int):=xp _
  have lb2:List.length (rb2.map AK.int)<=20:=(by rw [List.length_map]; omega)
  have fb2:∀ a∈(rb2.map AK.int),FA 2 a:=wX
  refine ⟨_,rfl,_,_,rfl,rfl,⟨by decide,b3.mono⟩,_,rfl,_,rfl,r0,_,_,_,rfl,rfl,zM.of er0,wR (j:=j) wb2,_,b2,rb2,n,rfl,eb2,kb2,n1,(by omega),λv3 Jv3 yv3 gv3=>?_⟩
  obtain ⟨av3,mv3,wv3,fv3⟩:=gv3
  have SG2:=SG1.trans yv3
  replace er0:=(yv3 _ _ er0)
  replace hr0:=(zG yv3 hr0)
  replace eq1:=(yv3 _ _ eq1)
  replace hq1:=(zG yv3 hq1)
  replace eb2:=(yv3 _ _ eb2)
  replace hb2:=(zG yv3 hb2)
  refine ⟨(by show 1<=sizeLine; decide),λq4 h0q4=>?_⟩
  have yG3:=zL h0q4 (HO.lst [v3])
  have eq4:=zJ (H:=Jv3) (a:=q4) (o:=HO.lst [v3])
  generalize hhG3:upd Jv3 q4 (HO.lst [v3])=G3 at yG3 eq4 |-
  have SG3:=SG2.trans yG3
  replace er0:=(yG3 _ _ er0)
  replace hr0:=(zG yG3 hr0)
  replace eq1:=(yG3 _ _ eq1)
  replace hq1:=(zG yG3 hq1)
  replace mv3:=(AV.same yG3 mv3)
  have hq4:Paired (AV ac G3) [v3] [av3]:=(Paired.cons mv3 Paired.nil)
  have lq4:List.length [av3]<=1:=(by show 1<=1; decide)
  have fq4:∀ a∈[av3],FA 3 a:=zc fv3 (λ_ h=>nomatch h)
  refine ⟨q1,q4,_,_,rfl,rfl,eq1,eq4,(by have:=lq1; have:=lq4; have:=Paired.length hq1; have:=Paired.length hq4; exact Nat.le_of_lt (zq (by omega))),λq5 h0q5=>?_⟩
  have yG4:=zL h0q5 (HO.lst ((List.take j rv)++[v3]))
  have eq5:=zJ (H:=G3) (a:=q5) (o:=HO.lst ((List.take j rv)++[v3]))
  generalize hhG4:upd G3 q5 (HO.lst ((List.take j rv)++[v3]))=G4 at yG4 eq5 |-
  have SG4:=SG3.trans yG4
  replace er0:=(yG4 _ _ er0)
  replace hr0:=(zG yG4 hr0)
  replace eq1:=(yG4 _ _ eq1)
  replace hq1:=(zG yG4 hq1)
  replace eq4:=(yG4 _ _ eq4)
  replace hq4:=(zG yG4 hq4)
  have hq5:Paired (AV ac G4) ((List.take j rv)++[v3]) ((List.take j (m.rows.map zZ))++[av3]):=yl hq1 hq4
  have lq5:List.length ((List.take j (m.rows.map zZ))++[av3])<=4:=(by rw [List.length_append]; omega)
  have fq5:∀ a∈((List.take j (m.rows.map zZ))++[av3]),FA 3 a:=xE fq1 fq4
  refine ⟨_,rfl,_,rfl,_,_,rfl,rfl,_,rfl,r0,_,rfl,zM.of er0,λq6 h0q6=>?_⟩
  rw [show zT rv (some (((j:Nat):Int) + 1)) none=(List.drop (j + 1) rv) from jb _ _]
  have yG5:=zL h0q6 (HO.lst (List.drop (j + 1) rv))
  have eq6:=zJ (H:=G4) (a:=q6) (o:=HO.lst (List.drop (j + 1) rv))
  generalize hhG5:upd G4 q6 (HO.lst (List.drop (j + 1) rv))=G5 at yG5 eq6 |-
  have SG5:=SG4.trans yG5
  replace er0:=(yG5 _ _ er0)
  replace hr0:=(zG yG5 hr0)
  replace eq5:=(yG5 _ _ eq5)
  replace hq5:=(zG yG5 hq5)
  have hq6:Paired (AV ac G5) (List.drop (j + 1) rv) (List.drop (j + 1) (m.rows.map zZ)):=wA _ hr0
  have lq6:List.length (List.drop (j + 1) (m.rows.map zZ))<=3:=Nat.le_trans (wL _ _) lr0
  have fq6:∀ a∈(List.drop (j + 1) (m.rows.map zZ)),FA 3 a:=wM fr0
  refine ⟨q5,q6,_,_,rfl,rfl,eq5,eq6,(by have:=lq5; have:=lq6; have:=Paired.length hq5; have:=Paired.length hq6; exact Nat.le_of_lt (zq (by omega))),λq7 h0q7=>?_⟩
  have yG6:=zL h0q7 (HO.lst (((List.take j rv)++[v3])++(List.drop (j + 1) rv)))
  have eq7:=zJ (H:=G5) (a:=q7) (o:=HO.lst (((List.take j rv)++[v3])++(List.drop (j + 1) rv)))
  generalize hhG6:upd G5 q7 (HO.lst (((List.take j rv)++[v3])++(List.drop (j + 1) rv)))=G6 at yG6 eq7 |-
  have SG6:=SG5.trans yG6
  replace er0:=(yG6 _ _ er0)
  replace hr0:=(zG yG6 hr0)
  replace eq5:=(yG6 _ _ eq5)
  replace hq5:=(zG yG6 hq5)
  replace eq6:=(yG6 _ _ eq6)
  replace hq6:=(zG yG6 hq6)
  have hq7:Paired (AV ac G6) (((List.take j rv)++[v3])++(List.drop (j + 1) rv)) (((List.take j (m.rows.map zZ))++[av3])++(List.drop (j + 1) (m.rows.map zZ))):=yl hq5 hq6
  have lq7:List.length (((List.take j (m.rows.map zZ))++[av3])++(List.drop (j + 1) (m.rows.map zZ)))<=7:=(by rw [List.length_append]; omega)
  have fq7:∀ a∈(((List.take j (m.rows.map zZ))++[av3])++(List.drop (j + 1) (m.rows.map zZ))),FA 3 a:=xE fq5 fq6
  have mL:AV ac G6 (V.ref q7) (AK.lst (((List.take j (m.rows.map zZ))++[av3])++(List.drop (j + 1) (m.rows.map zZ)))):=(AV.lst eq7 hq7)
  refine ⟨_,rfl,_,rfl,_,rfl,_,rfl,_,rfl,(by show 6<=sizeLine; decide),λpo h0po=>?_⟩
  have yG7:=zL h0po (HO.lst [V.ref q7,V.ref n0,V.ref sa,V.ref p0,V.ref aa,V.int m.div])
  have epo:=zJ (H:=G6) (a:=po) (o:=HO.lst [V.ref q7,V.ref n0,V.ref sa,V.ref p0,V.ref aa,V.int m.div])
  generalize hhG7:upd G6 po (HO.lst [V.ref q7,V.ref n0,V.ref sa,V.ref p0,V.ref aa,V.int m.div])=G7 at yG7 epo |-
  have SG7:=SG6.trans yG7
  replace mL:=(AV.same yG7 mL)
  exact q (.ref po) {zv m with r:=(AK.lst (((List.take j (m.rows.map zZ))++[av3])++(List.drop (j + 1) (m.rows.map zZ))))} _ SG7 (AV.lst epo (Paired.cons mL (Paired.cons (bn.same SG7) (Paired.cons (bs.same SG7) (Paired.cons (bp.same SG7) (Paired.cons (ba.same SG7) (Paired.cons (AV.int m.div) Paired.nil))))))) (YT (UP (a:=av3) (List.mem_append_left _ (List.mem_append_right _ (List.mem_singleton.mpr rfl))) wv3)) ⟨(FA.lst (Nat.le_trans lq7 (by decide)) fq7),few.n,few.s,few.p,few.a,few.d⟩
 clear cc
 show u_4 _ [some (.ref pl),some (.int c),some (.ref r0),some (.ref n0),some (.ref sa),some (.ref p0),some (.ref aa),some (.int m.div),some (.int wy),some (.int rs),none] _
 rw [E_4]
 try dsimp only [zF,Cx.nox,Cx.wish]
 refine ⟨_,rfl,rfl,_,rfl,?_⟩
 refine yR (λcc=>?_) (λcc=>?_)
 ·clear cc
  have lr0:List.length (m.rows.map zZ)<=3:=(by rw [List.length_map]; omega)
  have ln0:List.length (m.nexts.map zD)<=3:=(by rw [List.length_map]; have:=MO.nexts.1; omega)
  have lp0:List.length (m.push.map zD)<=3:=(by rw [List.length_map]; have:=MO.push.1; omega)
  have fr0:=fr
  have fn0:=fn
  have fp0:=fp
  have k0:=Int.fmod_nonneg_of_pos rs (show (0:Int) < 4 by decide)
  have k1:=Int.fmod_lt_of_pos rs (show (0:Int) < 4 by decide)
  refine ⟨_,rfl,r0,_,rfl,.inl ⟨zM.of er0,λq1 h0q1=>?_⟩⟩
  have yG1:=zL h0q1 (HO.tup rv)
  have eq1:=zJ (H:=H) (a:=q1) (o:=HO.tup rv)
  generalize hhG1:upd H q1 (HO.tup rv)=G1 at yG1 eq1 |-
  have SG1:=yG1
  replace er0:=(yG1 _ _ er0)
  replace hr0:=(zG yG1 hr0)
  have hq1:Paired (AV ac G1) rv (m.rows.map zZ):=hr0
  have lq1:List.length (m.rows.map zZ)<=3:=lr0
  have fq1:∀ a∈(m.rows.map zZ),FA 3 a:=fr0
  have mq1:AV ac G1 (V.ref q1) (AK.tup (m.rows.map zZ)):=(AV.tup eq1 hq1)
  have vb2:rv[0]? = some (rv[0]'(by omega)):=List.getElem?_eq_getElem _
  obtain ⟨rb2,gb2,b2,zb2,ib2⟩:=xJ PD.hrv vb2
  have wb2:rv[0]? = some (.ref b2):=vb2.trans (by rw [zb2])
  have eb2:=(SG1 _ _ ib2)
  have kb2:rb2.length=n + 1:=MO.rows rb2 (List.mem_of_getElem? gb2)
  have hb2:Paired (AV ac G1) (rb2.map V.int) (rb2.map AK.int):=xp _
  have lb2:List.length (rb2.map AK.int)<=20:=(by rw [List.length_map]; omega)
  have fb2:∀ a∈(rb2.map AK.int),FA 2 a:=wX
  have mb2:AV ac G1 (V.ref b2) (AK.tup (rb2.map AK.int)):=(AV.tup eb2 hb2)
  refine ⟨_,rfl,r0,_,_,_,rfl,rfl,zM.of er0,wR (j:=0) wb2,λq3 h0q3=>?_⟩
  have yG2:=zL h0q3 (HO.dK [])
  have eq3:=zJ (H:=G1) (a:=q3) (o:=HO.dK [])
  generalize hhG2:upd G1 q3 (HO.dK [])=G2 at yG2 eq3 |-
  have SG2:=SG1.trans yG2
  replace er0:=(yG2 _ _ er0)
  replace hr0:=(zG yG2 hr0)
  replace mq1:=(AV.same yG2 mq1)
  replace mb2:=(AV.same yG2 mb2)
  refine ⟨(by show 4<=sizeLine; decide),λq4 h0q4=>?_⟩
  have yG3:=zL h0q4 (HO.lst [V.ref q1,V.non,V.ref b2,V.ref q3])
  have eq4:=zJ (H:=G2) (a:=q4) (o:=HO.lst [V.ref q1,V.non,V.ref b2,V.ref q3])
  generalize hhG3:upd G2 q4 (HO.lst [V.ref q1,V.non,V.ref b2,V.ref q3])=G3 at yG3 eq4 |-
  have SG3:=SG2.trans yG3
  replace er0:=(yG3 _ _ er0)
  replace hr0:=(zG yG3 hr0)
  replace mq1:=(AV.same yG3 mq1)
  replace mb2:=(AV.same yG3 mb2)
  replace eq3:=(yG3 _ _ eq3)
  have hq4:Paired (AV ac G3) [V.ref q1,V.non,V.ref b2,V.ref q3] [AK.tup (m.rows.map zZ),AK.non,AK.tup (rb2.map AK.int),AK.dic]:=(Paired.cons mq1 (Paired.cons AV.non (Paired.cons mb2 (Paired.cons (AV.dic eq3) Paired.nil))))
  have lq4:List.length [AK.tup (m.rows.map zZ),AK.non,AK.tup (rb2.map AK.int),AK.dic]<=4:=(by show 4<=4; decide)
  have fq4:∀ a∈[AK.tup (m.rows.map zZ),AK.non,AK.tup (rb2.map AK.int),AK.dic],FA 4 a:=zc (FA.tup (Nat.le_trans lq1 (by decide)) fq1) (zc FA.non (zc (FA.mono (j:=3) (FA.tup (Nat.le_trans lb2 (by decide)) fb2) (by decide)) (zc FA.dic (λ_ h=>nomatch h))))
  have al:yH ac (λa=>xA (n:Int) a=false) 4 G3 [V.ref q1,V.non,V.ref b2,V.ref q3]:=wq hq4 (zg (P:=(λa=>xA (n:Int) a=false)) rfl (FA.mono (j:=4) (FA.tup (Nat.le_trans lq1 (by decide)) fq1) (by decide)) (zg (P:=(λa=>xA (n:Int) a=false)) rfl FA.non (zg (P:=(λa=>xA (n:Int) a=false)) rfl (FA.mono (j:=3) (FA.tup (Nat.le_trans lb2 (by decide)) fb2) (by decide)) (zg (P:=(λa=>xA (n:Int) a=false)) rfl FA.dic wa))))
  obtain ⟨xz,hxz,axz⟩:=wr (xs:=[V.ref q1,V.non,V.ref b2,V.ref q3]) k0 (by show _ < ((4:Nat):Int); omega)
  obtain ⟨az,mL,wz,fz⟩:=al xz hxz
  refine ⟨_,rfl,_,_,rfl,rfl,(show (4:Int)≠0 by decide),q4,_,_,_,rfl,rfl,zM.of eq4,axz,_,rfl,_,rfl,_,rfl,_,rfl,_,rfl,(by show 6<=sizeLine; decide),λpo h0po=>?_⟩
  have yG4:=zL h0po (HO.lst [xz,V.ref n0,V.ref sa,V.ref p0,V.ref aa,V.int m.div])
  have epo:=zJ (H:=G3) (a:=po) (o:=HO.lst [xz,V.ref n0,V.ref sa,V.ref p0,V.ref aa,V.int m.div])
  generalize hhG4:upd G3 po (HO.lst [xz,V.ref n0,V.ref sa,V.ref p0,V.ref aa,V.int m.div])=G4 at yG4 epo |-
  have SG4:=SG3.trans yG4
  replace mL:=(AV.same yG4 mL)
  exact q (.ref po) {zv m with r:=az} _ SG4 (AV.lst epo (Paired.cons mL (Paired.cons (bn.same SG4) (Paired.cons (bs.same SG4) (Paired.cons (bp.same SG4) (Paired.cons (ba.same SG4) (Paired.cons (AV.int m.div) Paired.nil))))))) (YT wz) ⟨fz,few.n,few.s,few.p,few.a,few.d⟩
 clear cc
 show u_5 _ [some (.ref pl),some (.int c),some (.ref r0),some (.ref n0),some (.ref sa),some (.ref p0),some (.ref aa),some (.int m.div),some (.int wy),some (.int rs),none] _
 rw [E_5]
 try dsimp only [zF,Cx.nox,Cx.wish]
 refine ⟨_,rfl,rfl,_,rfl,?_⟩
 refine yR (λcc=>?_) (λcc=>?_)
 ·clear cc
  have lr0:List.length (m.rows.map zZ)<=3:=(by rw [List.length_map]; omega)
  have ln0:List.length (m.nexts.map zD)<=3:=(by rw [List.length_map]; have:=MO.nexts.1; omega)
  have lp0:List.length (m.push.map zD)<=3:=(by rw [List.length_map]; have:=MO.push.1; omega)
  have fr0:=fr
  have fn0:=fn
  have fp0:=fp
  have j0:=Int.fmod_nonneg_of_pos rs (show (0:Int) < (nv.length:Int) by omega)
  have j1:=Int.fmod_lt_of_pos rs (show (0:Int) < (nv.length:Int) by omega)
  refine ⟨_,rfl,_,rfl,n0,_,rfl,.inl (zM.of en0),_,_,rfl,rfl,(show (nv.length:Int)≠0 by omega),?_⟩
  obtain ⟨j,ej⟩:=Int.eq_ofNat_of_zero_le j0
  rw [show rs.fmod (nv.length:Int)=((j:Nat):Int) from ej]
  have jn:j < nv.length:=by omega
  refine ⟨_,rfl,_,rfl,_,rfl,_,rfl,n0,_,rfl,zM.of en0,λq1 h0q1=>?_⟩
  rw [show zT nv none (some ((j:Nat):Int))=(List.take j nv) from wo _ _]
  have yG1:=zL h0q1 (HO.lst (List.take j nv))
  have eq1:=zJ (H:=H) (a:=q1) (o:=HO.lst (List.take j nv))
  generalize hhG1:upd H q1 (HO.lst (List.take j nv))=G1 at yG1 eq1 |-
  have SG1:=yG1
  replace en0:=(yG1 _ _ en0)
  replace hn0:=(zG yG1 hn0)
  have hq1:Paired (AV ac G1) (List.take j nv) (List.take j (m.nexts.map zD)):=wW _ hn0
  have lq1:List.length (List.take j (m.nexts.map zD))<=3:=Nat.le_trans (vb _ _) ln0
  have fq1:∀ a∈(List.take j (m.nexts.map zD)),FA 3 a:=vc fn0
  have vb2:nv[j]? = some (nv[j]'(by omega)):=List.getElem?_eq_getElem _
  obtain ⟨rb2,gb2,b2,zb2,ib2⟩:=xJ PD.hnv vb2
  have wb2:nv[j]? = some (.ref b2):=vb2.trans (by rw [zb2])
  have eb2:=(SG1 _ _ ib2)
  have kb2:rb2.length=n:=MO.nexts.2 rb2 (List.mem_of_getElem? gb2)
  have hb2:Paired (AV ac G1) (rb2.map V.int) (rb2.map AK.int):=xp _
  have lb2:List.length (rb2.map AK.int)<=20:=(by rw [List.length_map]; omega)
  have fb2:∀ a∈(rb2.map AK.int),FA 2 a:=wX
  refine ⟨_,rfl,_,_,rfl,rfl,⟨by decide,b3.mono⟩,_,rfl,_,rfl,n0,_,_,_,rfl,rfl,zM.of en0,wR (j:=j) wb2,_,b2,rb2,rfl,eb2,(by omega),(by omega),λv3 Jv3 yv3 gv3=>?_⟩
  obtain ⟨av3,mv3,wv3,fv3⟩:=gv3
  have SG2:=SG1.trans yv3
  replace en0:=(yv3 _ _ en0)
  replace hn0:=(zG yv3 hn0)
  replace eq1:=(yv3 _ _ eq1)
  replace hq1:=(zG yv3 hq1)
  replace eb2:=(yv3 _ _ eb2)
  replace hb2:=(zG yv3 hb2)
  refine ⟨(by show 1<=sizeLine; decide),λq4 h0q4=>?_⟩
  have yG3:=zL h0q4 (HO.lst [v3])
  have eq4:=zJ (H:=Jv3) (a:=q4) (o:=HO.lst [v3])
  generalize hhG3:upd Jv3 q4 (HO.lst [v3])=G3 at yG3 eq4 |-
  have SG3:=SG2.trans yG3
  replace en0:=(yG3 _ _ en0)
  replace hn0:=(zG yG3 hn0)
  replace eq1:=(yG3 _ _ eq1)
  replace hq1:=(zG yG3 hq1)
  replace mv3:=(AV.same yG3 mv3)
  have hq4:Paired (AV ac G3) [v3] [av3]:=(Paired.cons mv3 Paired.nil)
  have lq4:List.length [av3]<=1:=(by show 1<=1; decide)
  have fq4:∀ a∈[av3],FA 3 a:=zc fv3 (λ_ h=>nomatch h)
  refine ⟨q1,q4,_,_,rfl,rfl,eq1,eq4,(by have:=lq1; have:=lq4; have:=Paired.length hq1; have:=Paired.length hq4; exact Nat.le_of_lt (zq (by omega))),λq5 h0q5=>?_⟩
  have yG4:=zL h0q5 (HO.lst ((List.take j nv)++[v3]))
  have eq5:=zJ (H:=G3) (a:=q5) (o:=HO.lst ((List.take j nv)++[v3]))
  generalize hhG4:upd G3 q5 (HO.lst ((List.take j nv)++[v3]))=G4 at yG4 eq5 |-
  have SG4:=SG3.trans yG4
  replace en0:=(yG4 _ _ en0)
  replace hn0:=(zG yG4 hn0)
  replace eq1:=(yG4 _ _ eq1)
  replace hq1:=(zG yG4 hq1)
  replace eq4:=(yG4 _ _ eq4)
  replace hq4:=(zG yG4 hq4)
  have hq5:Paired (AV ac G4) ((List.take j nv)++[v3]) ((List.take j (m.nexts.map zD))++[av3]):=yl hq1 hq4
  have lq5:List.length ((List.take j (m.nexts.map zD))++[av3])<=4:=(by rw [List.length_append]; omega)
  have fq5:∀ a∈((List.take j (m.nexts.map zD))++[av3]),FA 3 a:=xE fq1 fq4
  refine ⟨_,rfl,_,rfl,_,_,rfl,rfl,_,rfl,n0,_,rfl,zM.of en0,λq6 h0q6=>?_⟩
  rw [show zT nv (some (((j:Nat):Int) + 1)) none=(List.drop (j + 1) nv) from jb _ _]
  have yG5:=zL h0q6 (HO.lst (List.drop (j + 1) nv))
  have eq6:=zJ (H:=G4) (a:=q6) (o:=HO.lst (List.drop (j + 1) nv))
  generalize hhG5:upd G4 q6 (HO.lst (List.drop (j + 1) nv))=G5 at yG5 eq6 |-
  have SG5:=SG4.trans yG5
  replace en0:=(yG5 _ _ en0)
  replace hn0:=(zG yG5 hn0)
  replace eq5:=(yG5 _ _ eq5)
  replace hq5:=(zG yG5 hq5)
  have hq6:Paired (AV ac G5) (List.drop (j + 1) nv) (List.drop (j + 1) (m.nexts.map zD)):=wA _ hn0
  have lq6:List.length (List.drop (j + 1) (m.nexts.map zD))<=3:=Nat.le_trans (wL _ _) ln0
  have fq6:∀ a∈(List.drop (j + 1) (m.nexts.map zD)),FA 3 a:=wM fn0
  refine ⟨q5,q6,_,_,rfl,rfl,eq5,eq6,(by have:=lq5; have:=lq6; have:=Paired.length hq5; have:=Paired.length hq6; exact Nat.le_of_lt (zq (by omega))),λq7 h0q7=>?_⟩
  have yG6:=zL h0q7 (HO.lst (((List.take j nv)++[v3])++(List.drop (j + 1) nv)))
  have eq7:=zJ (H:=G5) (a:=q7) (o:=HO.lst (((List.take j nv)++[v3])++(List.drop (j + 1) nv)))
  generalize hhG6:upd G5 q7 (HO.lst (((List.take j nv)++[v3])++(List.drop (j + 1) nv)))=G6 at yG6 eq7 |-
  have SG6:=SG5.trans yG6
  replace en0:=(yG6 _ _ en0)
  replace hn0:=(zG yG6 hn0)
  replace eq5:=(yG6 _ _ eq5)
  replace hq5:=(zG yG6 hq5)
  replace eq6:=(yG6 _ _ eq6)
  replace hq6:=(zG yG6 hq6)
  have hq7:Paired (AV ac G6) (((List.take j nv)++[v3])++(List.drop (j + 1) nv)) (((List.take j (m.nexts.map zD))++[av3])++(List.drop (j + 1) (m.nexts.map zD))):=yl hq5 hq6
  have lq7:List.length (((List.take j (m.nexts.map zD))++[av3])++(List.drop (j + 1) (m.nexts.map zD)))<=7:=(by rw [List.length_append]; omega)
  have fq7:∀ a∈(((List.take j (m.nexts.map zD))++[av3])++(List.drop (j + 1) (m.nexts.map zD))),FA 3 a:=xE fq5 fq6
  have mL:AV ac G6 (V.ref q7) (AK.lst (((List.take j (m.nexts.map zD))++[av3])++(List.drop (j + 1) (m.nexts.map zD)))):=(AV.lst eq7 hq7)
  refine ⟨_,rfl,_,rfl,_,rfl,_,rfl,(by show 6<=sizeLine; decide),λpo h0po=>?_⟩
  have yG7:=zL h0po (HO.lst [V.ref r0,V.ref q7,V.ref sa,V.ref p0,V.ref aa,V.int m.div])
  have epo:=zJ (H:=G6) (a:=po) (o:=HO.lst [V.ref r0,V.ref q7,V.ref sa,V.ref p0,V.ref aa,V.int m.div])
  generalize hhG7:upd G6 po (HO.lst [V.ref r0,V.ref q7,V.ref sa,V.ref p0,V.ref aa,V.int m.div])=G7 at yG7 epo |-
  have SG7:=SG6.trans yG7
  replace mL:=(AV.same yG7 mL)
  exact q (.ref po) {zv m with n:=(AK.lst (((List.take j (m.nexts.map zD))++[av3])++(List.drop (j + 1) (m.nexts.map zD))))} _ SG7 (AV.lst epo (Paired.cons (br.same SG7) (Paired.cons mL (Paired.cons (bs.same SG7) (Paired.cons (bp.same SG7) (Paired.cons (ba.same SG7) (Paired.cons (AV.int m.div) Paired.nil))))))) (YU (YS (a:=av3) (List.mem_append_left _ (List.mem_append_right _ (List.mem_singleton.mpr rfl))) (by rw [<- kb2]; exact wv3))) ⟨few.r,(FA.lst (Nat.le_trans lq7 (by decide)) fq7),few.s,few.p,few.a,few.d⟩
 clear cc
 show u_6 _ [some (.ref pl),some (.int c),some (.ref r0),some (.ref n0),some (.ref sa),some (.ref p0),some (.ref aa),some (.int m.div),some (.int wy),some (.int rs),none] _
 rw [E_6]
 try dsimp only [zF,Cx.nox,Cx.wish]
 refine ⟨_,rfl,rfl,_,rfl,?_⟩
 refine yR (λcc=>?_) (λcc=>?_)
 ·clear cc
  have lr0:List.length (m.rows.map zZ)<=3:=(by rw [List.length_map]; omega)
  have ln0:List.length (m.nexts.map zD)<=3:=(by rw [List.length_map]; have:=MO.nexts.1; omega)
  have lp0:List.length (m.push.map zD)<=3:=(by rw [List.length_map]; have:=MO.push.1; omega)
  have fr0:=fr
  have fn0:=fn
  have fp0:=fp
  have k0:=Int.fmod_nonneg_of_pos rs (show (0:Int) < 4 by decide)
  have k1:=Int.fmod_lt_of_pos rs (show (0:Int) < 4 by decide)
  have vb1:nv[0]? = some (nv[0]'(by omega)):=List.getElem?_eq_getElem _
  obtain ⟨rb1,gb1,b1,zb1,ib1⟩:=xJ PD.hnv vb1
  have wb1:nv[0]? = some (.ref b1):=vb1.trans (by rw [zb1])
  have eb1:=ib1
  have kb1:rb1.length=n:=MO.nexts.2 rb1 (List.mem_of_getElem? gb1)
  have hb1:Paired (AV ac H) (rb1.map V.int) (rb1.map AK.int):=xp _
  have lb1:List.length (rb1.map AK.int)<=20:=(by rw [List.length_map]; omega)
  have fb1:∀ a∈(rb1.map AK.int),FA 2 a:=wX
  have mb1:AV ac H (V.ref b1) (AK.lst (rb1.map AK.int)):=(AV.lst eb1 hb1)
  refine ⟨_,rfl,_,rfl,_,rfl,n0,_,_,_,rfl,rfl,zM.of en0,wR (j:=0) wb1,(by show 1<=sizeLine; decide),λq2 h0q2=>?_⟩
  have yG1:=zL h0q2 (HO.lst [V.ref b1])
  have eq2:=zJ (H:=H) (a:=q2) (o:=HO.lst [V.ref b1])
  generalize hhG1:upd H q2 (HO.lst [V.ref b1])=G1 at yG1 eq2 |-
  have SG1:=yG1
  replace en0:=(yG1 _ _ en0)
  replace hn0:=(zG yG1 hn0)
  replace mb1:=(AV.same yG1 mb1)
  have hq2:Paired (AV ac G1) [V.ref b1] [AK.lst (rb1.map AK.int)]:=(Paired.cons mb1 Paired.nil)
  have lq2:List.length [AK.lst (rb1.map AK.int)]<=1:=(by show 1<=1; decide)
  have fq2:∀ a∈[AK.lst (rb1.map AK.int)],FA 3 a:=zc (FA.lst (Nat.le_trans lb1 (by decide)) fb1) (λ_ h=>nomatch h)
  refine ⟨n0,q2,_,_,rfl,rfl,en0,eq2,(by have:=ln0; have:=lq2; have:=Paired.length hn0; have:=Paired.length hq2; exact Nat.le_of_lt (zq (by omega))),λq3 h0q3=>?_⟩
  have yG2:=zL h0q3 (HO.lst (nv++[V.ref b1]))
  have eq3:=zJ (H:=G1) (a:=q3) (o:=HO.lst (nv++[V.ref b1]))
  generalize hhG2:upd G1 q3 (HO.lst (nv++[V.ref b1]))=G2 at yG2 eq3 |-
  have SG2:=SG1.trans yG2
  replace en0:=(yG2 _ _ en0)
  replace hn0:=(zG yG2 hn0)
  replace eq2:=(yG2 _ _ eq2)
  replace hq2:=(zG yG2 hq2)
  have hq3:Paired (AV ac G2) (nv++[V.ref b1]) ((m.nexts.map zD)++[AK.lst (rb1.map AK.int)]):=yl hn0 hq2
  have lq3:List.length ((m.nexts.map zD)++[AK.lst (rb1.map AK.int)])<=4:=(by rw [List.length_append]; omega)
  have fq3:∀ a∈((m.nexts.map zD)++[AK.lst (rb1.map AK.int)]),FA 3 a:=xE fn0 fq2
  have mq3:AV ac G2 (V.ref q3) (AK.lst ((m.nexts.map zD)++[AK.lst (rb1.map AK.int)])):=(AV.lst eq3 hq3)
  refine ⟨_,rfl,_,rfl,n0,_,rfl,zM.of en0,λq4 h0q4=>?_⟩
  rw [show zT nv (some 1) none=(List.drop 1 nv) from wp _ _]
  have yG3:=zL h0q4 (HO.lst (List.drop 1 nv))
  have eq4:=zJ (H:=G2) (a:=q4) (o:=HO.lst (List.drop 1 nv))
  generalize hhG3:upd G2 q4 (HO.lst (List.drop 1 nv))=G3 at yG3 eq4 |-
  have SG3:=SG2.trans yG3
  replace en0:=(yG3 _ _ en0)
  replace hn0:=(zG yG3 hn0)
  replace mq3:=(AV.same yG3 mq3)
  have hq4:Paired (AV ac G3) (List.drop 1 nv) (List.drop 1 (m.nexts.map zD)):=wA _ hn0
  have lq4:List.length (List.drop 1 (m.nexts.map zD))<=3:=Nat.le_trans (wL _ _) ln0
  have fq4:∀ a∈(List.drop 1 (m.nexts.map zD)),FA 3 a:=wM fn0
  have mq4:AV ac G3 (V.ref q4) (AK.lst (List.drop 1 (m.nexts.map zD))):=(AV.lst eq4 hq4)
  refine ⟨_,rfl,n0,_,rfl,.inl ⟨zM.of en0,λq5 h0q5=>?_⟩⟩
  have yG4:=zL h0q5 (HO.tup nv)
  have eq5:=zJ (H:=G3) (a:=q5) (o:=HO.tup nv)
  generalize hhG4:upd G3 q5 (HO.tup nv)=G4 at yG4 eq5 |-
  have SG4:=SG3.trans yG4
  replace en0:=(yG4 _ _ en0)
  replace hn0:=(zG yG4 hn0)
  replace mq3:=(AV.same yG4 mq3)
  replace mq4:=(AV.same yG4 mq4)
  have hq5:Paired (AV ac G4) nv (m.nexts.map zD):=hn0
  have lq5:List.length (m.nexts.map zD)<=3:=ln0
  have fq5:∀ a∈(m.nexts.map zD),FA 3 a:=fn0
  have mq5:AV ac G4 (V.ref q5) (AK.tup (m.nexts.map zD)):=(AV.tup eq5 hq5)
  refine ⟨(by show 4<=sizeLine; decide),λq6 h0q6=>?_⟩
  have yG5:=zL h0q6 (HO.lst [V.ref q3,V.ref q4,V.ref q5,V.non])
  have eq6:=zJ (H:=G4) (a:=q6) (o:=HO.lst [V.ref q3,V.ref q4,V.ref q5,V.non])
  generalize hhG5:upd G4 q6 (HO.lst [V.ref q3,V.ref q4,V.ref q5,V.non])=G5 at yG5 eq6 |-
  have SG5:=SG4.trans yG5
  replace en0:=(yG5 _ _ en0)
  replace hn0:=(zG yG5 hn0)
  replace mq3:=(AV.same yG5 mq3)
  replace mq4:=(AV.same yG5 mq4)
  replace mq5:=(AV.same yG5 mq5)
  have hq6:Paired (AV ac G5) [V.ref q3,V.ref q4,V.ref q5,V.non] [AK.lst ((m.nexts.map zD)++[AK.lst (rb1.map AK.int)]),AK.lst (List.drop 1 (m.nexts.map zD)),AK.tup (m.nexts.map zD),AK.non]:=(Paired.cons mq3 (Paired.cons mq4 (Paired.cons mq5 (Paired.cons AV.non Paired.nil))))
  have lq6:List.length [AK.lst ((m.nexts.map zD)++[AK.lst (rb1.map AK.int)]),AK.lst (List.drop 1 (m.nexts.map zD)),AK.tup (m.nexts.map zD),AK.non]<=4:=(by show 4<=4; decide)
  have fq6:∀ a∈[AK.lst ((m.nexts.map zD)++[AK.lst (rb1.map AK.int)]),AK.lst (List.drop 1 (m.nexts.map zD)),AK.tup (m.nexts.map zD),AK.non],FA 4 a:=zc (FA.lst (Nat.le_trans lq3 (by decide)) fq3) (zc (FA.lst (Nat.le_trans lq4 (by decide)) fq4) (zc (FA.tup (Nat.le_trans lq5 (by decide)) fq5) (zc FA.non (λ_ h=>nomatch h))))
  have al:yH ac (λa=>zW (n:Int) (n:Int) a=false) 4 G5 [V.ref q3,V.ref q4,V.ref q5,V.non]:=wq hq6 (zg (P:=(λa=>zW (n:Int) (n:Int) a=false)) (qb (by rw [List.length_append,List.length_map,MO.nexts.1]; show ((n + 1:Nat):Int)≠_; omega)) (FA.mono (j:=4) (FA.lst (Nat.le_trans lq3 (by decide)) fq3) (by decide)) (zg (P:=(λa=>zW (n:Int) (n:Int) a=false)) (qb (by rw [List.length_drop,List.length_map,MO.nexts.1]; omega)) (FA.mono (j:=4) (FA.lst (Nat.le_trans lq4 (by decide)) fq4) (by decide)) (zg (P:=(λa=>zW (n:Int) (n:Int) a=false)) rfl (FA.mono (j:=4) (FA.tup (Nat.le_trans lq5 (by decide)) fq5) (by decide)) (zg (P:=(λa=>zW (n:Int) (n:Int) a=false)) rfl FA.non wa))))
  obtain ⟨xz,hxz,axz⟩:=wr (xs:=[V.ref q3,V.ref q4,V.ref q5,V.non]) k0 (by show _ < ((4:Nat):Int); omega)
  obtain ⟨az,mL,wz,fz⟩:=al xz hxz
  refine ⟨_,rfl,_,_,rfl,rfl,(show (4:Int)≠0 by decide),q6,_,_,_,rfl,rfl,zM.of eq6,axz,_,rfl,_,rfl,_,rfl,_,rfl,(by show 6<=sizeLine; decide),λpo h0po=>?_⟩
  have yG6:=zL h0po (HO.lst [V.ref r0,xz,V.ref sa,V.ref p0,V.ref aa,V.int m.div])
  have epo:=zJ (H:=G5) (a:=po) (o:=HO.lst [V.ref r0,xz,V.ref sa,V.ref p0,V.ref aa,V.int m.div])
  generalize hhG6:upd G5 po (HO.lst [V.ref r0,xz,V.ref sa,V.ref p0,V.ref aa,V.int m.div])=G6 at yG6 epo |-
  have SG6:=SG5.trans yG6
  replace mL:=(AV.same yG6 mL)
  exact q (.ref po) {zv m with n:=az} _ SG6 (AV.lst epo (Paired.cons (br.same SG6) (Paired.cons mL (Paired.cons (bs.same SG6) (Paired.cons (bp.same SG6) (Paired.cons (ba.same SG6) (Paired.cons (AV.int m.div) Paired.nil))))))) (YU wz) ⟨few.r,fz,few.s,few.p,few.a,few.d⟩
 clear cc
 show u_7 _ [some (.ref pl),some (.int c),some (.ref r0),some (.ref n0),some (.ref sa),some (.ref p0),some (.ref aa),some (.int m.div),some (.int wy),some (.int rs),none] _
 rw [E_7]
 try dsimp only [zF,Cx.nox,Cx.wish]
 refine ⟨_,rfl,rfl,_,rfl,?_⟩
 refine yR (λcc=>?_) (λcc=>?_)
 ·clear cc
  have lr0:List.length (m.rows.map zZ)<=3:=(by rw [List.length_map]; omega)
  have ln0:List.length (m.nexts.map zD)<=3:=(by rw [List.length_map]; have:=MO.nexts.1; omega)
  have lp0:List.length (m.push.map zD)<=3:=(by rw [List.length_map]; have:=MO.push.1; omega)
  have fr0:=fr
  have fn0:=fn
  have fp0:=fp
  have k9:=MO.steer
  refine ⟨_,rfl,_,rfl,_,rfl,_,rfl,_,sa,m.steer,rfl,PD.hs,(by omega),(by omega),λv1 Jv1 yv1 gv1=>?_⟩
  obtain ⟨av1,mv1,wv1,fv1⟩:=gv1
  have SG1:=yv1
  refine ⟨_,rfl,_,rfl,_,rfl,(by show 6<=sizeLine; decide),λpo h0po=>?_⟩
  have yG2:=zL h0po (HO.lst [V.ref r0,V.ref n0,v1,V.ref p0,V.ref aa,V.int m.div])
  have epo:=zJ (H:=Jv1) (a:=po) (o:=HO.lst [V.ref r0,V.ref n0,v1,V.ref p0,V.ref aa,V.int m.div])
  generalize hhG2:upd Jv1 po (HO.lst [V.ref r0,V.ref n0,v1,V.ref p0,V.ref aa,V.int m.div])=G2 at yG2 epo |-
  have SG2:=SG1.trans yG2
  replace mv1:=(AV.same yG2 mv1)
  exact q (.ref po) {zv m with s:=av1} _ SG2 (AV.lst epo (Paired.cons (br.same SG2) (Paired.cons (bn.same SG2) (Paired.cons mv1 (Paired.cons (bp.same SG2) (Paired.cons (ba.same SG2) (Paired.cons (AV.int m.div) Paired.nil))))))) (UQ (by show zo (n:Int) _=false; rw [<- k9]; exact wv1)) ⟨few.r,few.n,(FA.mono fv1 (by decide)),few.p,few.a,few.d⟩
 clear cc
 show u_8 _ [some (.ref pl),some (.int c),some (.ref r0),some (.ref n0),some (.ref sa),some (.ref p0),some (.ref aa),some (.int m.div),some (.int wy),some (.int rs),none] _
 rw [E_8]
 try dsimp only [zF,Cx.nox,Cx.wish]
 refine ⟨_,rfl,rfl,_,rfl,?_⟩
 refine yR (λcc=>?_) (λcc=>?_)
 ·clear cc
  have lr0:List.length (m.rows.map zZ)<=3:=(by rw [List.length_map]; omega)
  have ln0:List.length (m.nexts.map zD)<=3:=(by rw [List.length_map]; have:=MO.nexts.1; omega)
  have lp0:List.length (m.push.map zD)<=3:=(by rw [List.length_map]; have:=MO.push.1; omega)
  have fr0:=fr
  have fn0:=fn
  have fp0:=fp
  have j0:=Int.fmod_nonneg_of_pos rs (show (0:Int) < (pv.length:Int) by omega)
  have j1:=Int.fmod_lt_of_pos rs (show (0:Int) < (pv.length:Int) by omega)
  refine ⟨_,rfl,_,rfl,p0,_,rfl,.inl (zM.of ep0),_,_,rfl,rfl,(show (pv.length:Int)≠0 by omega),?_⟩
  obtain ⟨j,ej⟩:=Int.eq_ofNat_of_zero_le j0
  rw [show rs.fmod (pv.length:Int)=((j:Nat):Int) from ej]
  have jn:j < pv.length:=by omega
  refine ⟨_,rfl,_,rfl,_,rfl,_,rfl,_,rfl,_,rfl,p0,_,rfl,zM.of ep0,λq1 h0q1=>?_⟩
  rw [show zT pv none (some ((j:Nat):Int))=(List.take j pv) from wo _ _]
  have yG1:=zL h0q1 (HO.lst (List.take j pv))
  have eq1:=zJ (H:=H) (a:=q1) (o:=HO.lst (List.take j pv))
  generalize hhG1:upd H q1 (HO.lst (List.take j pv))=G1 at yG1 eq1 |-
  have SG1:=yG1
  replace ep0:=(yG1 _ _ ep0)
  replace hp0:=(zG yG1 hp0)
  have hq1:Paired (AV ac G1) (List.take j pv) (List.take j (m.push.map zD)):=wW _ hp0
  have lq1:List.length (List.take j (m.push.map zD))<=3:=Nat.le_trans (vb _ _) lp0
  have fq1:∀ a∈(List.take j (m.push.map zD)),FA 3 a:=vc fp0
  have vb2:pv[j]? = some (pv[j]'(by omega)):=List.getElem?_eq_getElem _
  obtain ⟨rb2,gb2,b2,zb2,ib2⟩:=xJ PD.hpv vb2
  have wb2:pv[j]? = some (.ref b2):=vb2.trans (by rw [zb2])
  have eb2:=(SG1 _ _ ib2)
  have kb2:rb2.length=w2:=MO.push.2 rb2 (List.mem_of_getElem? gb2)
  have hb2:Paired (AV ac G1) (rb2.map V.int) (rb2.map AK.int):=xp _
  have lb2:List.length (rb2.map AK.int)<=20:=(by rw [List.length_map]; omega)
  have fb2:∀ a∈(rb2.map AK.int),FA 2 a:=wX
  refine ⟨_,rfl,_,rfl,p0,_,_,_,rfl,rfl,zM.of ep0,wR (j:=j) wb2,(by show 1<=sizeLine; decide),λq3 h0q3=>?_⟩
  have yG2:=zL h0q3 (HO.lst [V.int 0])
  have eq3:=zJ (H:=G1) (a:=q3) (o:=HO.lst [V.int 0])
  generalize hhG2:upd G1 q3 (HO.lst [V.int 0])=G2 at yG2 eq3 |-
  have SG2:=SG1.trans yG2
  replace ep0:=(yG2 _ _ ep0)
  replace hp0:=(zG yG2 hp0)
  replace eq1:=(yG2 _ _ eq1)
  replace hq1:=(zG yG2 hq1)
  replace eb2:=(yG2 _ _ eb2)
  replace hb2:=(zG yG2 hb2)
  have hq3:Paired (AV ac G2) [V.int 0] [AK.int 0]:=(Paired.cons (AV.int 0) Paired.nil)
  have lq3:List.length [AK.int 0]<=1:=(by show 1<=1; decide)
  have fq3:∀ a∈[AK.int 0],FA 2 a:=zc (FA.int _) (λ_ h=>nomatch h)
  refine ⟨b2,q3,_,_,rfl,rfl,eb2,eq3,(by have:=lb2; have:=lq3; have:=Paired.length hb2; have:=Paired.length hq3; exact Nat.le_of_lt (zq (by omega))),λq4 h0q4=>?_⟩
  have yG3:=zL h0q4 (HO.lst ((rb2.map V.int)++[V.int 0]))
  have eq4:=zJ (H:=G2) (a:=q4) (o:=HO.lst ((rb2.map V.int)++[V.int 0]))
  generalize hhG3:upd G2 q4 (HO.lst ((rb2.map V.int)++[V.int 0]))=G3 at yG3 eq4 |-
  have SG3:=SG2.trans yG3
  replace ep0:=(yG3 _ _ ep0)
  replace hp0:=(zG yG3 hp0)
  replace eq1:=(yG3 _ _ eq1)
  replace hq1:=(zG yG3 hq1)
  replace eb2:=(yG3 _ _ eb2)
  replace hb2:=(zG yG3 hb2)
  replace eq3:=(yG3 _ _ eq3)
  replace hq3:=(zG yG3 hq3)
  have hq4:Paired (AV ac G3) ((rb2.map V.int)++[V.int 0]) ((rb2.map AK.int)++[AK.int 0]):=yl hb2 hq3
  have lq4:List.length ((rb2.map AK.int)++[AK.int 0])<=21:=(by rw [List.length_append]; omega)
  have fq4:∀ a∈((rb2.map AK.int)++[AK.int 0]),FA 2 a:=xE fb2 fq3
  have mq4:AV ac G3 (V.ref q4) (AK.lst ((rb2.map AK.int)++[AK.int 0])):=(AV.lst eq4 hq4)
  refine ⟨(by show 1<=sizeLine; decide),λq5 h0q5=>?_⟩
  have yG4:=zL h0q5 (HO.lst [V.ref q4])
  have eq5:=zJ (H:=G3) (a:=q5) (o:=HO.lst [V.ref q4])
  generalize hhG4:upd G3 q5 (HO.lst [V.ref q4])=G4 at yG4 eq5 |-
  have SG4:=SG3.trans yG4
  replace ep0:=(yG4 _ _ ep0)
  replace hp0:=(zG yG4 hp0)
  replace eq1:=(yG4 _ _ eq1)
  replace hq1:=(zG yG4 hq1)
  replace mq4:=(AV.same yG4 mq4)
  have hq5:Paired (AV ac G4) [V.ref q4] [AK.lst ((rb2.map AK.int)++[AK.int 0])]:=(Paired.cons mq4 Paired.nil)
  have lq5:List.length [AK.lst ((rb2.map AK.int)++[AK.int 0])]<=1:=(by show 1<=1; decide)
  have fq5:∀ a∈[AK.lst ((rb2.map AK.int)++[AK.int 0])],FA 3 a:=zc (FA.lst (Nat.le_trans lq4 (by decide)) fq4) (λ_ h=>nomatch h)
  refine ⟨q1,q5,_,_,rfl,rfl,eq1,eq5,(by have:=lq1; have:=lq5; have:=Paired.length hq1; have:=Paired.length hq5; exact Nat.le_of_lt (zq (by omega))),λq6 h0q6=>?_⟩
  have yG5:=zL h0q6 (HO.lst ((List.take j pv)++[V.ref q4]))
  have eq6:=zJ (H:=G4) (a:=q6) (o:=HO.lst ((List.take j pv)++[V.ref q4]))
  generalize hhG5:upd G4 q6 (HO.lst ((List.take j pv)++[V.ref q4]))=G5 at yG5 eq6 |-
  have SG5:=SG4.trans yG5
  replace ep0:=(yG5 _ _ ep0)
  replace hp0:=(zG yG5 hp0)
  replace eq1:=(yG5 _ _ eq1)
  replace hq1:=(zG yG5 hq1)
  replace eq5:=(yG5 _ _ eq5)
  replace hq5:=(zG yG5 hq5)
  have hq6:Paired (AV ac G5) ((List.take j pv)++[V.ref q4]) ((List.take j (m.push.map zD))++[AK.lst ((rb2.map AK.int)++[AK.int 0])]):=yl hq1 hq5
  have lq6:List.length ((List.take j (m.push.map zD))++[AK.lst ((rb2.map AK.int)++[AK.int 0])])<=4:=(by rw [List.length_append]; omega)
  have fq6:∀ a∈((List.take j (m.push.map zD))++[AK.lst ((rb2.map AK.int)++[AK.int 0])]),FA 3 a:=xE fq1 fq5
  refine ⟨_,rfl,_,rfl,_,_,rfl,rfl,_,rfl,p0,_,rfl,zM.of ep0,λq7 h0q7=>?_⟩
  rw [show zT pv (some (((j:Nat):Int) + 1)) none=(List.drop (j + 1) pv) from jb _ _]
  have yG6:=zL h0q7 (HO.lst (List.drop (j + 1) pv))
  have eq7:=zJ (H:=G5) (a:=q7) (o:=HO.lst (List.drop (j + 1) pv))
  generalize hhG6:upd G5 q7 (HO.lst (List.drop (j + 1) pv))=G6 at yG6 eq7 |-
  have SG6:=SG5.trans yG6
  replace ep0:=(yG6 _ _ ep0)
  replace hp0:=(zG yG6 hp0)
  replace eq6:=(yG6 _ _ eq6)
  replace hq6:=(zG yG6 hq6)
  have hq7:Paired (AV ac G6) (List.drop (j + 1) pv) (List.drop (j + 1) (m.push.map zD)):=wA _ hp0
  have lq7:List.length (List.drop (j + 1) (m.push.map zD))<=3:=Nat.le_trans (wL _ _) lp0
  have fq7:∀ a∈(List.drop (j + 1) (m.push.map zD)),FA 3 a:=wM fp0
  refine ⟨q6,q7,_,_,rfl,rfl,eq6,eq7,(by have:=lq6; have:=lq7; have:=Paired.length hq6; have:=Paired.length hq7; exact Nat.le_of_lt (zq (by omega))),λq8 h0q8=>?_⟩
  have yG7:=zL h0q8 (HO.lst (((List.take j pv)++[V.ref q4])++(List.drop (j + 1) pv)))
  have eq8:=zJ (H:=G6) (a:=q8) (o:=HO.lst (((List.take j pv)++[V.ref q4])++(List.drop (j + 1) pv)))
  generalize hhG7:upd G6 q8 (HO.lst (((List.take j pv)++[V.ref q4])++(List.drop (j + 1) pv)))=G7 at yG7 eq8 |-
  have SG7:=SG6.trans yG7
  replace ep0:=(yG7 _ _ ep0)
  replace hp0:=(zG yG7 hp0)
  replace eq6:=(yG7 _ _ eq6)
  replace hq6:=(zG yG7 hq6)
  replace eq7:=(yG7 _ _ eq7)
  replace hq7:=(zG yG7 hq7)
  have hq8:Paired (AV ac G7) (((List.take j pv)++[V.ref q4])++(List.drop (j + 1) pv)) (((List.take j (m.push.map zD))++[AK.lst ((rb2.map AK.int)++[AK.int 0])])++(List.drop (j + 1) (m.push.map zD))):=yl hq6 hq7
  have lq8:List.length (((List.take j (m.push.map zD))++[AK.lst ((rb2.map AK.int)++[AK.int 0])])++(List.drop (j + 1) (m.push.map zD)))<=7:=(by rw [List.length_append]; omega)
  have fq8:∀ a∈(((List.take j (m.push.map zD))++[AK.lst ((rb2.map AK.int)++[AK.int 0])])++(List.drop (j + 1) (m.push.map zD))),FA 3 a:=xE fq6 fq7
  have mL:AV ac G7 (V.ref q8) (AK.lst (((List.take j (m.push.map zD))++[AK.lst ((rb2.map AK.int)++[AK.int 0])])++(List.drop (j + 1) (m.push.map zD)))):=(AV.lst eq8 hq8)
  refine ⟨_,rfl,_,rfl,(by show 6<=sizeLine; decide),λpo h0po=>?_⟩
  have yG8:=zL h0po (HO.lst [V.ref r0,V.ref n0,V.ref sa,V.ref q8,V.ref aa,V.int m.div])
  have epo:=zJ (H:=G7) (a:=po) (o:=HO.lst [V.ref r0,V.ref n0,V.ref sa,V.ref q8,V.ref aa,V.int m.div])
  generalize hhG8:upd G7 po (HO.lst [V.ref r0,V.ref n0,V.ref sa,V.ref q8,V.ref aa,V.int m.div])=G8 at yG8 epo |-
  have SG8:=SG7.trans yG8
  replace mL:=(AV.same yG8 mL)
  exact q (.ref po) {zv m with p:=(AK.lst (((List.take j (m.push.map zD))++[AK.lst ((rb2.map AK.int)++[AK.int 0])])++(List.drop (j + 1) (m.push.map zD))))} _ SG8 (AV.lst epo (Paired.cons (br.same SG8) (Paired.cons (bn.same SG8) (Paired.cons (bs.same SG8) (Paired.cons mL (Paired.cons (ba.same SG8) (Paired.cons (AV.int m.div) Paired.nil))))))) (YV (YS (List.mem_append_left _ (List.mem_append_right _ (List.mem_singleton.mpr rfl))) (qW (by rw [List.length_append,List.length_map]; show ((_ + 1:Nat):Int)≠_; omega)))) ⟨few.r,few.n,few.s,(FA.lst (Nat.le_trans lq8 (by decide)) fq8),few.a,few.d⟩
 clear cc
 show u_9 _ [some (.ref pl),some (.int c),some (.ref r0),some (.ref n0),some (.ref sa),some (.ref p0),some (.ref aa),some (.int m.div),some (.int wy),some (.int rs),none] _
 rw [E_9]
 try dsimp only [zF,Cx.nox,Cx.wish]
 refine ⟨_,rfl,rfl,_,rfl,?_⟩
 refine yR (λcc=>?_) (λcc=>?_)
 ·clear cc
  have lr0:List.length (m.rows.map zZ)<=3:=(by rw [List.length_map]; omega)
  have ln0:List.length (m.nexts.map zD)<=3:=(by rw [List.length_map]; have:=MO.nexts.1; omega)
  have lp0:List.length (m.push.map zD)<=3:=(by rw [List.length_map]; have:=MO.push.1; omega)
  have fr0:=fr
  have fn0:=fn
  have fp0:=fp
  have k0:=Int.fmod_nonneg_of_pos rs (show (0:Int) < 4 by decide)
  have k1:=Int.fmod_lt_of_pos rs (show (0:Int) < 4 by decide)
  have vb1:pv[0]? = some (pv[0]'(by omega)):=List.getElem?_eq_getElem _
  obtain ⟨rb1,gb1,b1,zb1,ib1⟩:=xJ PD.hpv vb1
  have wb1:pv[0]? = some (.ref b1):=vb1.trans (by rw [zb1])
  have eb1:=ib1
  have kb1:rb1.length=w2:=MO.push.2 rb1 (List.mem_of_getElem? gb1)
  have hb1:Paired (AV ac H) (rb1.map V.int) (rb1.map AK.int):=xp _
  have lb1:List.length (rb1.map AK.int)<=20:=(by rw [List.length_map]; omega)
  have fb1:∀ a∈(rb1.map AK.int),FA 2 a:=wX
  have mb1:AV ac H (V.ref b1) (AK.lst (rb1.map AK.int)):=(AV.lst eb1 hb1)
  refine ⟨_,rfl,_,rfl,_,rfl,_,rfl,_,rfl,p0,_,_,_,rfl,rfl,zM.of ep0,wR (j:=0) wb1,(by show 1<=sizeLine; decide),λq2 h0q2=>?_⟩
  have yG1:=zL h0q2 (HO.lst [V.ref b1])
  have eq2:=zJ (H:=H) (a:=q2) (o:=HO.lst [V.ref b1])
  generalize hhG1:upd H q2 (HO.lst [V.ref b1])=G1 at yG1 eq2 |-
  have SG1:=yG1
  replace ep0:=(yG1 _ _ ep0)
  replace hp0:=(zG yG1 hp0)
  replace mb1:=(AV.same yG1 mb1)
  have hq2:Paired (AV ac G1) [V.ref b1] [AK.lst (rb1.map AK.int)]:=(Paired.cons mb1 Paired.nil)
  have lq2:List.length [AK.lst (rb1.map AK.int)]<=1:=(by show 1<=1; decide)
  have fq2:∀ a∈[AK.lst (rb1.map AK.int)],FA 3 a:=zc (FA.lst (Nat.le_trans lb1 (by decide)) fb1) (λ_ h=>nomatch h)
  refine ⟨p0,q2,_,_,rfl,rfl,ep0,eq2,(by have:=lp0; have:=lq2; have:=Paired.length hp0; have:=Paired.length hq2; exact Nat.le_of_lt (zq (by omega))),λq3 h0q3=>?_⟩
  have yG2:=zL h0q3 (HO.lst (pv++[V.ref b1]))
  have eq3:=zJ (H:=G1) (a:=q3) (o:=HO.lst (pv++[V.ref b1]))
  generalize hhG2:upd G1 q3 (HO.lst (pv++[V.ref b1]))=G2 at yG2 eq3 |-
  have SG2:=SG1.trans yG2
  replace ep0:=(yG2 _ _ ep0)
  replace hp0:=(zG yG2 hp0)
  replace eq2:=(yG2 _ _ eq2)
  replace hq2:=(zG yG2 hq2)
  have hq3:Paired (AV ac G2) (pv++[V.ref b1]) ((m.push.map zD)++[AK.lst (rb1.map AK.int)]):=yl hp0 hq2
  have lq3:List.length ((m.push.map zD)++[AK.lst (rb1.map AK.int)])<=4:=(by rw [List.length_append]; omega)
  have fq3:∀ a∈((m.push.map zD)++[AK.lst (rb1.map AK.int)]),FA 3 a:=xE fp0 fq2
  have mq3:AV ac G2 (V.ref q3) (AK.lst ((m.push.map zD)++[AK.lst (rb1.map AK.int)])):=(AV.lst eq3 hq3)
  refine ⟨_,rfl,_,rfl,p0,_,rfl,zM.of ep0,λq4 h0q4=>?_⟩
  rw [show zT pv (some 1) none=(List.drop 1 pv) from wp _ _]
  have yG3:=zL h0q4 (HO.lst (List.drop 1 pv))
  have eq4:=zJ (H:=G2) (a:=q4) (o:=HO.lst (List.drop 1 pv))
  generalize hhG3:upd G2 q4 (HO.lst (List.drop 1 pv))=G3 at yG3 eq4 |-
  have SG3:=SG2.trans yG3
  replace ep0:=(yG3 _ _ ep0)
  replace hp0:=(zG yG3 hp0)
  replace mq3:=(AV.same yG3 mq3)
  have hq4:Paired (AV ac G3) (List.drop 1 pv) (List.drop 1 (m.push.map zD)):=wA _ hp0
  have lq4:List.length (List.drop 1 (m.push.map zD))<=3:=Nat.le_trans (wL _ _) lp0
  have fq4:∀ a∈(List.drop 1 (m.push.map zD)),FA 3 a:=wM fp0
  have mq4:AV ac G3 (V.ref q4) (AK.lst (List.drop 1 (m.push.map zD))):=(AV.lst eq4 hq4)
  refine ⟨_,rfl,p0,_,rfl,.inl ⟨zM.of ep0,λq5 h0q5=>?_⟩⟩
  have yG4:=zL h0q5 (HO.tup pv)
  have eq5:=zJ (H:=G3) (a:=q5) (o:=HO.tup pv)
  generalize hhG4:upd G3 q5 (HO.tup pv)=G4 at yG4 eq5 |-
  have SG4:=SG3.trans yG4
  replace ep0:=(yG4 _ _ ep0)
  replace hp0:=(zG yG4 hp0)
  replace mq3:=(AV.same yG4 mq3)
  replace mq4:=(AV.same yG4 mq4)
  have hq5:Paired (AV ac G4) pv (m.push.map zD):=hp0
  have lq5:List.length (m.push.map zD)<=3:=lp0
  have fq5:∀ a∈(m.push.map zD),FA 3 a:=fp0
  have mq5:AV ac G4 (V.ref q5) (AK.tup (m.push.map zD)):=(AV.tup eq5 hq5)
  refine ⟨(by show 4<=sizeLine; decide),λq6 h0q6=>?_⟩
  have yG5:=zL h0q6 (HO.lst [V.ref q3,V.ref q4,V.ref q5,V.non])
  have eq6:=zJ (H:=G4) (a:=q6) (o:=HO.lst [V.ref q3,V.ref q4,V.ref q5,V.non])
  generalize hhG5:upd G4 q6 (HO.lst [V.ref q3,V.ref q4,V.ref q5,V.non])=G5 at yG5 eq6 |-
  have SG5:=SG4.trans yG5
  replace ep0:=(yG5 _ _ ep0)
  replace hp0:=(zG yG5 hp0)
  replace mq3:=(AV.same yG5 mq3)
  replace mq4:=(AV.same yG5 mq4)
  replace mq5:=(AV.same yG5 mq5)
  have hq6:Paired (AV ac G5) [V.ref q3,V.ref q4,V.ref q5,V.non] [AK.lst ((m.push.map zD)++[AK.lst (rb1.map AK.int)]),AK.lst (List.drop 1 (m.push.map zD)),AK.tup (m.push.map zD),AK.non]:=(Paired.cons mq3 (Paired.cons mq4 (Paired.cons mq5 (Paired.cons AV.non Paired.nil))))
  have lq6:List.length [AK.lst ((m.push.map zD)++[AK.lst (rb1.map AK.int)]),AK.lst (List.drop 1 (m.push.map zD)),AK.tup (m.push.map zD),AK.non]<=4:=(by show 4<=4; decide)
  have fq6:∀ a∈[AK.lst ((m.push.map zD)++[AK.lst (rb1.map AK.int)]),AK.lst (List.drop 1 (m.push.map zD)),AK.tup (m.push.map zD),AK.non],FA 4 a:=zc (FA.lst (Nat.le_trans lq3 (by decide)) fq3) (zc (FA.lst (Nat.le_trans lq4 (by decide)) fq4) (zc (FA.tup (Nat.le_trans lq5 (by decide)) fq5) (zc FA.non (λ_ h=>nomatch h))))
  have al:yH ac (λa=>zW (n:Int) (w2:Int) a=false) 4 G5 [V.ref q3,V.ref q4,V.ref q5,V.non]:=wq hq6 (zg (P:=(λa=>zW (n:Int) (w2:Int) a=false)) (qb (by rw [List.length_append,List.length_map,MO.push.1]; show ((n + 1:Nat):Int)≠_; omega)) (FA.mono (j:=4) (FA.lst (Nat.le_trans lq3 (by decide)) fq3) (by decide)) (zg (P:=(λa=>zW (n:Int) (w2:Int) a=false)) (qb (by rw [List.length_drop,List.length_map,MO.push.1]; omega)) (FA.mono (j:=4) (FA.lst (Nat.le_trans lq4 (by decide)) fq4) (by decide)) (zg (P:=(λa=>zW (n:Int) (w2:Int) a=false)) rfl (FA.mono (j:=4) (FA.tup (Nat.le_trans lq5 (by decide)) fq5) (by decide)) (zg (P:=(λa=>zW (n:Int) (w2:Int) a=false)) rfl FA.non wa))))
  obtain ⟨xz,hxz,axz⟩:=wr (xs:=[V.ref q3,V.ref q4,V.ref q5,V.non]) k0 (by show _ < ((4:Nat):Int); omega)
  obtain ⟨az,mL,wz,fz⟩:=al xz hxz
  refine ⟨_,rfl,_,_,rfl,rfl,(show (4:Int)≠0 by decide),q6,_,_,_,rfl,rfl,zM.of eq6,axz,_,rfl,_,rfl,(by show 6<=sizeLine; decide),λpo h0po=>?_⟩
  have yG6:=zL h0po (HO.lst [V.ref r0,V.ref n0,V.ref sa,xz,V.ref aa,V.int m.div])
  have epo:=zJ (H:=G5) (a:=po) (o:=HO.lst [V.ref r0,V.ref n0,V.ref sa,xz,V.ref aa,V.int m.div])
  generalize hhG6:upd G5 po (HO.lst [V.ref r0,V.ref n0,V.ref sa,xz,V.ref aa,V.int m.div])=G6 at yG6 epo |-
  have SG6:=SG5.trans yG6
  replace mL:=(AV.same yG6 mL)
  exact q (.ref po) {zv m with p:=az} _ SG6 (AV.lst epo (Paired.cons (br.same SG6) (Paired.cons (bn.same SG6) (Paired.cons (bs.same SG6) (Paired.cons mL (Paired.cons (ba.same SG6) (Paired.cons (AV.int m.div) Paired.nil))))))) (YV wz) ⟨few.r,few.n,few.s,fz,few.a,few.d⟩
 clear cc
 show u_10 _ [some (.ref pl),some (.int c),some (.ref r0),some (.ref n0),some (.ref sa),some (.ref p0),some (.ref aa),some (.int m.div),some (.int wy),some (.int rs),none] _
 rw [E_10]
 try dsimp only [zF,Cx.nox,Cx.wish]
 refine ⟨_,rfl,rfl,_,rfl,?_⟩
 refine yR (λcc=>?_) (λcc=>?_)
 ·clear cc
  have lr0:List.length (m.rows.map zZ)<=3:=(by rw [List.length_map]; omega)
  have ln0:List.length (m.nexts.map zD)<=3:=(by rw [List.length_map]; have:=MO.nexts.1; omega)
  have lp0:List.length (m.push.map zD)<=3:=(by rw [List.length_map]; have:=MO.push.1; omega)
  have fr0:=fr
  have fn0:=fn
  have fp0:=fp
  have k9:=MO.add
  refine ⟨_,rfl,_,rfl,_,rfl,_,rfl,_,rfl,_,rfl,_,aa,m.add,rfl,PD.ha,(by omega),(by omega),λv1 Jv1 yv1 gv1=>?_⟩
  obtain ⟨av1,mv1,wv1,fv1⟩:=gv1
  have SG1:=yv1
  refine ⟨_,rfl,(by show 6<=sizeLine; decide),λpo h0po=>?_⟩
  have yG2:=zL h0po (HO.lst [V.ref r0,V.ref n0,V.ref sa,V.ref p0,v1,V.int m.div])
  have epo:=zJ (H:=Jv1) (a:=po) (o:=HO.lst [V.ref r0,V.ref n0,V.ref sa,V.ref p0,v1,V.int m.div])
  generalize hhG2:upd Jv1 po (HO.lst [V.ref r0,V.ref n0,V.ref sa,V.ref p0,v1,V.int m.div])=G2 at yG2 epo |-
  have SG2:=SG1.trans yG2
  replace mv1:=(AV.same yG2 mv1)
  exact q (.ref po) {zv m with a:=av1} _ SG2 (AV.lst epo (Paired.cons (br.same SG2) (Paired.cons (bn.same SG2) (Paired.cons (bs.same SG2) (Paired.cons (bp.same SG2) (Paired.cons mv1 (Paired.cons (AV.int m.div) Paired.nil))))))) (UR (by show zo (n:Int) _=false; rw [<- k9]; exact wv1)) ⟨few.r,few.n,few.s,few.p,(FA.mono fv1 (by decide)),few.d⟩
 clear cc
 show u_11 _ [some (.ref pl),some (.int c),some (.ref r0),some (.ref n0),some (.ref sa),some (.ref p0),some (.ref aa),some (.int m.div),some (.int wy),some (.int rs),none] _
 rw [E_11]
 try dsimp only [zF,Cx.nox,Cx.wish]
 have lr0:List.length (m.rows.map zZ)<=3:=(by rw [List.length_map]; omega)
 have ln0:List.length (m.nexts.map zD)<=3:=(by rw [List.length_map]; have:=MO.nexts.1; omega)
 have lp0:List.length (m.push.map zD)<=3:=(by rw [List.length_map]; have:=MO.push.1; omega)
 have fr0:=fr
 have fn0:=fn
 have fp0:=fp
 have k0:=Int.fmod_nonneg_of_pos rs (show (0:Int) < 6 by decide)
 have k1:=Int.fmod_lt_of_pos rs (show (0:Int) < 6 by decide)
 have d0:=Int.fmod_nonneg_of_pos rs (show (0:Int) < 10 ^ (30:Int).toNat by decide)
 refine ⟨_,rfl,_,rfl,_,rfl,_,rfl,_,rfl,_,_,rfl,rfl,_,rfl,_,_,rfl,rfl,⟨by decide,by decide,by decide⟩,_,_,rfl,rfl,(show (10:Int) ^ (30:Int).toNat≠0 by decide),_,_,rfl,rfl,(by show 2<=sizeLine; decide),λc1 h0c1=>?_⟩
 have yG1:=zL h0c1 (HO.tup [V.int 1,V.int 2])
 have ec1:=zJ (H:=H) (a:=c1) (o:=HO.tup [V.int 1,V.int 2])
 generalize hhG1:upd H c1 (HO.tup [V.int 1,V.int 2])=G1 at yG1 ec1 |-
 have SG1:=yG1
 refine ⟨(by show 6<=sizeLine; decide),λc2 h0c2=>?_⟩
 have yG2:=zL h0c2 (HO.lst [V.int 0,V.int (0 - 1 - rs.fmod (10 ^ (30:Int).toNat)),V.bl true,V.non,V.str "2",V.ref c1])
 have ec2:=zJ (H:=G1) (a:=c2) (o:=HO.lst [V.int 0,V.int (0 - 1 - rs.fmod (10 ^ (30:Int).toNat)),V.bl true,V.non,V.str "2",V.ref c1])
 generalize hhG2:upd G1 c2 (HO.lst [V.int 0,V.int (0 - 1 - rs.fmod (10 ^ (30:Int).toNat)),V.bl true,V.non,V.str "2",V.ref c1])=G2 at yG2 ec2 |-
 have SG2:=SG1.trans yG2
 replace ec1:=(yG2 _ _ ec1)
 have al:yH ac (λa=>xB a=false) 4 G2 [V.int 0,V.int (0 - 1 - rs.fmod (10 ^ (30:Int).toNat)),V.bl true,V.non,V.str "2",V.ref c1]:=.cons ⟨_,.int _,rfl,.int _⟩ (.cons ⟨_,.int _,decide_eq_false (by omega),.int _⟩ (.cons ⟨_,.bool _,rfl,.bool _⟩ (.cons ⟨_,.non,rfl,.non⟩ (.cons ⟨_,.str _,rfl,.str _⟩ (.cons ⟨_,.tup ec1 (.cons (.int _) (.cons (.int _) .nil)),rfl,.tup (by decide) (zc (.int _) (zc (.int _) (λ_ h=>nomatch h)))⟩ .nil)))))
 obtain ⟨xz,hxz,axz⟩:=wr (xs:=[V.int 0,V.int (0 - 1 - rs.fmod (10 ^ (30:Int).toNat)),V.bl true,V.non,V.str "2",V.ref c1]) k0 (by show _ < ((6:Nat):Int); omega)
 obtain ⟨az,mL,wz,fz⟩:=al xz hxz
 refine ⟨_,rfl,_,_,rfl,rfl,(show (6:Int)≠0 by decide),c2,_,_,_,rfl,rfl,zM.of ec2,axz,(by show 6<=sizeLine; decide),λpo h0po=>?_⟩
 have yG3:=zL h0po (HO.lst [V.ref r0,V.ref n0,V.ref sa,V.ref p0,V.ref aa,xz])
 have epo:=zJ (H:=G2) (a:=po) (o:=HO.lst [V.ref r0,V.ref n0,V.ref sa,V.ref p0,V.ref aa,xz])
 generalize hhG3:upd G2 po (HO.lst [V.ref r0,V.ref n0,V.ref sa,V.ref p0,V.ref aa,xz])=G3 at yG3 epo |-
 have SG3:=SG2.trans yG3
 replace mL:=(AV.same yG3 mL)
 exact q (.ref po) {zv m with d:=az} _ SG3 (AV.lst epo (Paired.cons (br.same SG3) (Paired.cons (bn.same SG3) (Paired.cons (bs.same SG3) (Paired.cons (bp.same SG3) (Paired.cons (ba.same SG3) (Paired.cons mL Paired.nil))))))) (US wz) ⟨few.r,few.n,few.s,few.p,few.a,fz⟩
end
end K12
namespace K12
open PySem L2 Sh
section
variable {P:Program} {w:World} {K:PySem.W.Frag} {mg:Str->Option Value} {base:Heap}
noncomputable abbrev ye:Stmt:=xC 41
theorem kh:yS ["_law_pushes","_law_cell","_law_at","_law_some"] ["_law_pushes","_law_cell"] (zQ ye):=.a
theorem Uk {k:Nat} {f:Addr} {fd:FuncData} {ac ad:Addr} (ae:zS K mg "Mode" ac) (af:yy K ac) (ag:zS K mg "Thing" ad) (ah:yz K ad) (Y:zj K ac) {C1 C2:Addr} (Z:yx K mg C1 C2) (F:yT K "_law_no_pushes" "_law_no_pushes" ye f fd) (B:Bl mg):zP P w K mg base zX (k + 1) f fd ["_law_pushes","_law_cell"] (kQ ac):=by
 refine F.ok kh (λvs H Q E h=>?_) (λcdv A outer s H vs Q E hr h=>?_)
 ·obtain ⟨_,_,_,_,rfl,_⟩:=h
  rfl
 obtain ⟨pa,pv,bs,c,rfl,hpa0,hpv,b6,q⟩:=h
 conv in (yQ ye)=>whnf
 generalize hL1:(Expr.Tuple [(Expr.Constant (Const.int 1) 0 ⟨180,18,180,19⟩),(Expr.Constant (Const.int 0) 0 ⟨180,21,180,22⟩)] 0 ⟨180,17,180,23⟩)=l1
 have pl1:PE (zF zX P w K mg base ["_law_pushes","_law_cell","_law_at","_law_some"] "_law_no_pushes" (zQ ye) f cdv A outer s H E).nox l1 (tK ac (AK.tup [(AK.int 1),(AK.int 0)])):=vH hL1 (zU.tup (Paired.cons zU.int (Paired.cons zU.int Paired.nil)) (by decide))
 have sl1:∀ es,starEach (l1 :: es) (zF zX P w K mg base ["_law_pushes","_law_cell","_law_at","_law_some"] "_law_no_pushes" (zQ ye) f cdv A outer s H E).nox.env=(false,eval l1 (zF zX P w K mg base ["_law_pushes","_law_cell","_law_at","_law_some"] "_law_no_pushes" (zQ ye) f cdv A outer s H E).nox.env) :: starEach es (zF zX P w K mg base ["_law_pushes","_law_cell","_law_at","_law_some"] "_law_no_pushes" (zQ ye) f cdv A outer s H E).nox.env:=vG hL1 (zU.tup (Paired.cons zU.int (Paired.cons zU.int Paired.nil)) (by decide))
 generalize hL2:(Expr.List [(Expr.Constant (Const.int 0) 0 ⟨180,26,180,27⟩),(Expr.Constant (Const.int 1) 0 ⟨180,29,180,30⟩)] ⟨180,25,180,31⟩)=l2
 have pl2:PE (zF zX P w K mg base ["_law_pushes","_law_cell","_law_at","_law_some"] "_law_no_pushes" (zQ ye) f cdv A outer s H E).nox l2 (tK ac (AK.lst [(AK.int 0),(AK.int 1)])):=vH hL2 (zU.lst (Paired.cons zU.int (Paired.cons zU.int Paired.nil)) (by decide))
 have sl2:∀ es,starEach (l2 :: es) (zF zX P w K mg base ["_law_pushes","_law_cell","_law_at","_law_some"] "_law_no_pushes" (zQ ye) f cdv A outer s H E).nox.env=(false,eval l2 (zF zX P w K mg base ["_law_pushes","_law_cell","_law_at","_law_some"] "_law_no_pushes" (zQ ye) f cdv A outer s H E).nox.env) :: starEach es (zF zX P w K mg base ["_law_pushes","_law_cell","_law_at","_law_some"] "_law_no_pushes" (zQ ye) f cdv A outer s H E).nox.env:=vG hL2 (zU.lst (Paired.cons zU.int (Paired.cons zU.int Paired.nil)) (by decide))
 generalize hL3:(Expr.Tuple [(Expr.Constant (Const.int 0) 0 ⟨180,34,180,35⟩)] 0 ⟨180,33,180,37⟩)=l3
 have pl3:PE (zF zX P w K mg base ["_law_pushes","_law_cell","_law_at","_law_some"] "_law_no_pushes" (zQ ye) f cdv A outer s H E).nox l3 (tK ac (AK.tup [(AK.int 0)])):=vH hL3 (zU.tup (Paired.cons zU.int Paired.nil) (by decide))
 have sl3:∀ es,starEach (l3 :: es) (zF zX P w K mg base ["_law_pushes","_law_cell","_law_at","_law_some"] "_law_no_pushes" (zQ ye) f cdv A outer s H E).nox.env=(false,eval l3 (zF zX P w K mg base ["_law_pushes","_law_cell","_law_at","_law_some"] "_law_no_pushes" (zQ ye) f cdv A outer s H E).nox.env) :: starEach es (zF zX P w K mg base ["_law_pushes","_law_cell","_law_at","_law_some"] "_law_no_pushes" (zQ ye) f cdv A outer s H E).nox.env:=vG hL3 (zU.tup (Paired.cons zU.int Paired.nil) (by decide))
 generalize hL4:(Expr.Tuple [(Expr.Constant (Const.int 0) 0 ⟨180,40,180,41⟩),(Expr.Constant (Const.int 1) 0 ⟨180,43,180,44⟩),(Expr.Constant (Const.int 2) 0 ⟨180,46,180,47⟩)] 0 ⟨180,39,180,48⟩)=l4
 have pl4:PE (zF zX P w K mg base ["_law_pushes","_law_cell","_law_at","_law_some"] "_law_no_pushes" (zQ ye) f cdv A outer s H E).nox l4 (tK ac (AK.tup [(AK.int 0),(AK.int 1),(AK.int 2)])):=vH hL4 (zU.tup (Paired.cons zU.int (Paired.cons zU.int (Paired.cons zU.int Paired.nil))) (by decide))
 have sl4:∀ es,starEach (l4 :: es) (zF zX P w K mg base ["_law_pushes","_law_cell","_law_at","_law_some"] "_law_no_pushes" (zQ ye) f cdv A outer s H E).nox.env=(false,eval l4 (zF zX P w K mg base ["_law_pushes","_law_cell","_law_at","_law_some"] "_law_no_pushes" (zQ ye) f cdv A outer s H E).nox.env) :: starEach es (zF zX P w K mg base ["_law_pushes","_law_cell","_law_at","_law_some"] "_law_no_pushes" (zQ ye) f cdv A outer s H E).nox.env:=vG hL4 (zU.tup (Paired.cons zU.int (Paired.cons zU.int (Paired.cons zU.int Paired.nil))) (by decide))
 generalize hL5:(Expr.Tuple [(Expr.Constant Const.none 0 ⟨180,51,180,55⟩),(Expr.Constant (Const.int 1) 0 ⟨180,57,180,58⟩)] 0 ⟨180,50,180,59⟩)=l5
 have pl5:PE (zF zX P w K mg base ["_law_pushes","_law_cell","_law_at","_law_some"] "_law_no_pushes" (zQ ye) f cdv A outer s H E).nox l5 (tK ac (AK.tup [AK.non,(AK.int 1)])):=vH hL5 (zU.tup (Paired.cons zU.non (Paired.cons zU.int Paired.nil)) (by decide))
 have sl5:∀ es,starEach (l5 :: es) (zF zX P w K mg base ["_law_pushes","_law_cell","_law_at","_law_some"] "_law_no_pushes" (zQ ye) f cdv A outer s H E).nox.env=(false,eval l5 (zF zX P w K mg base ["_law_pushes","_law_cell","_law_at","_law_some"] "_law_no_pushes" (zQ ye) f cdv A outer s H E).nox.env) :: starEach es (zF zX P w K mg base ["_law_pushes","_law_cell","_law_at","_law_some"] "_law_no_pushes" (zQ ye) f cdv A outer s H E).nox.env:=vG hL5 (zU.tup (Paired.cons zU.non (Paired.cons zU.int Paired.nil)) (by decide))
 generalize hL6:(Expr.Tuple [(Expr.Constant (Const.int 0) 0 ⟨180,62,180,63⟩),(Expr.Constant (Const.bool true) 0 ⟨180,65,180,69⟩)] 0 ⟨180,61,180,70⟩)=l6
 have pl6:PE (zF zX P w K mg base ["_law_pushes","_law_cell","_law_at","_law_some"] "_law_no_pushes" (zQ ye) f cdv A outer s H E).nox l6 (tK ac (AK.tup [(AK.int 0),(AK.bool true)])):=vH hL6 (zU.tup (Paired.cons zU.int (Paired.cons zU.bool Paired.nil)) (by decide))
 have sl6:∀ es,starEach (l6 :: es) (zF zX P w K mg base ["_law_pushes","_law_cell","_law_at","_law_some"] "_law_no_pushes" (zQ ye) f cdv A outer s H E).nox.env=(false,eval l6 (zF zX P w K mg base ["_law_pushes","_law_cell","_law_at","_law_some"] "_law_no_pushes" (zQ ye) f cdv A outer s H E).nox.env) :: starEach es (zF zX P w K mg base ["_law_pushes","_law_cell","_law_at","_law_some"] "_law_no_pushes" (zQ ye) f cdv A outer s H E).nox.env:=vG hL6 (zU.tup (Paired.cons zU.int (Paired.cons zU.bool Paired.nil)) (by decide))
 generalize hL7:(Expr.Tuple [(Expr.Constant (Const.str "0") 0 ⟨180,73,180,76⟩),(Expr.Constant (Const.int 1) 0 ⟨180,78,180,79⟩)] 0 ⟨180,72,180,80⟩)=l7
 have pl7:PE (zF zX P w K mg base ["_law_pushes","_law_cell","_law_at","_law_some"] "_law_no_pushes" (zQ ye) f cdv A outer s H E).nox l7 (tK ac (AK.tup [(AK.str "0"),(AK.int 1)])):=vH hL7 (zU.tup (Paired.cons zU.str (Paired.cons zU.int Paired.nil)) (by decide))
 have sl7:∀ es,starEach (l7 :: es) (zF zX P w K mg base ["_law_pushes","_law_cell","_law_at","_law_some"] "_law_no_pushes" (zQ ye) f cdv A outer s H E).nox.env=(false,eval l7 (zF zX P w K mg base ["_law_pushes","_law_cell","_law_at","_law_some"] "_law_no_pushes" (zQ ye) f cdv A outer s H E).nox.env) :: starEach es (zF zX P w K mg base ["_law_pushes","_law_cell","_law_at","_law_some"] "_law_no_pushes" (zQ ye) f cdv A outer s H E).nox.env:=vG hL7 (zU.tup (Paired.cons zU.str (Paired.cons zU.int Paired.nil)) (by decide))
 refine ⟨_,(za (ya (i:=2) kh.nd rfl (Or.inl rfl) (zO (ji yI) (zO (ji xu) (zB 1) zK) (zO (zw ym) (zr yF rfl B.len_ xQ (zA (zB 0) zH)) zK)))
  (za (ya (i:=3) kh.nd rfl (Or.inl rfl) (zn (zA pl1 (zA pl2 (zA pl3 (zA pl4 (zA pl5 (zA pl6 (zA pl7 (zA wC (zA zK (zA (xi (zA zK (zA (zO (zw wx) zK (zO (ji yI) (zB 1) (zO (ji j7) zK zK))) zH))) zH))) (sl7 _)) (sl6 _)) (sl5 _)) (sl4 _)) (sl3 _)) (sl2 _)) (sl1 _))))
  (za (yZ (yo xO (zO (ji yI) (zO (ji xu) (zB 1) zK) zK) zK (yb _)) (zf (zk (yJ yU (zn (zA (wQ xn rfl B.tuple_ we (zA (zB 0) zH)) (zA wC (zA (xi (zA zK (zA zK zH))) (zA ge zH))))) (zO (ji yI) (zB 1) zK) (λ_ _=>rfl)))) yY)
  (zf (zk (zO zh (zO zh (yc yr (zB 0) yp (yM (zB 2))) (zn (zA (yJ yU (zB 3) (zO (ji yI) (zB 1) zK) (λ_ _=>rfl)) zH))) (yc yr (yc yr (zB 0) (yM (zB 2)) yp) (yM zK) yp))))))),?_⟩
 try dsimp only [zF,Cx.nox,Cx.wish]
 have b10:Bd 10 (10:Int):=Bd.lit
 have b70:Bd 10 (70:Int):=Bd.lit
 have lpv:pv.length=bs.length:=Paired.length hpv
 have hpa:Paired (AV ac H) pv (bs.map yC):=vk hpv
 have epa:=hpa0
 have lpa:List.length (bs.map yC)<=6:=by rw [List.length_map]; exact b6
 have fpa:∀ a∈bs.map yC,FA 3 a:=kO
 have j0:=Int.fmod_nonneg_of_pos (c.fdiv 10) (show (0:Int) < (pv.length:Int) + 1 by omega)
 have j1:=Int.fmod_lt_of_pos (c.fdiv 10) (show (0:Int) < (pv.length:Int) + 1 by omega)
 have i0:=Int.fmod_nonneg_of_pos c (show (0:Int) < 10 by decide)
 have i1:=Int.fmod_lt_of_pos c (show (0:Int) < 10 by decide)
 have k0:=Int.fmod_nonneg_of_pos c (show (0:Int) < 4 by decide)
 have k1:=Int.fmod_lt_of_pos c (show (0:Int) < 4 by decide)
 have d0:=Int.fmod_nonneg_of_pos c (show (0:Int) < 10 ^ (20:Int).toNat by decide)
 refine ⟨_,rfl,_,_,rfl,rfl,⟨by decide,b10.mono⟩,_,rfl,pa,_,rfl,.inl (zM.of epa),_,_,rfl,rfl,_,_,rfl,rfl,(show (pv.length:Int) + 1≠0 by omega),?_⟩
 obtain ⟨j,ej⟩:=Int.eq_ofNat_of_zero_le j0
 rw [show (c.fdiv 10).fmod ((pv.length:Int) + 1)=((j:Nat):Int) from ej]
 refine λc1 Jc1 yc1 mc1=>?_
 have SG1:=yc1
 replace epa:=(yc1 _ _ epa)
 replace hpa:=(zG yc1 hpa)
 refine λc2 Jc2 yc2 mc2=>?_
 have SG2:=SG1.trans yc2
 replace epa:=(yc2 _ _ epa)
 replace hpa:=(zG yc2 hpa)
 replace mc1:=(AV.same yc2 mc1)
 refine λc3 Jc3 yc3 mc3=>?_
 have SG3:=SG2.trans yc3
 replace epa:=(yc3 _ _ epa)
 replace hpa:=(zG yc3 hpa)
 replace mc1:=(AV.same yc3 mc1)
 replace mc2:=(AV.same yc3 mc2)
 refine λc4 Jc4 yc4 mc4=>?_
 have SG4:=SG3.trans yc4
 replace epa:=(yc4 _ _ epa)
 replace hpa:=(zG yc4 hpa)
 replace mc1:=(AV.same yc4 mc1)
 replace mc2:=(AV.same yc4 mc2)
 replace mc3:=(AV.same yc4 mc3)
 refine λc5 Jc5 yc5 mc5=>?_
 have SG5:=SG4.trans yc5
 replace epa:=(yc5 _ _ epa)
 replace hpa:=(zG yc5 hpa)
 replace mc1:=(AV.same yc5 mc1)
 replace mc2:=(AV.same yc5 mc2)
 replace mc3:=(AV.same yc5 mc3)
 replace mc4:=(AV.same yc5 mc4)
 refine λc6 Jc6 yc6 mc6=>?_
 have SG6:=SG5.trans yc6
 replace epa:=(yc6 _ _ epa)
 replace hpa:=(zG yc6 hpa)
 replace mc1:=(AV.same yc6 mc1)
 replace mc2:=(AV.same yc6 mc2)
 replace mc3:=(AV.same yc6 mc3)
 replace mc4:=(AV.same yc6 mc4)
 replace mc5:=(AV.same yc6 mc5)
 refine λc7 Jc7 yc7 mc7=>?_
 have SG7:=SG6.trans yc7
 replace epa:=(yc7 _ _ epa)
 replace hpa:=(zG yc7 hpa)
 replace mc1:=(AV.same yc7 mc1)
 replace mc2:=(AV.same yc7 mc2)
 replace mc3:=(AV.same yc7 mc3)
 replace mc4:=(AV.same yc7 mc4)
 replace mc5:=(AV.same yc7 mc5)
 replace mc6:=(AV.same yc7 mc6)
 refine ⟨_,rfl,_,_,rfl,rfl,⟨by decide,by decide,by decide⟩,_,_,rfl,rfl,(show (10:Int) ^ (20:Int).toNat≠0 by decide),_,_,rfl,rfl,(by show 2<=sizeLine; decide),λql h0ql=>?_⟩
 have yG8:=zL h0ql (HO.tup [V.int 2,V.int (0 - c.fmod (10 ^ (20:Int).toNat))])
 have eql:=zJ (H:=Jc7) (a:=ql) (o:=HO.tup [V.int 2,V.int (0 - c.fmod (10 ^ (20:Int).toNat))])
 generalize hhG8:upd Jc7 ql (HO.tup [V.int 2,V.int (0 - c.fmod (10 ^ (20:Int).toNat))])=G8 at yG8 eql |-
 have SG8:=SG7.trans yG8
 replace epa:=(yG8 _ _ epa)
 replace hpa:=(zG yG8 hpa)
 replace mc1:=(AV.same yG8 mc1)
 replace mc2:=(AV.same yG8 mc2)
 replace mc3:=(AV.same yG8 mc3)
 replace mc4:=(AV.same yG8 mc4)
 replace mc5:=(AV.same yG8 mc5)
 replace mc6:=(AV.same yG8 mc6)
 replace mc7:=(AV.same yG8 mc7)
 refine ⟨(by show 10<=sizeLine; decide),λqs h0qs=>?_⟩
 have yG9:=zL h0qs (HO.lst [c1,c2,c3,c4,c5,c6,c7,V.non,V.int 5,V.ref ql])
 have eqs:=zJ (H:=G8) (a:=qs) (o:=HO.lst [c1,c2,c3,c4,c5,c6,c7,V.non,V.int 5,V.ref ql])
 generalize hhG9:upd G8 qs (HO.lst [c1,c2,c3,c4,c5,c6,c7,V.non,V.int 5,V.ref ql])=G9 at yG9 eqs |-
 have SG9:=SG8.trans yG9
 replace epa:=(yG9 _ _ epa)
 replace hpa:=(zG yG9 hpa)
 replace mc1:=(AV.same yG9 mc1)
 replace mc2:=(AV.same yG9 mc2)
 replace mc3:=(AV.same yG9 mc3)
 replace mc4:=(AV.same yG9 mc4)
 replace mc5:=(AV.same yG9 mc5)
 replace mc6:=(AV.same yG9 mc6)
 replace mc7:=(AV.same yG9 mc7)
 replace eql:=(yG9 _ _ eql)
 have hqs:Paired (AV ac G9) [c1,c2,c3,c4,c5,c6,c7,V.non,V.int 5,V.ref ql] [(AK.tup [(AK.int 1),(AK.int 0)]),(AK.lst [(AK.int 0),(AK.int 1)]),(AK.tup [(AK.int 0)]),(AK.tup [(AK.int 0),(AK.int 1),(AK.int 2)]),(AK.tup [AK.non,(AK.int 1)]),(AK.tup [(AK.int 0),(AK.bool true)]),(AK.tup [(AK.str "0"),(AK.int 1)]),AK.non,AK.int 5,AK.tup [AK.int 2,AK.int (0 - c.fmod (10 ^ (20:Int).toNat))]]:=(Paired.cons mc1 (Paired.cons mc2 (Paired.cons mc3 (Paired.cons mc4 (Paired.cons mc5 (Paired.cons mc6 (Paired.cons mc7 (Paired.cons AV.non (Paired.cons (AV.int 5) (Paired.cons (AV.tup eql (Paired.cons (AV.int 2) (Paired.cons (AV.int (0 - c.fmod (10 ^ (20:Int).toNat))) Paired.nil))) Paired.nil))))))))))
 refine ⟨_,rfl,_,_,rfl,rfl,⟨by decide,b70.mono⟩,_,_,rfl,rfl,(show (4:Int)≠0 by decide),rfl,_,rfl,?_⟩
 refine yR (λcc=>?_) (λcc=>?_)
 ·clear cc
  refine ⟨_,rfl,pa,_,rfl,.inl ⟨zM.of epa,λq101 h0q101=>?_⟩⟩
  have yU1:=zL h0q101 (HO.tup pv)
  have eq101:=zJ (H:=G9) (a:=q101) (o:=HO.tup pv)
  generalize hhU1:upd G9 q101 (HO.tup pv)=U1 at yU1 eq101 |-
  have SU1:=SG9.trans yU1
  replace epa:=(yU1 _ _ epa)
  replace hpa:=(zG yU1 hpa)
  have hq101:Paired (AV ac U1) pv (bs.map yC):=hpa
  have lq101:List.length (bs.map yC)<=6:=lpa
  have fq101:∀ a∈(bs.map yC),FA 3 a:=fpa
  have mq101:AV ac U1 (V.ref q101) (AK.tup (bs.map yC)):=(AV.tup eq101 hq101)
  refine ⟨(by show 2<=sizeLine; decide),λq102 h0q102=>?_⟩
  have yU2:=zL h0q102 (HO.tup [V.int 0,V.int 1])
  have eq102:=zJ (H:=U1) (a:=q102) (o:=HO.tup [V.int 0,V.int 1])
  generalize hhU2:upd U1 q102 (HO.tup [V.int 0,V.int 1])=U2 at yU2 eq102 |-
  have SU2:=SU1.trans yU2
  replace epa:=(yU2 _ _ epa)
  replace hpa:=(zG yU2 hpa)
  replace mq101:=(AV.same yU2 mq101)
  have hq102:Paired (AV ac U2) [V.int 0,V.int 1] [AK.int 0,AK.int 1]:=(Paired.cons (AV.int 0) (Paired.cons (AV.int 1) Paired.nil))
  have lq102:List.length [AK.int 0,AK.int 1]<=2:=(by show 2<=2; decide)
  have fq102:∀ a∈[AK.int 0,AK.int 1],FA 2 a:=zc (FA.int _) (zc (FA.int _) (λ_ h=>nomatch h))
  have mq102:AV ac U2 (V.ref q102) (AK.tup [AK.int 0,AK.int 1]):=(AV.tup eq102 hq102)
  refine λq103 h0q103=>?_
  have yU3:=zL h0q103 (HO.dK [])
  have eq103:=zJ (H:=U2) (a:=q103) (o:=HO.dK [])
  generalize hhU3:upd U2 q103 (HO.dK [])=U3 at yU3 eq103 |-
  have SU3:=SU2.trans yU3
  replace epa:=(yU3 _ _ epa)
  replace hpa:=(zG yU3 hpa)
  replace mq101:=(AV.same yU3 mq101)
  replace mq102:=(AV.same yU3 mq102)
  refine ⟨(by show 4<=sizeLine; decide),λq104 h0q104=>?_⟩
  have yU4:=zL h0q104 (HO.lst [V.ref q101,V.non,V.ref q102,V.ref q103])
  have eq104:=zJ (H:=U3) (a:=q104) (o:=HO.lst [V.ref q101,V.non,V.ref q102,V.ref q103])
  generalize hhU4:upd U3 q104 (HO.lst [V.ref q101,V.non,V.ref q102,V.ref q103])=U4 at yU4 eq104 |-
  have SU4:=SU3.trans yU4
  replace epa:=(yU4 _ _ epa)
  replace hpa:=(zG yU4 hpa)
  replace mq101:=(AV.same yU4 mq101)
  replace mq102:=(AV.same yU4 mq102)
  replace eq103:=(yU4 _ _ eq103)
  have hq104:Paired (AV ac U4) [V.ref q101,V.non,V.ref q102,V.ref q103] [AK.tup (bs.map yC),AK.non,AK.tup [AK.int 0,AK.int 1],AK.dic]:=(Paired.cons mq101 (Paired.cons AV.non (Paired.cons mq102 (Paired.cons (AV.dic eq103) Paired.nil))))
  have lq104:List.length [AK.tup (bs.map yC),AK.non,AK.tup [AK.int 0,AK.int 1],AK.dic]<=4:=(by show 4<=4; decide)
  have fq104:∀ a∈[AK.tup (bs.map yC),AK.non,AK.tup [AK.int 0,AK.int 1],AK.dic],FA 4 a:=zc (FA.tup (Nat.le_trans lq101 (by decide)) fq101) (zc FA.non (zc (FA.mono (j:=3) (FA.tup (Nat.le_trans lq102 (by decide)) fq102) (by decide)) (zc FA.dic (λ_ h=>nomatch h))))
  have al:yH ac (λa=>wD a=false) 4 U4 [V.ref q101,V.non,V.ref q102,V.ref q103]:=wq hq104 (zg (P:=(λa=>wD a=false)) rfl (FA.mono (j:=4) (FA.tup (Nat.le_trans lq101 (by decide)) fq101) (by decide)) (zg (P:=(λa=>wD a=false)) rfl FA.non (zg (P:=(λa=>wD a=false)) rfl (FA.mono (j:=3) (FA.tup (Nat.le_trans lq102 (by decide)) fq102) (by decide)) (zg (P:=(λa=>wD a=false)) rfl FA.dic wa))))
  obtain ⟨xz,hxz,axz⟩:=wr (xs:=[V.ref q101,V.non,V.ref q102,V.ref q103]) k0 (by show _ < ((4:Nat):Int); omega)
  exact ⟨_,rfl,_,_,rfl,rfl,(show (4:Int)≠0 by decide),q104,_,_,_,rfl,rfl,zM.of eq104,axz,q _ _ SU4 (al xz hxz)⟩
 clear cc
 refine ⟨_,rfl,_,rfl,_,rfl,pa,_,rfl,zM.of epa,λq8 h0q8=>?_⟩
 rw [show zT pv none (some ((j:Nat):Int))=(List.take j pv) from wo _ _]
 have yG10:=zL h0q8 (HO.lst (List.take j pv))
 have eq8:=zJ (H:=G9) (a:=q8) (o:=HO.lst (List.take j pv))
 generalize hhG10:upd G9 q8 (HO.lst (List.take j pv))=G10 at yG10 eq8 |-
 have SG10:=SG9.trans yG10
 replace epa:=(yG10 _ _ epa)
 replace hpa:=(zG yG10 hpa)
 replace eqs:=(yG10 _ _ eqs)
 replace hqs:=(zG yG10 hqs)
 have hq8:Paired (AV ac G10) (List.take j pv) (List.take j (bs.map yC)):=wW _ hpa
 have lq8:List.length (List.take j (bs.map yC))<=6:=Nat.le_trans (vb _ _) lpa
 have fq8:∀ a∈(List.take j (bs.map yC)),FA 3 a:=vc fpa
 have al:yH ac (λa=>xK a=false) 3 G10 [c1,c2,c3,c4,c5,c6,c7,V.non,V.int 5,V.ref ql]:=wq hqs (zg (P:=(λa=>xK a=false)) rfl (FA.tup (by decide) (zc (FA.int _) (zc (FA.int _) (λ_ h=>nomatch h)))) (zg (P:=(λa=>xK a=false)) rfl (FA.lst (by decide) (zc (FA.int _) (zc (FA.int _) (λ_ h=>nomatch h)))) (zg (P:=(λa=>xK a=false)) rfl (FA.tup (by decide) (zc (FA.int _) (λ_ h=>nomatch h))) (zg (P:=(λa=>xK a=false)) rfl (FA.tup (by decide) (zc (FA.int _) (zc (FA.int _) (zc (FA.int _) (λ_ h=>nomatch h))))) (zg (P:=(λa=>xK a=false)) rfl (FA.tup (by decide) (zc FA.non (zc (FA.int _) (λ_ h=>nomatch h)))) (zg (P:=(λa=>xK a=false)) rfl (FA.tup (by decide) (zc (FA.int _) (zc (FA.bool _) (λ_ h=>nomatch h)))) (zg (P:=(λa=>xK a=false)) rfl (FA.tup (by decide) (zc (FA.str _) (zc (FA.int _) (λ_ h=>nomatch h)))) (zg (P:=(λa=>xK a=false)) rfl FA.non (zg (P:=(λa=>xK a=false)) rfl (FA.int _) (zg (P:=(λa=>xK a=false)) (by show (true && (true && decide ((2:Int)<=0 - c.fmod (10 ^ (20:Int).toNat))))=false; rw [decide_eq_false (by omega)]; rfl) (FA.tup (by show 2<=900; decide) (zc (FA.int _) (zc (FA.int _) (λ_ h=>nomatch h)))) wa))))))))))
 obtain ⟨xz,hxz,axz⟩:=wr (xs:=[c1,c2,c3,c4,c5,c6,c7,V.non,V.int 5,V.ref ql]) i0 (by show _ < ((10:Nat):Int); omega)
 obtain ⟨az,mz,wz,fz⟩:=al xz hxz
 refine ⟨_,rfl,_,rfl,_,_,rfl,rfl,(show (10:Int)≠0 by decide),qs,_,_,_,rfl,rfl,zM.of eqs,axz,(by show 1<=sizeLine; decide),λqx h0qx=>?_⟩
 have yG11:=zL h0qx (HO.lst [xz])
 have eqx:=zJ (H:=G10) (a:=qx) (o:=HO.lst [xz])
 generalize hhG11:upd G10 qx (HO.lst [xz])=G11 at yG11 eqx |-
 have SG11:=SG10.trans yG11
 replace epa:=(yG11 _ _ epa)
 replace hpa:=(zG yG11 hpa)
 replace eq8:=(yG11 _ _ eq8)
 replace hq8:=(zG yG11 hq8)
 replace mz:=(AV.same yG11 mz)
 have hqx:Paired (AV ac G11) [xz] [az]:=(Paired.cons mz Paired.nil)
 have lqx:List.length [az]<=1:=(by show 1<=1; decide)
 have fqx:∀ a∈[az],FA 3 a:=zc fz (λ_ h=>nomatch h)
 refine ⟨q8,qx,_,_,rfl,rfl,eq8,eqx,(by have:=lq8; have:=lqx; have:=Paired.length hq8; have:=Paired.length hqx; exact Nat.le_of_lt (zq (by omega))),λqy h0qy=>?_⟩
 have yG12:=zL h0qy (HO.lst ((List.take j pv)++[xz]))
 have eqy:=zJ (H:=G11) (a:=qy) (o:=HO.lst ((List.take j pv)++[xz]))
 generalize hhG12:upd G11 qy (HO.lst ((List.take j pv)++[xz]))=G12 at yG12 eqy |-
 have SG12:=SG11.trans yG12
 replace epa:=(yG12 _ _ epa)
 replace hpa:=(zG yG12 hpa)
 replace eq8:=(yG12 _ _ eq8)
 replace hq8:=(zG yG12 hq8)
 replace eqx:=(yG12 _ _ eqx)
 replace hqx:=(zG yG12 hqx)
 have hqy:Paired (AV ac G12) ((List.take j pv)++[xz]) ((List.take j (bs.map yC))++[az]):=yl hq8 hqx
 have lqy:List.length ((List.take j (bs.map yC))++[az])<=7:=(by rw [List.length_append]; omega)
 have fqy:∀ a∈((List.take j (bs.map yC))++[az]),FA 3 a:=xE fq8 fqx
 refine ⟨_,rfl,_,rfl,_,rfl,pa,_,rfl,zM.of epa,λq9 h0q9=>?_⟩
 rw [show zT pv (some ((j:Nat):Int)) none=(List.drop j pv) from wp _ _]
 have yG13:=zL h0q9 (HO.lst (List.drop j pv))
 have eq9:=zJ (H:=G12) (a:=q9) (o:=HO.lst (List.drop j pv))
 generalize hhG13:upd G12 q9 (HO.lst (List.drop j pv))=G13 at yG13 eq9 |-
 have SG13:=SG12.trans yG13
 replace epa:=(yG13 _ _ epa)
 replace hpa:=(zG yG13 hpa)
 replace eqy:=(yG13 _ _ eqy)
 replace hqy:=(zG yG13 hqy)
 have hq9:Paired (AV ac G13) (List.drop j pv) (List.drop j (bs.map yC)):=wA _ hpa
 have lq9:List.length (List.drop j (bs.map yC))<=6:=Nat.le_trans (wL _ _) lpa
 have fq9:∀ a∈(List.drop j (bs.map yC)),FA 3 a:=wM fpa
 refine ⟨_,rfl,q9,_,rfl,zM.of eq9,λq10 h0q10=>?_⟩
 rw [show zT (List.drop j pv) (some 1) none=(List.drop 1 (List.drop j pv)) from wp _ _]
 have yG14:=zL h0q10 (HO.lst (List.drop 1 (List.drop j pv)))
 have eq10:=zJ (H:=G13) (a:=q10) (o:=HO.lst (List.drop 1 (List.drop j pv)))
 generalize hhG14:upd G13 q10 (HO.lst (List.drop 1 (List.drop j pv)))=G14 at yG14 eq10 |-
 have SG14:=SG13.trans yG14
 replace epa:=(yG14 _ _ epa)
 replace hpa:=(zG yG14 hpa)
 replace eqy:=(yG14 _ _ eqy)
 replace hqy:=(zG yG14 hqy)
 replace eq9:=(yG14 _ _ eq9)
 replace hq9:=(zG yG14 hq9)
 have hq10:Paired (AV ac G14) (List.drop 1 (List.drop j pv)) (List.drop 1 (List.drop j (bs.map yC))):=wA _ hq9
 have lq10:List.length (List.drop 1 (List.drop j (bs.map yC)))<=6:=Nat.le_trans (wL _ _) lq9
 have fq10:∀ a∈(List.drop 1 (List.drop j (bs.map yC))),FA 3 a:=wM fq9
 refine ⟨qy,q10,_,_,rfl,rfl,eqy,eq10,(by have:=lqy; have:=lq10; have:=Paired.length hqy; have:=Paired.length hq10; exact Nat.le_of_lt (zq (by omega))),λqz h0qz=>?_⟩
 have yG15:=zL h0qz (HO.lst (((List.take j pv)++[xz])++(List.drop 1 (List.drop j pv))))
 have eqz:=zJ (H:=G14) (a:=qz) (o:=HO.lst (((List.take j pv)++[xz])++(List.drop 1 (List.drop j pv))))
 generalize hhG15:upd G14 qz (HO.lst (((List.take j pv)++[xz])++(List.drop 1 (List.drop j pv))))=G15 at yG15 eqz |-
 have SG15:=SG14.trans yG15
 replace epa:=(yG15 _ _ epa)
 replace hpa:=(zG yG15 hpa)
 replace eqy:=(yG15 _ _ eqy)
 replace hqy:=(zG yG15 hqy)
 replace eq10:=(yG15 _ _ eq10)
 replace hq10:=(zG yG15 hq10)
 have hqz:Paired (AV ac G15) (((List.take j pv)++[xz])++(List.drop 1 (List.drop j pv))) (((List.take j (bs.map yC))++[az])++(List.drop 1 (List.drop j (bs.map yC)))):=yl hqy hq10
 have lqz:List.length (((List.take j (bs.map yC))++[az])++(List.drop 1 (List.drop j (bs.map yC))))<=13:=(by rw [List.length_append]; omega)
 have fqz:∀ a∈(((List.take j (bs.map yC))++[az])++(List.drop 1 (List.drop j (bs.map yC)))),FA 3 a:=xE fqy fq10
 exact q _ _ SG15 ⟨_,(AV.lst eqz hqz),UT (a:=az) (List.mem_append_left _ (List.mem_append_right _ (List.mem_singleton.mpr rfl))) wz,(FA.lst (Nat.le_trans lqz (by decide)) fqz)⟩
noncomputable abbrev ki:Stmt:=xC 43
theorem Ul:yS ["_law_some"] ["_law_some"] (zQ ki):=.a
theorem Um {k:Nat} {f:Addr} {fd:FuncData} {ac ad:Addr} (ae:zS K mg "Mode" ac) (af:yy K ac) (ag:zS K mg "Thing" ad) (ah:yz K ad) (Y:zj K ac) {C1 C2:Addr} (Z:yx K mg C1 C2) (F:yT K "_law_built" "_law_built" ki f fd) (B:Bl mg) (aG:uH P w K mg base ac ["self","rows","nexts","steer","push","add","divisor"] k (YJ ac)):zP P w K mg base zX (k + 1 + 1) f fd ["_law_some"] (qc ac):=by
 refine F.ok Ul (λvs H Q E h=>?_) (λcdv A outer s H vs Q E hr h=>?_)
 ·obtain ⟨_,_,_,rfl,_⟩:=h
  rfl
 obtain ⟨sa,sv,qs,rfl,hsa,hsv,fw,l9,q⟩:=h
 refine ⟨_,(zf (zk (wc (own:=["_law_one"]) (caps:=[]) (uB rfl) rfl (wu (zB 0)) (λ_ _ _ _=>yg (i:=0) (show (["_law_one"]:List Str).Nodup by decide +kernel) rfl (Or.inl rfl)) (λ_ _ _ _=>(WA aG ae hr rfl (zA (yJ (show wI _ (wg (zM K)) from yU) (zB 0) zK (λ_ _=>rfl)) (zA (yJ (show wI _ (wg (zM K)) from yU) (zB 0) zK (λ_ _=>rfl)) (zA (yJ (show wI _ (wg (zM K)) from yU) (zB 0) zK (λ_ _=>rfl)) (zA (yJ (show wI _ (wg (zM K)) from yU) (zB 0) zK (λ_ _=>rfl)) (zA (yJ (show wI _ (wg (zM K)) from yU) (zB 0) zK (λ_ _=>rfl)) (zA (yJ (show wI _ (wg (zM K)) from yU) (zB 0) zK (λ_ _=>rfl)) zH))))))))))),?_⟩
 try dsimp only [zF,Cx.nox,Cx.wish]
 have ls:sv.length=qs.length:=Paired.length hsv
 refine ⟨_,rfl,sa,rfl,⟨_,zM.of hsa⟩,vB (K:=K) (a:=sa) (xs:=sv) (λi ys σ H'=>Paired (AV ac H') ys ((qs.take i).map P6.mode)/\(∃ o,σ=[o])/\zC H H')
  ⟨.nil,⟨none,rfl⟩,zC.refl _⟩ (λi ys σ H' hi ⟨e1,_,sm⟩=>⟨zM.of (sm _ _ hsa),by have:=Paired.length e1; rw [List.length_map,List.length_take] at this; omega⟩) (Nat.le_of_lt (zq (by omega))) ?_ ?_⟩
 ·rintro i x ys σ H' hix ⟨hys,⟨o,rfl⟩,sm⟩
  obtain ⟨q6,hq6,hx⟩:=xJ hsv hix
  have F6:=fw q6 (List.mem_of_getElem? hq6)
  obtain ⟨p,r,n,s9,pp,a,d,rfl,e,hr9,hn,hs,hp,ha,hd⟩:=(show PQ ac H' x q6 from AV.same sm hx).inv
  refine ⟨_,rfl,p,_,0,_,rfl,rfl,zM.of e,rfl,_,rfl,p,_,1,_,rfl,rfl,zM.of e,rfl,_,rfl,p,_,2,_,rfl,rfl,zM.of e,rfl,_,rfl,p,_,3,_,rfl,rfl,zM.of e,rfl,_,rfl,p,_,4,_,rfl,rfl,zM.of e,rfl,_,rfl,p,_,5,_,rfl,rfl,zM.of e,rfl,?_⟩
  intro mo2 dx hmo hdx ne
  have zm:=Z2 hmo hdx ne (HO.own mo2) (HO.ins ac dx [])
  have eo:=zJ (H:=upd H' dx (HO.own mo2)) (a:=mo2) (o:=HO.ins ac dx [])
  generalize hhN:upd (upd H' dx (HO.own mo2)) mo2 (HO.ins ac dx [])=N at zm eo |-
  refine ⟨mo2,dx,r,n,s9,pp,a,d,q6.r,q6.n,q6.s,q6.p,q6.a,q6.d,rfl,eo,hr9.same zm,hn.same zm,hs.same zm,hp.same zm,ha.same zm,hd.same zm,F6.r,F6.n,F6.s,F6.p,F6.a,λN2 sb ok=>⟨rfl,?_⟩⟩
  have s2:=Z1 zm sb hmo
  refine ⟨?_,⟨_,rfl⟩,sm.trans s2⟩
  rw [wT hq6,List.map_append]
  exact wS (R:=AV ac _) ok (zG s2 hys)
 rintro ys σ H' ⟨hys,⟨o,rfl⟩,sm⟩ l hl
 rw [List.take_of_length_le (by omega)] at hys
 have zl:=zL hl (HO.lst ys)
 exact q l ys _ (sm.trans zl) zJ (zG zl hys)
noncomputable abbrev vo:Stmt:=xC 42
theorem Yb:yS ["_law_modes","_law_cell","_law_at"] ["_law_modes","_law_cell"] (zQ vo):=.a
theorem Uo {k:Nat} {f:Addr} {fd:FuncData} {ac ad:Addr} (ae:zS K mg "Mode" ac) (af:yy K ac) (ag:zS K mg "Thing" ad) (ah:yz K ad) (Y:zj K ac) {C1 C2:Addr} (Z:yx K mg C1 C2) (F:yT K "_law_no_modes" "_law_no_modes" vo f fd) (B:Bl mg):zP P w K mg base zX (k + 1) f fd ["_law_modes","_law_cell"] (kR ac):=by
 refine F.ok Yb (λvs H Q E h=>?_) (λcdv A outer s H vs Q E hr h=>?_)
 ·obtain ⟨_,_,_,_,_,_,rfl,_⟩:=h
  rfl
 obtain ⟨ma,mv,as,c,n,w2,rfl,hm0,hma0,a1,a3,fas,isM,q⟩:=h
 conv in (yQ vo)=>whnf
 generalize hL1:(Expr.List [(Expr.Constant Const.none 0 ⟨188,36,188,40⟩),(Expr.Constant (Const.int 5) 0 ⟨188,42,188,43⟩),(Expr.List [] ⟨188,45,188,47⟩),(Expr.Constant (Const.str "mode") 0 ⟨188,49,188,55⟩)] ⟨188,35,188,56⟩)=l1
 have pl1:PE (zF zX P w K mg base ["_law_modes","_law_cell","_law_at"] "_law_no_modes" (zQ vo) f cdv A outer s H E).nox l1 (tK ac (AK.lst [AK.non,(AK.int 5),(AK.lst []),(AK.str "mode")])):=vH hL1 (zU.lst (Paired.cons zU.non (Paired.cons zU.int (Paired.cons (zU.lst Paired.nil (by decide)) (Paired.cons zU.str Paired.nil)))) (by decide))
 have sl1:∀ es,starEach (l1 :: es) (zF zX P w K mg base ["_law_modes","_law_cell","_law_at"] "_law_no_modes" (zQ vo) f cdv A outer s H E).nox.env=(false,eval l1 (zF zX P w K mg base ["_law_modes","_law_cell","_law_at"] "_law_no_modes" (zQ vo) f cdv A outer s H E).nox.env) :: starEach es (zF zX P w K mg base ["_law_modes","_law_cell","_law_at"] "_law_no_modes" (zQ vo) f cdv A outer s H E).nox.env:=vG hL1 (zU.lst (Paired.cons zU.non (Paired.cons zU.int (Paired.cons (zU.lst Paired.nil (by decide)) (Paired.cons zU.str Paired.nil)))) (by decide))
 refine ⟨_,(za (ya (i:=2) Yb.nd rfl (Or.inl rfl) (zO (ji yI) (zO (ji xu) (zB 1) zK) (zO (zw ym) (zr yF rfl B.len_ xQ (zA (zB 0) zH)) zK)))
  (za (yZ (yo xO (zO (ji yI) (zB 1) zK) zK (yb _)) (zf (zk (yJ yU (zn (zA (zn zH) (zA (wQ xn rfl B.tuple_ we (zA (zB 0) zH)) (zA wC (zA (yJ yU (zB 0) zK (λ_ _=>rfl)) zH))))) (zO (ji yI) (zO (ji xu) (zB 1) zK) zK) (λ_ _=>rfl)))) yY)
  (zf (zk (zO zh (zO zh (yc yr (zB 0) yp (yM (zB 2))) (zn (zA (yJ yU pl1 (zO (ji yI) (zO (ji xu) (zB 1) zK) zK) (λ_ _=>rfl)) zH))) (yc yr (zB 0) (yM (zB 2)) yp)))))),?_⟩
 try dsimp only [zF,Cx.nox,Cx.wish]
 have b4:Bd 10 (4:Int):=Bd.lit
 have b2:Bd 10 (2:Int):=Bd.lit
 have b8:Bd 10 (8:Int):=Bd.lit
 have lmv:mv.length=as.length:=Paired.length hma0
 have hma:=hma0
 have ema:=hm0
 have lma:List.length as<=3:=a3
 have fma:=fas
 have j0:=Int.fmod_nonneg_of_pos (c.fdiv 4) (show (0:Int) < (mv.length:Int) + 1 by omega)
 have k0:=Int.fmod_nonneg_of_pos (c.fdiv 2) (show (0:Int) < 4 by decide)
 have k1:=Int.fmod_lt_of_pos (c.fdiv 2) (show (0:Int) < 4 by decide)
 have i0:=Int.fmod_nonneg_of_pos (c.fdiv 8) (show (0:Int) < 4 by decide)
 have i1:=Int.fmod_lt_of_pos (c.fdiv 8) (show (0:Int) < 4 by decide)
 refine ⟨_,rfl,_,_,rfl,rfl,⟨by decide,b4.mono⟩,_,rfl,ma,_,rfl,.inl (zM.of ema),_,_,rfl,rfl,_,_,rfl,rfl,(show (mv.length:Int) + 1≠0 by omega),?_⟩
 obtain ⟨j,ej⟩:=Int.eq_ofNat_of_zero_le j0
 rw [show (c.fdiv 4).fmod ((mv.length:Int) + 1)=((j:Nat):Int) from ej]
 refine ⟨_,rfl,_,_,rfl,rfl,(show (2:Int)≠0 by decide),rfl,_,rfl,?_⟩
 refine yR (λcc=>?_) (λcc=>?_)
 ·clear cc
  refine ⟨(by show 0<=sizeLine; decide),λq101 h0q101=>?_⟩
  have yU1:=zL h0q101 (HO.lst ([]:List V))
  have eq101:=zJ (H:=H) (a:=q101) (o:=HO.lst ([]:List V))
  generalize hhU1:upd H q101 (HO.lst ([]:List V))=U1 at yU1 eq101 |-
  have SU1:=yU1
  replace ema:=(yU1 _ _ ema)
  replace hma:=(zG yU1 hma)
  have hq101:Paired (AV ac U1) ([]:List V) ([]:List AK):=Paired.nil
  have lq101:List.length ([]:List AK)<=0:=(by show 0<=0; decide)
  have fq101:∀ a∈([]:List AK),FA 2 a:=λ_ h=>nomatch h
  have mq101:AV ac U1 (V.ref q101) (AK.lst ([]:List AK)):=(AV.lst eq101 hq101)
  refine ⟨_,rfl,ma,_,rfl,.inl ⟨zM.of ema,λq102 h0q102=>?_⟩⟩
  have yU2:=zL h0q102 (HO.tup mv)
  have eq102:=zJ (H:=U1) (a:=q102) (o:=HO.tup mv)
  generalize hhU2:upd U1 q102 (HO.tup mv)=U2 at yU2 eq102 |-
  have SU2:=SU1.trans yU2
  replace ema:=(yU2 _ _ ema)
  replace hma:=(zG yU2 hma)
  replace mq101:=(AV.same yU2 mq101)
  have hq102:Paired (AV ac U2) mv as:=hma
  have lq102:List.length as<=3:=lma
  have fq102:∀ a∈as,FA 5 a:=fma
  have mq102:AV ac U2 (V.ref q102) (AK.tup as):=(AV.tup eq102 hq102)
  have v0:mv[0]? = some (mv[0]'(by omega)):=List.getElem?_eq_getElem _
  obtain ⟨a0,ha0,mx0⟩:=xJ hma v0
  have is0:=isM a0 (List.mem_of_getElem? ha0)
  have f0:=fas a0 (List.mem_of_getElem? ha0)
  generalize mv[0]'(by omega)=x0 at v0 mx0
  refine ⟨_,rfl,ma,_,_,_,rfl,rfl,zM.of ema,wR (j:=0) v0,(by show 4<=sizeLine; decide),λqs h0qs=>?_⟩
  have yU3:=zL h0qs (HO.lst [V.ref q101,V.ref q102,V.non,x0])
  have eqs:=zJ (H:=U2) (a:=qs) (o:=HO.lst [V.ref q101,V.ref q102,V.non,x0])
  generalize hhU3:upd U2 qs (HO.lst [V.ref q101,V.ref q102,V.non,x0])=U3 at yU3 eqs |-
  have SU3:=SU2.trans yU3
  replace ema:=(yU3 _ _ ema)
  replace hma:=(zG yU3 hma)
  replace mq101:=(AV.same yU3 mq101)
  replace mq102:=(AV.same yU3 mq102)
  replace mx0:=(AV.same yU3 mx0)
  have hqs:Paired (AV ac U3) [V.ref q101,V.ref q102,V.non,x0] [AK.lst ([]:List AK),AK.tup as,AK.non,a0]:=(Paired.cons mq101 (Paired.cons mq102 (Paired.cons AV.non (Paired.cons mx0 Paired.nil))))
  have al:yH ac (λa=>xo n w2 a=false) 7 U3 [V.ref q101,V.ref q102,V.non,x0]:=wq hqs (zg (P:=(λa=>xo n w2 a=false)) rfl (FA.mono (j:=3) (FA.lst (Nat.le_trans lq101 (by decide)) fq101) (by decide)) (zg (P:=(λa=>xo n w2 a=false)) rfl (FA.mono (j:=6) (FA.tup (Nat.le_trans lq102 (by decide)) fq102) (by decide)) (zg (P:=(λa=>xo n w2 a=false)) rfl FA.non (zg (P:=(λa=>xo n w2 a=false)) (UU is0) (FA.mono (j:=5) f0 (by decide)) wa))))
  obtain ⟨xz,hxz,axz⟩:=wr (xs:=[V.ref q101,V.ref q102,V.non,x0]) k0 (by show _ < ((4:Nat):Int); omega)
  exact ⟨_,rfl,_,_,rfl,rfl,⟨by decide,b2.mono⟩,_,_,rfl,rfl,(show (4:Int)≠0 by decide),qs,_,_,_,rfl,rfl,zM.of eqs,axz,q _ _ SU3 (al xz hxz)⟩
 clear cc
 refine ⟨_,rfl,_,rfl,_,rfl,ma,_,rfl,zM.of ema,λq1 h0q1=>?_⟩
 rw [show zT mv none (some ((j:Nat):Int))=(List.take j mv) from wo _ _]
 have yG1:=zL h0q1 (HO.lst (List.take j mv))
 have eq1:=zJ (H:=H) (a:=q1) (o:=HO.lst (List.take j mv))
 generalize hhG1:upd H q1 (HO.lst (List.take j mv))=G1 at yG1 eq1 |-
 have SG1:=yG1
 replace ema:=(yG1 _ _ ema)
 replace hma:=(zG yG1 hma)
 have hq1:Paired (AV ac G1) (List.take j mv) (List.take j as):=wW _ hma
 have lq1:List.length (List.take j as)<=3:=Nat.le_trans (vb _ _) lma
 have fq1:∀ a∈(List.take j as),FA 5 a:=vc fma
 refine λc2 Jc2 yc2 mc2=>?_
 have SG2:=SG1.trans yc2
 replace ema:=(yc2 _ _ ema)
 replace hma:=(zG yc2 hma)
 replace eq1:=(yc2 _ _ eq1)
 replace hq1:=(zG yc2 hq1)
 obtain ⟨pz,xsz,asz,ez0,ez,epz,hpz⟩:=mc2.lst_inv rfl
 subst ez0
 injection ez with ez
 subst ez
 have lz:xsz.length=4:=Paired.length hpz
 have al:yH ac (λa=>yX n w2 a=false) 5 Jc2 xsz:=wq hpz (zg (P:=(λa=>yX n w2 a=false)) rfl FA.non (zg (P:=(λa=>yX n w2 a=false)) rfl (FA.int _) (zg (P:=(λa=>yX n w2 a=false)) rfl (FA.lst (by decide) (λ_ h=>nomatch h)) (zg (P:=(λa=>yX n w2 a=false)) rfl (FA.str _) wa))))
 obtain ⟨xz,hxz,axz⟩:=wr (xs:=xsz) i0 (by rw [lz]; exact i1)
 obtain ⟨az,mz,wz,fz⟩:=al xz hxz
 refine ⟨_,rfl,_,_,rfl,rfl,⟨by decide,b8.mono⟩,_,_,rfl,rfl,(show (4:Int)≠0 by decide),pz,_,_,_,rfl,rfl,zM.of epz,axz,(by show 1<=sizeLine; decide),λqx h0qx=>?_⟩
 have yG3:=zL h0qx (HO.lst [xz])
 have eqx:=zJ (H:=Jc2) (a:=qx) (o:=HO.lst [xz])
 generalize hhG3:upd Jc2 qx (HO.lst [xz])=G3 at yG3 eqx |-
 have SG3:=SG2.trans yG3
 replace ema:=(yG3 _ _ ema)
 replace hma:=(zG yG3 hma)
 replace eq1:=(yG3 _ _ eq1)
 replace hq1:=(zG yG3 hq1)
 replace mz:=(AV.same yG3 mz)
 have hqx:Paired (AV ac G3) [xz] [az]:=(Paired.cons mz Paired.nil)
 have lqx:List.length [az]<=1:=(by show 1<=1; decide)
 have fqx:∀ a∈[az],FA 5 a:=zc fz (λ_ h=>nomatch h)
 refine ⟨q1,qx,_,_,rfl,rfl,eq1,eqx,(by have:=lq1; have:=lqx; have:=Paired.length hq1; have:=Paired.length hqx; exact Nat.le_of_lt (zq (by omega))),λqy h0qy=>?_⟩
 have yG4:=zL h0qy (HO.lst ((List.take j mv)++[xz]))
 have eqy:=zJ (H:=G3) (a:=qy) (o:=HO.lst ((List.take j mv)++[xz]))
 generalize hhG4:upd G3 qy (HO.lst ((List.take j mv)++[xz]))=G4 at yG4 eqy |-
 have SG4:=SG3.trans yG4
 replace ema:=(yG4 _ _ ema)
 replace hma:=(zG yG4 hma)
 replace eq1:=(yG4 _ _ eq1)
 replace hq1:=(zG yG4 hq1)
 replace eqx:=(yG4 _ _ eqx)
 replace hqx:=(zG yG4 hqx)
 have hqy:Paired (AV ac G4) ((List.take j mv)++[xz]) ((List.take j as)++[az]):=yl hq1 hqx
 have lqy:List.length ((List.take j as)++[az])<=4:=(by rw [List.length_append]; omega)
 have fqy:∀ a∈((List.take j as)++[az]),FA 5 a:=xE fq1 fqx
 refine ⟨_,rfl,_,rfl,_,rfl,ma,_,rfl,zM.of ema,λq3 h0q3=>?_⟩
 rw [show zT mv (some ((j:Nat):Int)) none=(List.drop j mv) from wp _ _]
 have yG5:=zL h0q3 (HO.lst (List.drop j mv))
 have eq3:=zJ (H:=G4) (a:=q3) (o:=HO.lst (List.drop j mv))
 generalize hhG5:upd G4 q3 (HO.lst (List.drop j mv))=G5 at yG5 eq3 |-
 have SG5:=SG4.trans yG5
 replace ema:=(yG5 _ _ ema)
 replace hma:=(zG yG5 hma)
 replace eqy:=(yG5 _ _ eqy)
 replace hqy:=(zG yG5 hqy)
 have hq3:Paired (AV ac G5) (List.drop j mv) (List.drop j as):=wA _ hma
 have lq3:List.length (List.drop j as)<=3:=Nat.le_trans (wL _ _) lma
 have fq3:∀ a∈(List.drop j as),FA 5 a:=wM fma
 refine ⟨qy,q3,_,_,rfl,rfl,eqy,eq3,(by have:=lqy; have:=lq3; have:=Paired.length hqy; have:=Paired.length hq3; exact Nat.le_of_lt (zq (by omega))),λqz h0qz=>?_⟩
 have yG6:=zL h0qz (HO.lst (((List.take j mv)++[xz])++(List.drop j mv)))
 have eqz:=zJ (H:=G5) (a:=qz) (o:=HO.lst (((List.take j mv)++[xz])++(List.drop j mv)))
 generalize hhG6:upd G5 qz (HO.lst (((List.take j mv)++[xz])++(List.drop j mv)))=G6 at yG6 eqz |-
 have SG6:=SG5.trans yG6
 replace ema:=(yG6 _ _ ema)
 replace hma:=(zG yG6 hma)
 replace eqy:=(yG6 _ _ eqy)
 replace hqy:=(zG yG6 hqy)
 replace eq3:=(yG6 _ _ eq3)
 replace hq3:=(zG yG6 hq3)
 have hqz:Paired (AV ac G6) (((List.take j mv)++[xz])++(List.drop j mv)) (((List.take j as)++[az])++(List.drop j as)):=yl hqy hq3
 have lqz:List.length (((List.take j as)++[az])++(List.drop j as))<=7:=(by rw [List.length_append]; omega)
 have fqz:∀ a∈(((List.take j as)++[az])++(List.drop j as)),FA 5 a:=xE fqy fq3
 exact q _ _ SG6 ⟨_,(AV.lst eqz hqz),kP (a:=az) (List.mem_append_left _ (List.mem_append_right _ (List.mem_singleton.mpr rfl))) wz,FA.mono (j:=6) (FA.lst (Nat.le_trans lqz (by decide)) fqz) (by decide)⟩
end
end K12
namespace K12
open PySem L2 Sh
section
variable {P:Program} {w:World} {K:PySem.W.Frag} {mg:Str->Option Value} {base:Heap}
noncomputable abbrev vp:Stmt:=xC 34
theorem qf:yS ["_law_e","_law_some"] ["_law_e"] (zQ vp):=.a
theorem Up {k:Nat} {f:Addr} {fd:FuncData} {ac ad:Addr} (ae:zS K mg "Mode" ac) (af:yy K ac) (ag:zS K mg "Thing" ad) (ah:yz K ad) (Y:zj K ac) {C1 C2:Addr} (Z:yx K mg C1 C2) (F:yT K "_law_word" "_law_word" vp f fd) (B:Bl mg):uK P w K mg base zX (k + 1) f fd ["_law_e"] (YW C1 C2):=by
 refine F.okH qf (λe vs H Q E h=>?_) (λe cdv A outer s H vs Q E hr h=>?_)
 ·obtain ⟨_,_,rfl,_⟩:=h
  rfl
 obtain ⟨C,b,rfl,he,hb,q⟩:=h
 obtain ⟨c2,c3,c4,c5,c6,c7,c8,c9,cS,NM,T1,T2⟩:=Z.ex
 conv in (yQ vp)=>whnf
 generalize hL1:(Expr.List [(Expr.Constant (Const.str "bad") 0 ⟨130,12,130,17⟩),(Expr.Constant (Const.str "many") 0 ⟨130,19,130,25⟩),(Expr.Constant (Const.str "") 0 ⟨130,27,130,29⟩),(Expr.Constant (Const.str "") 0 ⟨130,31,130,33⟩),(Expr.Constant (Const.str "") 0 ⟨130,35,130,37⟩),(Expr.Constant (Const.str "") 0 ⟨130,39,130,41⟩),(Expr.Constant (Const.str "") 0 ⟨130,43,130,45⟩),(Expr.Constant (Const.str "") 0 ⟨130,47,130,49⟩),(Expr.Constant (Const.str "") 0 ⟨130,51,130,53⟩),(Expr.Constant (Const.str "") 0 ⟨130,55,130,57⟩)] ⟨130,11,130,58⟩)=l1
 have pl1:PE (wn zX P w K mg base ["_law_e","_law_some"] "_law_word" (zQ vp) f cdv A outer s H E).nox l1 (tK ac (AK.lst [(AK.str "bad"),(AK.str "many"),(AK.str ""),(AK.str ""),(AK.str ""),(AK.str ""),(AK.str ""),(AK.str ""),(AK.str ""),(AK.str "")])):=vH hL1 (zU.lst (Paired.cons zU.str (Paired.cons zU.str (Paired.cons zU.str (Paired.cons zU.str (Paired.cons zU.str (Paired.cons zU.str (Paired.cons zU.str (Paired.cons zU.str (Paired.cons zU.str (Paired.cons zU.str Paired.nil)))))))))) (by decide))
 have sl1:∀ es,starEach (l1 :: es) (wn zX P w K mg base ["_law_e","_law_some"] "_law_word" (zQ vp) f cdv A outer s H E).nox.env=(false,eval l1 (wn zX P w K mg base ["_law_e","_law_some"] "_law_word" (zQ vp) f cdv A outer s H E).nox.env) :: starEach es (wn zX P w K mg base ["_law_e","_law_some"] "_law_word" (zQ vp) f cdv A outer s H E).nox.env:=vG hL1 (zU.lst (Paired.cons zU.str (Paired.cons zU.str (Paired.cons zU.str (Paired.cons zU.str (Paired.cons zU.str (Paired.cons zU.str (Paired.cons zU.str (Paired.cons zU.str (Paired.cons zU.str (Paired.cons zU.str Paired.nil)))))))))) (by decide))
 refine ⟨_,(za (ya (i:=1) qf.nd rfl (Or.inl rfl) (zn (zA (zr (show yk _ _ (wm K) from vF) rfl B.isinstance_ xG (zA (zB 0) (zA (show PE _ _ (tC (.ref C1)) from wO rfl NM.m0 rfl) zH))) (zA (zr (show yk _ _ (wm K) from vF) rfl B.isinstance_ xG (zA (zB 0) (zA (show PE _ _ (tC (.ref C2)) from wO rfl NM.m1 rfl) zH))) (zA (zr (show yk _ _ (wm K) from vF) rfl B.isinstance_ xG (zA (zB 0) (zA (show PE _ _ (tC (.ref c2)) from wO rfl NM.m2 rfl) zH))) (zA (zr (show yk _ _ (wm K) from vF) rfl B.isinstance_ xG (zA (zB 0) (zA (show PE _ _ (tC (.ref c3)) from wO rfl NM.m3 rfl) zH))) zH))))))
  (za (ya (i:=1) qf.nd rfl (Or.inl rfl) (zO zh (zB 1) (zn (zA (zr (show yk _ _ (wm K) from vF) rfl B.isinstance_ xG (zA (zB 0) (zA (show PE _ _ (tC (.ref c4)) from wO rfl NM.m4 rfl) zH))) (zA (zr (show yk _ _ (wm K) from vF) rfl B.isinstance_ xG (zA (zB 0) (zA (show PE _ _ (tC (.ref c5)) from wO rfl NM.m5 rfl) zH))) (zA (zr (show yk _ _ (wm K) from vF) rfl B.isinstance_ xG (zA (zB 0) (zA (show PE _ _ (tC (.ref c6)) from wO rfl NM.m6 rfl) zH))) (zA (zr (show yk _ _ (wm K) from vF) rfl B.isinstance_ xG (zA (zB 0) (zA (show PE _ _ (tC (.ref c7)) from wO rfl NM.m7 rfl) zH))) zH)))))))
  (za (ya (i:=1) qf.nd rfl (Or.inl rfl) (zO zh (zB 1) (zn (zA (zr (show yk _ _ (wm K) from vF) rfl B.isinstance_ xG (zA (zB 0) (zA (show PE _ _ (tC (.ref c8)) from wO rfl NM.m8 rfl) zH))) (zA (zr (show yk _ _ (wm K) from vF) rfl B.isinstance_ xG (zA (zB 0) (zA (show PE _ _ (tC (.ref c9)) from wO rfl NM.m9 rfl) zH))) zH)))))
  (za (yZ (PW.pt (wt (wF (xq (zr (show yk _ _ (Z9 K) from WP) rfl B.isinstance_ xG (zA (zB 0) (zA (wP (v:=.ty "ValueError") (u:=.type "ValueError") rfl B.ValueError_ UV rfl) zH))))) (vL (yo j8 (zr yF rfl B.len_ xQ (zA (Wt (own:=["_law_one"]) (caps:=[]) (uB rfl) hr.hd (Wr (zB 1)) (λ_ _ _ _=>yg (i:=0) (show (["_law_one"]:List Str).Nodup by decide +kernel) rfl (Or.inl rfl)) (λ_ _ _ _=>(xq (zB 0))) (λ_ _ _ _=>(zB 0))) zH)) zK (yb _))))) (zf (zk xS)) yY)
  (zf (zk (yJ yU pl1 (gW PySem.F.plainAttrs_list PySem.F.slot_list_index PySem.F.type_list_index g6 (zB 1) (zA wB zH)) (λ_ _=>rfl)))))))),?_⟩
 try dsimp only [wn,Cx.nox,Cx.wish]
 obtain ⟨j,KT,j2,eb⟩:∃ j,uM K C j C1 C2 c2 c3 c4 c5 c6 c7 c8 c9 cS/\j < 2/\b=(if j=0 then zy.bad else zy.many):=by
  rcases hb with ⟨rfl,rfl⟩ | ⟨rfl,rfl⟩
  ·exact ⟨0,T1,by decide,rfl⟩
  ·exact ⟨1,T2,by decide,rfl⟩
 refine ⟨_,rfl,e,C,C1,_,rfl,he,KT.xc,KT.k0,_,rfl,e,C,C2,_,rfl,he,KT.xc,KT.k1,_,rfl,e,C,c2,_,rfl,he,KT.xc,KT.k2,_,rfl,e,C,c3,_,rfl,he,KT.xc,KT.k3,(by show 4<=sizeLine; decide),λl1 hl1=>?_⟩
 have yG1:=zL hl1 (HO.lst [V.bl (j == 0),V.bl (j == 1),V.bl (j == 2),V.bl (j == 3)])
 have el1:=zJ (H:=H) (a:=l1) (o:=HO.lst [V.bl (j == 0),V.bl (j == 1),V.bl (j == 2),V.bl (j == 3)])
 generalize hhG1:upd H l1 (HO.lst [V.bl (j == 0),V.bl (j == 1),V.bl (j == 2),V.bl (j == 3)])=G1 at yG1 el1 |-
 have SG1:=yG1
 refine ⟨_,rfl,_,rfl,e,C,c4,_,rfl,(SG1 _ _ he),KT.xc,KT.k4,_,rfl,e,C,c5,_,rfl,(SG1 _ _ he),KT.xc,KT.k5,_,rfl,e,C,c6,_,rfl,(SG1 _ _ he),KT.xc,KT.k6,_,rfl,e,C,c7,_,rfl,(SG1 _ _ he),KT.xc,KT.k7,(by show 4<=sizeLine; decide),λl2 hl2=>?_⟩
 have yG2:=zL hl2 (HO.lst [V.bl (j == 4),V.bl (j == 5),V.bl (j == 6),V.bl (j == 7)])
 have el2:=zJ (H:=G1) (a:=l2) (o:=HO.lst [V.bl (j == 4),V.bl (j == 5),V.bl (j == 6),V.bl (j == 7)])
 generalize hhG2:upd G1 l2 (HO.lst [V.bl (j == 4),V.bl (j == 5),V.bl (j == 6),V.bl (j == 7)])=G2 at yG2 el2 |-
 have SG2:=SG1.trans yG2
 replace el1:=(yG2 _ _ el1)
 refine ⟨l1,l2,_,_,rfl,rfl,el1,el2,(by show 4 + 4<=sizeLine; decide),λl3 hl3=>?_⟩
 have yG3:=zL hl3 (HO.lst ([V.bl (j == 0),V.bl (j == 1),V.bl (j == 2),V.bl (j == 3)]++[V.bl (j == 4),V.bl (j == 5),V.bl (j == 6),V.bl (j == 7)]))
 have el3:=zJ (H:=G2) (a:=l3) (o:=HO.lst ([V.bl (j == 0),V.bl (j == 1),V.bl (j == 2),V.bl (j == 3)]++[V.bl (j == 4),V.bl (j == 5),V.bl (j == 6),V.bl (j == 7)]))
 generalize hhG3:upd G2 l3 (HO.lst ([V.bl (j == 0),V.bl (j == 1),V.bl (j == 2),V.bl (j == 3)]++[V.bl (j == 4),V.bl (j == 5),V.bl (j == 6),V.bl (j == 7)]))=G3 at yG3 el3 |-
 have SG3:=SG2.trans yG3
 replace el1:=(yG3 _ _ el1)
 replace el2:=(yG3 _ _ el2)
 replace el3:G3 l3=some (.lst [V.bl (j == 0),V.bl (j == 1),V.bl (j == 2),V.bl (j == 3),V.bl (j == 4),V.bl (j == 5),V.bl (j == 6),V.bl (j == 7)]):=el3
 refine ⟨_,rfl,_,rfl,e,C,c8,_,rfl,(SG3 _ _ he),KT.xc,KT.k8,_,rfl,e,C,c9,_,rfl,(SG3 _ _ he),KT.xc,KT.k9,(by show 2<=sizeLine; decide),λl4 hl4=>?_⟩
 have yG4:=zL hl4 (HO.lst [V.bl (j == 8),V.bl (j == 9)])
 have el4:=zJ (H:=G3) (a:=l4) (o:=HO.lst [V.bl (j == 8),V.bl (j == 9)])
 generalize hhG4:upd G3 l4 (HO.lst [V.bl (j == 8),V.bl (j == 9)])=G4 at yG4 el4 |-
 have SG4:=SG3.trans yG4
 replace el3:=(yG4 _ _ el3)
 refine ⟨l3,l4,_,_,rfl,rfl,el3,el4,(by show 8 + 2<=sizeLine; decide),λl5 hl5=>?_⟩
 have yG5:=zL hl5 (HO.lst ([V.bl (j == 0),V.bl (j == 1),V.bl (j == 2),V.bl (j == 3),V.bl (j == 4),V.bl (j == 5),V.bl (j == 6),V.bl (j == 7)]++[V.bl (j == 8),V.bl (j == 9)]))
 have el5:=zJ (H:=G4) (a:=l5) (o:=HO.lst ([V.bl (j == 0),V.bl (j == 1),V.bl (j == 2),V.bl (j == 3),V.bl (j == 4),V.bl (j == 5),V.bl (j == 6),V.bl (j == 7)]++[V.bl (j == 8),V.bl (j == 9)]))
 generalize hhG5:upd G4 l5 (HO.lst ([V.bl (j == 0),V.bl (j == 1),V.bl (j == 2),V.bl (j == 3),V.bl (j == 4),V.bl (j == 5),V.bl (j == 6),V.bl (j == 7)]++[V.bl (j == 8),V.bl (j == 9)]))=G5 at yG5 el5 |-
 have SG5:=SG4.trans yG5
 replace el3:=(yG5 _ _ el3)
 replace el4:=(yG5 _ _ el4)
 replace el5:G5 l5=some (.lst [V.bl (j == 0),V.bl (j == 1),V.bl (j == 2),V.bl (j == 3),V.bl (j == 4),V.bl (j == 5),V.bl (j == 6),V.bl (j == 7),V.bl (j == 8),V.bl (j == 9)]):=el5
 obtain ⟨bs,hbs⟩:∃ bs:List Bool,bs=[j == 0,j == 1,j == 2,j == 3,j == 4,j == 5,j == 6,j == 7,j == 8,j == 9]:=⟨_,rfl⟩
 have e5:G5 l5=some (.lst (bs.map V.bl)):=by rw [hbs]; exact el5
 have lbs:bs.length=10:=by rw [hbs]; rfl
 have fil:(bs.filter id).length=1:=by
  rw [hbs]
  rcases (show j=0\/j=1 by omega) with rfl | rfl <;> rfl
 have hj:bs[j]? = some true:=by
  rw [hbs]
  rcases (show j=0\/j=1 by omega) with rfl | rfl <;> rfl
 have hno:∀ m,m < j->bs[m]? = some false:=λm hm=>by
  have m0:m=0:=by omega
  have j1:j=1:=by omega
  rw [hbs,m0,j1]
  rfl
 clear el5
 refine ⟨_,rfl,e,C,"ValueError",rfl,(SG5 _ _ he),KT.isV,_,rfl,xU ?_⟩
 refine ⟨_,rfl,l5,rfl,⟨_,zM.of e5⟩,Wu (K:=K) (x0:=e) (C:=C) (a:=l5) (xs:=bs.map V.bl) (λi ys σ H'=>ys=((bs.take i).filter id).map V.bl/\(∃ o,σ=[o])/\H'=G5)
  ⟨rfl,⟨none,rfl⟩,rfl⟩ (λi ys σ H' hi ⟨e1,_,e3⟩=>⟨by rw [e3]; exact zM.of e5,by rw [e1,List.length_map]; exact Nat.le_trans (List.length_filter_le _ _) (by rw [List.length_take]; exact Nat.min_le_left _ _),by rw [e3]; exact (SG5 _ _ he)⟩) (by rw [List.length_map,lbs]; exact Nat.le_of_lt (zq (by decide))) ?_ ?_⟩
 ·rintro i x ys σ H' hi ⟨rfl,⟨o,rfl⟩,rfl⟩
  obtain ⟨b0,hb0,rfl⟩:=UW hi
  refine ⟨_,rfl,_,rfl,?_⟩
  rw [wT hb0,List.filter_append,List.map_append]
  cases b0 with
  | true=>exact yq rfl ⟨_,rfl,rfl,⟨_,rfl⟩,rfl⟩
  | false=>exact yK rfl ⟨by rw [show List.filter id [false]=[] from rfl,List.map_nil,List.append_nil],⟨_,rfl⟩,rfl⟩
 rintro ys σ H' ⟨rfl,⟨o,rfl⟩,hZ⟩ c0 hc0
 rw [hZ] at hc0 |-
 clear hZ
 rw [List.length_map,List.take_of_length_le (Nat.le_refl _)]
 have yG6:=zL hc0 (HO.lst ((bs.filter id).map V.bl))
 have ec0:=zJ (H:=G5) (a:=c0) (o:=HO.lst ((bs.filter id).map V.bl))
 generalize hhG6:upd G5 c0 (HO.lst ((bs.filter id).map V.bl))=G6 at yG6 ec0 |-
 have SG6:=SG5.trans yG6
 replace e5:=(yG6 _ _ e5)
 refine ⟨c0,_,rfl,.inl (zM.of ec0),rfl,_,rfl,yK (Zn (by rw [List.length_map,fil]; rfl)) ?_⟩
 refine λv J9 y9 mv=>?_
 have SG7:=SG6.trans y9
 replace e5:=(y9 _ _ e5)
 obtain ⟨pz,xsz,asz,ez0,ez,epz,hpz⟩:=mv.lst_inv rfl
 subst ez0
 injection ez with ez
 subst ez
 have lz:xsz.length=10:=Paired.length hpz
 have hx:xsz[j]? = some (xsz[j]'(by omega)):=List.getElem?_eq_getElem _
 obtain ⟨az,haz,hxz⟩:=xJ hpz hx
 have ea:az=.str b.str:=by
  rw [eb]
  rcases (show j=0\/j=1 by omega) with rfl | rfl <;> exact (Option.some.inj haz).symm
 subst ea
 have ex:xsz[j]'(by omega)=.str b.str:=by
  generalize xsz[j]'(by omega)=x9 at hxz
  cases hxz
  rfl
 rw [ex] at hx
 exact ⟨_,rfl,.inl ⟨rfl,_,zM.of e5⟩,l5,bs,j,rfl,rfl,zM.of e5,hj,hno,(by omega),pz,_,_,_,rfl,rfl,zM.of epz,wR hx,q _ SG7⟩
end
end K12
namespace K12
open PySem L2 Sh
section
variable {P:Program} {w:World} {K:PySem.W.Frag} {mg:Str->Option Value} {base:Heap}
noncomputable abbrev kj:Stmt:=xC 35
theorem qg:yS ["_law_many","_law_pushes","_law_modes","_law_word_here","_law_e"] ["_law_many","_law_pushes","_law_modes"] (zQ kj):=.a
theorem Uq {k:Nat} {f:Addr} {fd:FuncData} {ac ad:Addr} (ae:zS K mg "Mode" ac) (af:yy K ac) (ag:zS K mg "Thing" ad) (ah:yz K ad) (Y:zj K ac) {C1 C2:Addr} (Z:yx K mg C1 C2) (F:yT K "_law_said" "_law_said" kj f fd) (B:Bl mg) (x_Thing___init__:wK P w K mg base ad ["self","many","pushes","modes"] k (kG ad ac C1 C2)) (aH:ud P w K mg base "_law_word" ["_law_e"] (k + 1) (YW C1 C2)):zP P w K mg base zX (k + 1 + 1) f fd ["_law_many","_law_pushes","_law_modes"] (kT ac):=by
 refine F.ok qg (λvs H Q E h=>?_) (λcdv A outer s H vs Q E hr h=>?_)
 ·obtain ⟨_,_,_,_,_,_,_,rfl,_⟩:=h
  rfl
 obtain ⟨v1,v2,v3,m,p,ms,k2,rfl,hv1,hv2,hv3,fp,fm,q⟩:=h
 obtain ⟨c2,c3,c4,c5,c6,c7,c8,c9,cS,NM,T1,T2⟩:=Z.ex
 have hrm:=hr
 refine ⟨_,(za (ya (i:=3) qg.nd rfl (Or.inl rfl) xS)
  (za (Ww (i:=4) rfl NM.mS rfl rfl rfl qg.nd rfl rfl (WS (WQ (WU x_Thing___init__ ag hr rfl (zA (zB 0) (zA (zB 1) (zA (zB 2) zH))))) WR) (λ_=>(zf (ya (i:=3) qg.nd rfl (Or.inl rfl) (Wo aH hr rfl (zA (zB 4) zH))))))
  (zf (zk (zB 3))))),?_⟩
 try dsimp only [zF,Cx.nox,Cx.wish]
 refine ⟨_,rfl,_,rfl,_,rfl,?_⟩
 intro x dx hx hdx ne
 have zm:=Z2 hx hdx ne (HO.own x) (HO.ins ad dx [])
 have eo:=zJ (H:=upd H dx (HO.own x)) (a:=x) (o:=HO.ins ad dx [])
 generalize hhN:upd (upd H dx (HO.own x)) x (HO.ins ad dx [])=N at zm eo |-
 refine ⟨x,dx,v1,v2,v3,m,p,ms,k2,rfl,eo,hv1.same zm,hv2.same zm,hv3.same zm,fp,fm,λc1 J y=>?_,λc1 c2 J y=>?_,λc1 c2 J sb=>⟨rfl,?_⟩⟩
 ·refine ⟨C1,rfl,T1.exm,λe he=>?_⟩
  have ze:=zL he (y8 e C1)
  refine ⟨_,rfl,C1,.bad,rfl,zJ,.inl ⟨rfl,rfl⟩,λH9 s9=>?_⟩
  have z:=q _ (zm.trans (y.trans (ze.trans s9)))
  rw [qd c1] at z
  exact ⟨_,rfl,z⟩
 ·refine ⟨C2,rfl,T2.exm,λe he=>?_⟩
  have ze:=zL he (y8 e C2)
  refine ⟨_,rfl,C2,.many,rfl,zJ,.inr ⟨rfl,rfl⟩,λH9 s9=>?_⟩
  have z:=q _ (zm.trans (y.trans (ze.trans s9)))
  rw [kU c1 c2] at z
  exact ⟨_,rfl,z⟩
 ·have z:=q _ (Z1 zm sb hx)
  rw [kW c1 c2] at z
  exact ⟨_,rfl,z⟩
end
end K12
namespace K12
open PySem L2 Sh
theorem ug {C:Addr} {H:Hp} {v:V} {m:MD} (h:wE H v m):PQ C H v (zv m):=by
 obtain ⟨pl,r0,n0,sa,p0,aa,rv,nv,pv,rfl,hl,PD⟩:=h
 exact .lst hl (.cons (.lst PD.hr (kM PD.hrv)) (.cons (.lst PD.hn (ue PD.hnv)) (.cons (.lst PD.hs (xp _)) (.cons (.lst PD.hp (ue PD.hpv)) (.cons (.lst PD.ha (xp _)) (.cons (.int _) .nil))))))
theorem uN {α β γ:Type} {R:α->β->Prop} {S:α->γ->Prop} {f:β->γ} (k:∀ x y,R x y->S x (f y)):∀ {xs:List α} {ys:List β},Paired R xs ys->Paired S xs (ys.map f)
 | _,_,.nil=>.nil
 | _,_,.cons h t=>.cons (k _ _ h) (uN k t)
theorem yA {H H':Hp} {vs:List V} {bs:List (Int × Int)} (s:zC H H') (h:Paired (wJ H) vs bs):Paired (wJ H') vs bs:=Paired.mapP h λ_ _ z=>z.same s
theorem yN {H H':Hp} {vs:List V} {ms:List MD} (s:zC H H') (h:Paired (wE H) vs ms):Paired (wE H') vs ms:=Paired.mapP h λ_ _ z=>wE.same s z
inductive Yc (C:Addr) (H:Hp) (t:Addr):Prop
 | mk (l:Addr) (v1 v2 v3:V) (m p q:AK) (k:Nat) (b:zy) (e:H t=some (.tup [.ref l,.str b.str])) (el:H l=some (.lst [v1,v2,v3])) (h1:AV C H v1 m) (h2:AV C H v2 p) (h3:AV C H v3 q) (f2:FA k p) (f3:FA k q) (said:wV m p q=b):Yc C H t
structure uO (ms:List MD) (n w:Nat):Prop where
 l1:1<=ms.length
 l3:ms.length<=3
 ok:∀ m∈ms,xW m n w
 r1:∀ m∈ms,1<=m.rows.length
 r3:∀ m∈ms,m.rows.length<=3
inductive kl (C:Addr) (K:PySem.W.Frag) (vs:List V) (H:Hp) (Q:VK) (E:XK):Prop
 | mk (sc pa so:Addr) (ns:List Int) (n:Nat) (pv sv:List V) (bs:List (Int × Int)) (ms:List MD) (_:vs=[.ref sc,.int (n:Int),.ref pa,.ref so]) (_:zM K H sc (ns.map V.int)) (_:1<=n) (_:n<=3) (_:H pa=some (.lst pv)) (_:Paired (wJ H) pv bs) (_:bs.length<=6) (_:(∀ b∈bs,b.1<=b.2)) (_:H so=some (.lst sv)) (_:Paired (wE H) sv ms) (_:uO ms n bs.length) (_:∀ t H',zC H H'->Yc C H' t->Q (.ref t) H'):kl C K vs H Q E
theorem vJ {ms:List MD} {n w:Nat} (M:uO ms n w):∀ q∈ms.map zv,vI q:=λq hq=>by
 obtain ⟨m,hm,rfl⟩:=List.mem_map.mp hq
 exact qa (M.ok m hm)
theorem uh {qs:List P6} (h:∀ q∈qs,vI q) (l:qs.length<=100):FA 6 (.lst (qs.map P6.mode)):=.lst (by rw [List.length_map]; omega) λa ha=>by
 obtain ⟨q,hq,rfl⟩:=List.mem_map.mp ha
 exact kS (h q hq)
theorem ui {bs:List (Int × Int)} (h:bs.length<=6):FA 6 (.lst (bs.map yC)):=.lst (by rw [List.length_map]; omega) (kO (k:=3))
theorem uP (bs:List (Int × Int)):yL (.lst (bs.map yC))=(bs.length:Int):=by
 show ((bs.map yC).length:Int)=_
 rw [List.length_map]
theorem jk {C w1:Addr} {H:Hp} (e1:H w1=some (.lst [V.int 1])) {g:Int} (g0:0<=g) (g7:g < 7):∃ x a,xb [V.int 0,V.int 4,V.int (0 - 1),V.bl true,V.non,V.str "1",V.ref w1] g=some x/\AV C H x a/\ub a=false:=by
 rcases (show g=0\/g=1\/g=2\/g=3\/g=4\/g=5\/g=6 by omega) with e | e | e | e | e | e | e <;> subst e
 ·exact ⟨_,_,rfl,.int 0,by decide⟩
 ·exact ⟨_,_,rfl,.int 4,by decide⟩
 ·exact ⟨_,_,rfl,.int (0 - 1),by decide⟩
 ·exact ⟨_,_,rfl,.bool true,rfl⟩
 ·exact ⟨_,_,rfl,.non,rfl⟩
 ·exact ⟨_,_,rfl,.str "1",rfl⟩
 ·exact ⟨_,_,rfl,.lst e1 (.cons (.int 1) .nil),rfl⟩
theorem Ur {g:Int} (g0:0<=g) (g4:g < 4):∃ k:Nat,xb [V.int 40,V.int 41,V.int 60,V.int 41] g=some (.int (k:Int))/\1<=k/\k<=60/\(g=0->k=40)/\(g≠0->40 < k):=by
 rcases (show g=0\/g=1\/g=2\/g=3 by omega) with e | e | e | e <;> subst e
 ·exact ⟨40,rfl,by decide,by decide,λ_=>rfl,λz=>absurd rfl z⟩
 ·exact ⟨41,rfl,by decide,by decide,λz=>absurd z (by decide),λ_=>by decide⟩
 ·exact ⟨60,rfl,by decide,by decide,λz=>absurd z (by decide),λ_=>by decide⟩
 ·exact ⟨41,rfl,by decide,by decide,λz=>absurd z (by decide),λ_=>by decide⟩
theorem Us {g:Int} (g0:0<=g) (g3:g < 3):xb [V.str "made",V.str "many",V.str "many"] g=some (.str (if g=0 then zy.made else zy.many).str):=by
 rcases (show g=0\/g=1\/g=2 by omega) with e | e | e <;> subst e <;> rfl
theorem Yd {α β:Type} {R:α->β->Prop} {f:Nat->α} {g:Nat->β}:∀ {n:Nat},(∀ k,k < n->R (f k) (g k))->Paired R ((List.range n).map f) ((List.range n).map g)
 | 0,_=>.nil
 | n + 1,h=>by
  rw [List.range_succ,List.map_append,List.map_append]
  exact wS (h n (Nat.lt_succ_self n)) (Yd λk hk=>h k (Nat.lt_succ_of_lt hk))
theorem Ut (i n:Nat) (h:0 < n):(0 + (i:Int)).fmod (n:Int)=((i % n:Nat):Int):=by
 rw [Int.zero_add,Int.fmod_eq_emod_of_nonneg _ (Int.natCast_nonneg n)]
 first | rfl | exact (Int.natCast_emod i n).symm | exact (Int.natCast_mod i n).symm | norm_cast
theorem kn {α:Type} {xs:List α} {d:α} {k:Nat} (h:k < xs.length):xs[k]? = some (xs.getD k d):=by
 rw [List.getD_eq_getElem?_getD,List.getElem?_eq_getElem h]
 rfl
noncomputable def vq (k:Nat) (m:MD):P6:={ zv m with p:=.lst ((m.push.map λr=>r++List.replicate k 0).map zD) }
theorem ko {α:Type} (x:α):∀ n:Nat,(List.replicate n [x]).flatten=List.replicate n x
 | 0=>rfl
 | n + 1=>by rw [List.replicate_succ,List.flatten_cons,ko x n]; rfl
theorem Ye {m:MD} {n w k:Nat} (h:xW m n w) (e:w + k=7):∀ r∈m.push.map λr=>r++List.replicate k 0,r.length=7:=λr hr=>by
 obtain ⟨r0,h0,rfl⟩:=List.mem_map.mp hr
 rw [List.length_append,List.length_replicate,h.push.2 r0 h0,e]
theorem jm {m:MD} {n w k:Nat} (h:xW m n w) (e:w + k=7):yX (n:Int) 7 (vq k m).mode=true:=by
 have tp:zW (n:Int) ((7:Nat):Int) (.lst ((m.push.map λr=>r++List.replicate k 0).map zD))=true:=qe (by rw [List.length_map]; exact h.push.1) (Ye h e)
 show (xA (n:Int) (.lst (m.rows.map zZ)) && (zW (n:Int) (n:Int) (.lst (m.nexts.map zD)) && (zW (n:Int) 7 (.lst ((m.push.map λr=>r++List.replicate k 0).map zD)) && (zo (n:Int) (zD m.steer) && (zo (n:Int) (zD m.add) && decide (1<=m.div))))))=true
 rw [YY h.rows,qe h.nexts.1 h.nexts.2,show zW (n:Int) 7 (.lst ((m.push.map λr=>r++List.replicate k 0).map zD))=true from tp,jf h.steer,jf h.add,decide_eq_true h.div]
 rfl
theorem kq {m:MD} {n w k:Nat} (h:xW m n w) (e:w + k=7):vI (vq k m):=by
 have f:=qa h
 have n3:=h.n3
 exact ⟨f.r,f.n,f.s,.lst (by rw [List.length_map,List.length_map,h.push.1]; omega) (je (k:=1) (Ye h e) (by decide)),f.a,f.d⟩
noncomputable def uj (bs:List (Int × Int)):List (Int × Int):=(bs++List.replicate 7 (0,1)).take 7
theorem Yg (bs:List (Int × Int)):(uj bs).length=7:=by
 unfold uj
 rw [List.length_take,List.length_append,List.length_replicate]
 omega
theorem Uu {bs:List (Int × Int)} (h:∀ b∈bs,b.1<=b.2):∀ b∈uj bs,b.1<=b.2:=λb hb=>by
 rcases List.mem_append.mp (List.mem_of_mem_take hb) with hb | hb
 ·exact h b hb
 ·rw [List.eq_of_mem_replicate hb]
  decide
theorem Yh {H:Hp} {t:Addr} (h:H t=some (.tup [.int 0,.int 1])):∀ n:Nat,Paired (wJ H) (List.replicate n (V.ref t)) (List.replicate n (0,1))
 | 0=>.nil
 | n + 1=>.cons ⟨t,rfl,h⟩ (Yh h n)
theorem kr {qs:List P6} {n w:Int} (h0:qs≠[]) (h:∀ q∈qs,yX n w q.mode=true):xo n w (.lst (qs.map P6.mode))=true:=UY (λz=>h0 (List.map_eq_nil_iff.mp z)) λa ha=>by
 obtain ⟨q,hq,rfl⟩:=List.mem_map.mp ha
 exact h q hq
theorem w7 {X:Cx} {l:Expr} (h:(Expr.List [(Expr.Constant (Const.int 0) 0 ⟨199,18,199,19⟩),(Expr.Constant (Const.int 4) 0 ⟨199,21,199,22⟩),(Expr.BinOp (Expr.Constant (Const.int 0) 0 ⟨199,24,199,25⟩) Operator.Sub (Expr.Constant (Const.int 1) 0 ⟨199,28,199,29⟩) ⟨199,24,199,29⟩),(Expr.Constant (Const.bool true) 0 ⟨199,31,199,35⟩),(Expr.Constant Const.none 0 ⟨199,37,199,41⟩),(Expr.Constant (Const.str "1") 0 ⟨199,43,199,46⟩),(Expr.List [(Expr.Constant (Const.int 1) 0 ⟨199,49,199,50⟩)] ⟨199,48,199,51⟩)] ⟨199,17,199,52⟩)=l):∃ t,PE X l t/\∀ σ H Q,(∀ w1,H w1=none->∀ w2,(upd H w1 (HO.lst [V.int 1])) w2=none->Q (.ref w2) (upd (upd H w1 (HO.lst [V.int 1])) w2 (HO.lst [V.int 0,V.int 4,V.int (0 - 1),V.bl true,V.non,V.str "1",V.ref w1])))->t σ H Q:=by
 subst h
 have a6:=(show PE X (Expr.List [(Expr.Constant (Const.int 1) 0 ⟨199,49,199,50⟩)] ⟨199,48,199,51⟩) _ from zn (zA zK zH))
 have p6:=(show PA X [(Expr.List [(Expr.Constant (Const.int 1) 0 ⟨199,49,199,50⟩)] ⟨199,48,199,51⟩)] _ from zA a6 zH)
 have a5:=(show PE X (Expr.Constant (Const.str "1") 0 ⟨199,43,199,46⟩) _ from xS)
 have p5:=(show PA X [(Expr.Constant (Const.str "1") 0 ⟨199,43,199,46⟩),(Expr.List [(Expr.Constant (Const.int 1) 0 ⟨199,49,199,50⟩)] ⟨199,48,199,51⟩)] _ from zA a5 p6)
 have a4:=(show PE X (Expr.Constant Const.none 0 ⟨199,37,199,41⟩) _ from wC)
 have p4:=(show PA X [(Expr.Constant Const.none 0 ⟨199,37,199,41⟩),(Expr.Constant (Const.str "1") 0 ⟨199,43,199,46⟩),(Expr.List [(Expr.Constant (Const.int 1) 0 ⟨199,49,199,50⟩)] ⟨199,48,199,51⟩)] _ from zA a4 p5)
 have a3:=(show PE X (Expr.Constant (Const.bool true) 0 ⟨199,31,199,35⟩) _ from wB)
 have p3:=(show PA X [(Expr.Constant (Const.bool true) 0 ⟨199,31,199,35⟩),(Expr.Constant Const.none 0 ⟨199,37,199,41⟩),(Expr.Constant (Const.str "1") 0 ⟨199,43,199,46⟩),(Expr.List [(Expr.Constant (Const.int 1) 0 ⟨199,49,199,50⟩)] ⟨199,48,199,51⟩)] _ from zA a3 p4)
 have a2:=(show PE X (Expr.BinOp (Expr.Constant (Const.int 0) 0 ⟨199,24,199,25⟩) Operator.Sub (Expr.Constant (Const.int 1) 0 ⟨199,28,199,29⟩) ⟨199,24,199,29⟩) _ from (zO (zw wx) zK zK))
 have p2:=(show PA X [(Expr.BinOp (Expr.Constant (Const.int 0) 0 ⟨199,24,199,25⟩) Operator.Sub (Expr.Constant (Const.int 1) 0 ⟨199,28,199,29⟩) ⟨199,24,199,29⟩),(Expr.Constant (Const.bool true) 0 ⟨199,31,199,35⟩),(Expr.Constant Const.none 0 ⟨199,37,199,41⟩),(Expr.Constant (Const.str "1") 0 ⟨199,43,199,46⟩),(Expr.List [(Expr.Constant (Const.int 1) 0 ⟨199,49,199,50⟩)] ⟨199,48,199,51⟩)] _ from zA a2 p3)
 have a1:=(show PE X (Expr.Constant (Const.int 4) 0 ⟨199,21,199,22⟩) _ from zK)
 have p1:=(show PA X [(Expr.Constant (Const.int 4) 0 ⟨199,21,199,22⟩),(Expr.BinOp (Expr.Constant (Const.int 0) 0 ⟨199,24,199,25⟩) Operator.Sub (Expr.Constant (Const.int 1) 0 ⟨199,28,199,29⟩) ⟨199,24,199,29⟩),(Expr.Constant (Const.bool true) 0 ⟨199,31,199,35⟩),(Expr.Constant Const.none 0 ⟨199,37,199,41⟩),(Expr.Constant (Const.str "1") 0 ⟨199,43,199,46⟩),(Expr.List [(Expr.Constant (Const.int 1) 0 ⟨199,49,199,50⟩)] ⟨199,48,199,51⟩)] _ from zA a1 p2)
 have a0:=(show PE X (Expr.Constant (Const.int 0) 0 ⟨199,18,199,19⟩) _ from zK)
 have p0:=(show PA X [(Expr.Constant (Const.int 0) 0 ⟨199,18,199,19⟩),(Expr.Constant (Const.int 4) 0 ⟨199,21,199,22⟩),(Expr.BinOp (Expr.Constant (Const.int 0) 0 ⟨199,24,199,25⟩) Operator.Sub (Expr.Constant (Const.int 1) 0 ⟨199,28,199,29⟩) ⟨199,24,199,29⟩),(Expr.Constant (Const.bool true) 0 ⟨199,31,199,35⟩),(Expr.Constant Const.none 0 ⟨199,37,199,41⟩),(Expr.Constant (Const.str "1") 0 ⟨199,43,199,46⟩),(Expr.List [(Expr.Constant (Const.int 1) 0 ⟨199,49,199,50⟩)] ⟨199,48,199,51⟩)] _ from zA a0 p1)
 exact ⟨_,zn p0,λσ H Q q=>⟨_,_,rfl,rfl,(by show 1<=sizeLine; decide),λw1 hw1=>⟨(by show 7<=sizeLine; decide),λw2 hw2=>q w1 hw1 w2 hw2⟩⟩⟩
section
variable {P:Program} {w:World} {K:PySem.W.Frag} {mg:Str->Option Value} {base:Heap}
noncomputable abbrev uQ:Stmt:=xC 44
theorem vd:yS ["_law_script","_law_many","_law_pushes","_law_some","_law_cell","_law_way","_law_at","_law_bad","_law_wrong","_law_count","_law_modes","_law_more"] ["_law_script","_law_many","_law_pushes","_law_some"] (zQ uQ):=.a
theorem Uv {k:Nat} {f:Addr} {fd:FuncData} {ac ad:Addr} (ae:zS K mg "Mode" ac) (af:yy K ac) (ag:zS K mg "Thing" ad) (ah:yz K ad) (Y:zj K ac) {C1 C2:Addr} (Z:yx K mg C1 C2) (F:yT K "_law_case" "_law_case" uQ f fd) (B:Bl mg) (ap:Fn P w K mg base "_law_cell_at" ["_law_script","_law_k"] k (qM K)) (aI:Fn P w K mg base "_law_spoilt" ["_law_parts_here","_law_cell"] k (kN ac)) (ao:Fn P w K mg base "_law_built" ["_law_some"] k (qc ac)) (aJ:Fn P w K mg base "_law_no_pushes" ["_law_pushes","_law_cell"] k (kQ ac)) (aK:Fn P w K mg base "_law_no_modes" ["_law_modes","_law_cell"] k (kR ac)):zP P w K mg base zX (k + 1) f fd ["_law_script","_law_many","_law_pushes","_law_some"] (kl ac K):=by
 refine F.ok vd (λvs H Q E h=>?_) (λcdv A outer s H vs Q E hr h=>?_)
 ·obtain ⟨_,_,_,_,_,_,_,_,_,rfl,_⟩:=h
  rfl
 obtain ⟨sc,pa,so,ns,n,pv,sv,bs,ms,rfl,hS,n1,n3,hpa,hpv,b6,bo,hso,hsv,M,q⟩:=h
 conv in (yQ uQ)=>whnf
 generalize hL1:(Expr.List [(Expr.Constant (Const.int 0) 0 ⟨199,18,199,19⟩),(Expr.Constant (Const.int 4) 0 ⟨199,21,199,22⟩),(Expr.BinOp (Expr.Constant (Const.int 0) 0 ⟨199,24,199,25⟩) Operator.Sub (Expr.Constant (Const.int 1) 0 ⟨199,28,199,29⟩) ⟨199,24,199,29⟩),(Expr.Constant (Const.bool true) 0 ⟨199,31,199,35⟩),(Expr.Constant Const.none 0 ⟨199,37,199,41⟩),(Expr.Constant (Const.str "1") 0 ⟨199,43,199,46⟩),(Expr.List [(Expr.Constant (Const.int 1) 0 ⟨199,49,199,50⟩)] ⟨199,48,199,51⟩)] ⟨199,17,199,52⟩)=l1
 obtain ⟨t7,pl1,r7⟩:=w7 (X:=(zF zX P w K mg base ["_law_script","_law_many","_law_pushes","_law_some","_law_cell","_law_way","_law_at","_law_bad","_law_wrong","_law_count","_law_modes","_law_more"] "_law_case" (zQ uQ) f cdv A outer s H E).nox) hL1
 refine ⟨_,(za (ya (i:=4) vd.nd rfl (Or.inl rfl) (yE ap hr rfl (zA (zB 0) (zA zK zH))))
  (za (ya (i:=5) vd.nd rfl (Or.inl rfl) (zO (ji yI) (yE ap hr rfl (zA (zB 0) (zA zK zH))) zK))
  (za (yZ (yo (zw gF) (zB 5) zK (yb _)) (za (ya (i:=6) vd.nd rfl (Or.inl rfl) (zO (ji yI) (zB 4) (zr yF rfl B.len_ xQ (zA (zB 3) zH))))
   (za (ya (i:=7) vd.nd rfl (Or.inl rfl) (zO zh (zO zh (yc yr (zB 3) yp (yM (zB 6))) (zn (zA (yE aI hr rfl (zA (yJ yU (zB 3) (zB 6) (λ_ _=>rfl)) (zA (zO (ji xu) (zB 4) zK) zH))) zH))) (yc yr (zB 3) (yM (zO (zw ym) (zB 6) zK)) yp)))
   (zf (zk (xi (zA (zn (zA (zB 1) (zA (zB 2) (zA (yE ao hr rfl (zA (zB 7) zH)) zH)))) (zA xS zH))))))) yY)
  (za (yZ (yo xO (zB 5) zK (yb _)) (zf (zk (xi (zA (zn (zA (yJ yU pl1 (zO (ji yI) (zB 4) zK) (λ_ _=>rfl)) (zA (zB 2) (zA (yE ao hr rfl (zA (zB 3) zH)) zH)))) (zA xS zH))))) yY)
  (za (yZ (yo xO (zB 5) zK (yb _)) (za (ya (i:=8) vd.nd rfl (Or.inl rfl) (yE aJ hr rfl (zA (zB 2) (zA (zB 4) zH))))
   (zf (zk (xi (zA (zn (zA (zB 1) (zA (zB 8) (zA (yE ao hr rfl (zA (zB 3) zH)) zH)))) (zA xS zH)))))) yY)
  (za (yZ (yo xO (zB 5) zK (yb _)) (zf (zk (xi (zA (zn (zA (zB 1) (zA (zB 2) (zA (yE aK hr rfl (zA (yE ao hr rfl (zA (zB 3) zH)) (zA (zB 4) zH))) zH)))) (zA xS zH))))) yY)
  (za (yZ (yo xO (zB 5) zK (yb _)) (za (ya (i:=9) vd.nd rfl (Or.inl rfl) (yJ yU (zn (zA zK (zA zK (zA zK (zA zK zH))))) (zO (ji yI) (zB 4) zK) (λ_ _=>rfl)))
   (za (ya (i:=10) vd.nd rfl (Or.inl rfl) (yE ao hr rfl (zA (wc (own:=["_law_k"]) (caps:=[(3,"_law_some")]) (vD (S:=zQ uQ) (N:=["_law_script","_law_many","_law_pushes","_law_some","_law_cell","_law_way","_law_at","_law_bad","_law_wrong","_law_count","_law_modes","_law_more"]) rfl (by decide +kernel) rfl ⟨_,rfl⟩ rfl (by decide +kernel) (by decide +kernel)) rfl (vO rfl B.range_ (zA (zB 9) zH)) (λ_ _ _ _=>yg (i:=0) (show (["_law_k","_law_some"]:List Str).Nodup by decide +kernel) rfl (Or.inl rfl)) (λ_ _ _ _=>(yJ (show wI _ (wg (zM K)) from yU) (zB 1) (zO (ji yI) (zB 0) (zr (show yk _ _ (wj K) from yF) rfl B.len_ xQ (zA (zB 1) zH))) (λ_ _=>rfl)))) zH)))
   (za (yZ (yo xO (zO (ji yI) (zB 4) zK) zK (yb _)) (zf (zk (xi (zA (zn (zA (zB 1) (zA (zB 2) (zA (zO zh (zB 10) (zn (zA wC zH))) zH)))) (zA xS zH))))) yY)
   (zf (zk (xi (zA (zn (zA (zB 1) (zA (zB 2) (zA (zB 10) zH)))) (zA (yJ yU (zn (zA xS (zA xS (zA xS zH)))) (zO (ji yI) (zB 4) zK) (λ_ _=>rfl)) zH)))))))) yY)
  (za (X6 (i:=11) vd.nd rfl rfl (own:=["_law_parts_here"]) (caps:=[(2,"_law_pushes")]) (X7 (S:=zQ uQ) (N:=["_law_script","_law_many","_law_pushes","_law_some","_law_cell","_law_way","_law_at","_law_bad","_law_wrong","_law_count","_law_modes","_law_more"]) rfl (by decide +kernel) rfl ⟨_,rfl⟩ rfl (by decide +kernel) (by decide +kernel)) rfl (wu (zB 3)) (λ_ _ _ _=>yg (i:=0) (show (["_law_parts_here","_law_pushes"]:List Str).Nodup by decide +kernel) rfl (Or.inl rfl)) (λ_ _ _ _=>(zO zh (zO zh (yc (show w4 _ (xx K) from yr) (zB 0) yp (yM zK)) (zn (zA (X5 (own:=["_law_one"]) (caps:=[(1,"_law_pushes")]) (X8 rfl (by decide +kernel) (by decide +kernel) (by decide +kernel) (by decide +kernel)) rfl (show PI _ _ _ (ZG K _) from wu (yJ (show wI _ (wg (zM K)) from yU) (zB 0) zK (λ_ _=>rfl))) (λ_ _ _ _=>yg (i:=0) (show (["_law_one","_law_pushes"]:List Str).Nodup by decide +kernel) rfl (Or.inl rfl)) (λ_ _ _ _=>(zO zh (zB 0) (zO jP (zn (zA zK zH)) (zO (zw wx) zK (zr (show yk _ _ (wj K) from yF) rfl B.len_ xQ (zA (zB 1) zH))))))) zH))) (yc (show w4 _ (xx K) from yr) (zB 0) (yM zK) yp))) rfl)
  (zf (zk (xi (zA (zn (zA (zB 1) (zA (yc yr (zO zh (zB 2) (zO jP (zn (zA (xi (zA zK (zA zK zH))) zH)) zK)) yp (yM zK)) (zA (yE ao hr rfl (zA (zB 11) zH)) zH)))) (zA xS zH))))))))))))),?_⟩
 try dsimp only [zF,Cx.nox,Cx.wish]
 have lpv:pv.length=bs.length:=Paired.length hpv
 have lsv:sv.length=ms.length:=Paired.length hsv
 have M1:=M.l1
 have M3:=M.l3
 have b3:Bd 10 (3:Int):=Bd.lit
 refine ⟨_,rfl,sc,ns,3,rfl,hS,(by decide),?_⟩
 refine ⟨_,rfl,sc,ns,2,rfl,hS,(by decide),_,_,rfl,rfl,(show (8:Int)≠0 by decide),?_⟩
 have w0:=Int.fmod_nonneg_of_pos (vE ns 2) (show (0:Int) < 8 by decide)
 have w8:=Int.fmod_lt_of_pos (vE ns 2) (show (0:Int) < 8 by decide)
 generalize hc0:vE ns 3=c
 generalize hw0:(vE ns 2).fmod 8=wy at w0 w8 |-
 refine ⟨_,rfl,_,_,rfl,rfl,_,rfl,?_⟩
 refine yR (λcc=>?_) (λcc=>?_)
 ·clear cc
  have p0:=Int.fmod_nonneg_of_pos c (show (0:Int) < (sv.length:Int) by omega)
  have p1:=Int.fmod_lt_of_pos c (show (0:Int) < (sv.length:Int) by omega)
  refine ⟨_,rfl,_,rfl,so,_,rfl,.inl (zM.of hso),_,_,rfl,rfl,(show (sv.length:Int)≠0 by omega),?_⟩
  obtain ⟨j,ej⟩:=Int.eq_ofNat_of_zero_le p0
  rw [show c.fmod (sv.length:Int)=((j:Nat):Int) from ej]
  have jl:j < sv.length:=by omega
  have hvj:sv[j]? = some sv[j]:=List.getElem?_eq_getElem jl
  obtain ⟨mj,hmj,hPj⟩:=xJ hsv hvj
  have mm:=List.mem_of_getElem? hmj
  refine ⟨_,rfl,_,rfl,_,rfl,so,_,rfl,zM.of hso,λq1 hq1=>?_⟩
  rw [show zT sv none (some ((j:Nat):Int))=sv.take j from wo _ _]
  have yA1:=zL hq1 (HO.lst (sv.take j))
  have eq1:=zJ (H:=H) (a:=q1) (o:=HO.lst (sv.take j))
  generalize hhA1:upd H q1 (HO.lst (sv.take j))=A1 at yA1 eq1 |-
  have SA1:=yA1
  replace hpa:=(yA1 _ _ hpa)
  replace hpv:=(yA yA1 hpv)
  replace hso:=(yA1 _ _ hso)
  replace hsv:=(yN yA1 hsv)
  replace hPj:=(wE.same yA1 hPj)
  refine ⟨_,rfl,_,rfl,so,_,_,_,rfl,rfl,zM.of hso,wR hvj,_,rfl,_,_,rfl,rfl,⟨by decide,b3.mono⟩,sv[j],mj,_,n,bs.length,rfl,hPj,M.ok mj mm,n1,b6,M.r1 mj mm,M.r3 mj mm,λv9 q6 J1 y1 hav hno fw=>?_⟩
  have SA2:=SA1.trans y1
  replace hpa:=(y1 _ _ hpa)
  replace hpv:=(yA y1 hpv)
  replace hso:=(y1 _ _ hso)
  replace hsv:=(yN y1 hsv)
  replace hPj:=(wE.same y1 hPj)
  replace eq1:=(y1 _ _ eq1)
  refine ⟨(by show 1<=sizeLine; decide),λq2 hq2=>?_⟩
  have yA3:=zL hq2 (HO.lst [v9])
  have eq2:=zJ (H:=J1) (a:=q2) (o:=HO.lst [v9])
  generalize hhA3:upd J1 q2 (HO.lst [v9])=A3 at yA3 eq2 |-
  have SA3:=SA2.trans yA3
  replace hpa:=(yA3 _ _ hpa)
  replace hpv:=(yA yA3 hpv)
  replace hso:=(yA3 _ _ hso)
  replace hsv:=(yN yA3 hsv)
  replace eq1:=(yA3 _ _ eq1)
  replace hav:=(AV.same yA3 hav)
  refine ⟨q1,q2,_,_,rfl,rfl,eq1,eq2,Nat.le_of_lt (zq (by rw [List.length_take]; show _ + 1<=1000; omega)),λq3 hq3=>?_⟩
  have yA4:=zL hq3 (HO.lst (sv.take j++[v9]))
  have eq3:=zJ (H:=A3) (a:=q3) (o:=HO.lst (sv.take j++[v9]))
  generalize hhA4:upd A3 q3 (HO.lst (sv.take j++[v9]))=A4 at yA4 eq3 |-
  have SA4:=SA3.trans yA4
  replace hpa:=(yA4 _ _ hpa)
  replace hpv:=(yA yA4 hpv)
  replace hso:=(yA4 _ _ hso)
  replace hsv:=(yN yA4 hsv)
  replace hav:=(AV.same yA4 hav)
  refine ⟨_,rfl,_,rfl,_,_,rfl,rfl,_,rfl,so,_,rfl,zM.of hso,λq4 hq4=>?_⟩
  rw [show zT sv (some (((j:Nat):Int) + 1)) none=sv.drop (j + 1) from jb _ _]
  have yA5:=zL hq4 (HO.lst (sv.drop (j + 1)))
  have eq4:=zJ (H:=A4) (a:=q4) (o:=HO.lst (sv.drop (j + 1)))
  generalize hhA5:upd A4 q4 (HO.lst (sv.drop (j + 1)))=A5 at yA5 eq4 |-
  have SA5:=SA4.trans yA5
  replace hpa:=(yA5 _ _ hpa)
  replace hpv:=(yA yA5 hpv)
  replace hso:=(yA5 _ _ hso)
  replace hsv:=(yN yA5 hsv)
  replace hav:=(AV.same yA5 hav)
  replace eq3:=(yA5 _ _ eq3)
  refine ⟨q3,q4,_,_,rfl,rfl,eq3,eq4,Nat.le_of_lt (zq (by rw [List.length_append,List.length_take,List.length_drop]; show _ + 1 + _<=1000; omega)),λq5 hq5=>?_⟩
  have yA6:=zL hq5 (HO.lst (sv.take j++[v9]++sv.drop (j + 1)))
  have eq5:=zJ (H:=A5) (a:=q5) (o:=HO.lst (sv.take j++[v9]++sv.drop (j + 1)))
  generalize hhA6:upd A5 q5 (HO.lst (sv.take j++[v9]++sv.drop (j + 1)))=A6 at yA6 eq5 |-
  have SA6:=SA5.trans yA6
  replace hpa:=(yA6 _ _ hpa)
  replace hpv:=(yA yA6 hpv)
  replace hso:=(yA6 _ _ hso)
  replace hsv:=(yN yA6 hsv)
  replace hav:=(AV.same yA6 hav)
  have hPQ:Paired (PQ ac A6) sv (ms.map zv):=uN (λ_ _ z=>ug z) hsv
  have hqs:Paired (PQ ac A6) (sv.take j++[v9]++sv.drop (j + 1)) ((ms.map zv).take j++[q6]++(ms.map zv).drop (j + 1)):=yl (yl (wW _ hPQ) (.cons hav .nil)) (wA _ hPQ)
  have fws:∀ q∈(ms.map zv).take j++[q6]++(ms.map zv).drop (j + 1),vI q:=λq hq=>by
   rcases List.mem_append.mp hq with hq | hq
   ·rcases List.mem_append.mp hq with hq | hq
    ·exact vJ M q (List.mem_of_mem_take hq)
    ·rw [List.mem_singleton.mp hq]
     exact fw
   ·exact vJ M q (List.mem_of_mem_drop hq)
  have l9:((ms.map zv).take j++[q6]++(ms.map zv).drop (j + 1)).length<=100:=by
   rw [List.length_append,List.length_append,List.length_take,List.length_drop,List.length_map]
   show _ + 1 + _<=100
   omega
  have q6m:q6.mode∈((ms.map zv).take j++[q6]++(ms.map zv).drop (j + 1)).map P6.mode:=List.mem_map.mpr ⟨q6,List.mem_append_left _ (List.mem_append_right _ (List.mem_singleton.mpr rfl)),rfl⟩
  generalize hQ:(ms.map zv).take j++[q6]++(ms.map zv).drop (j + 1)=qs at hqs fws l9 q6m
  clear hPQ
  refine ⟨_,rfl,_,rfl,_,rfl,q5,_,qs,rfl,eq5,hqs,fws,l9,λbl lvB JB yB ebl hB=>?_⟩
  have SA7:=SA6.trans yB
  replace hpa:=(yB _ _ hpa)
  replace hpv:=(yA yB hpv)
  replace hso:=(yB _ _ hso)
  replace hsv:=(yN yB hsv)
  replace hav:=(AV.same yB hav)
  replace eq5:=(yB _ _ eq5)
  refine ⟨(by show 3<=sizeLine; decide),λl3 hl3=>?_⟩
  have yA8:=zL hl3 (HO.lst [V.int (n:Int),V.ref pa,V.ref bl])
  have el3:=zJ (H:=JB) (a:=l3) (o:=HO.lst [V.int (n:Int),V.ref pa,V.ref bl])
  generalize hhA8:upd JB l3 (HO.lst [V.int (n:Int),V.ref pa,V.ref bl])=A8 at yA8 el3 |-
  have SA8:=SA7.trans yA8
  replace hpa:=(yA8 _ _ hpa)
  replace hpv:=(yA yA8 hpv)
  replace hso:=(yA8 _ _ hso)
  replace hsv:=(yN yA8 hsv)
  replace hav:=(AV.same yA8 hav)
  replace ebl:=(yA8 _ _ ebl)
  replace hB:=(zG yA8 hB)
  refine ⟨(by show 2<=sizeLine; decide),λtt htt=>?_⟩
  have yA9:=zL htt (HO.tup [V.ref l3,V.str "bad"])
  have ett:=zJ (H:=A8) (a:=tt) (o:=HO.tup [V.ref l3,V.str "bad"])
  generalize hhA9:upd A8 tt (HO.tup [V.ref l3,V.str "bad"])=A9 at yA9 ett |-
  have SA9:=SA8.trans yA9
  replace hpa:=(yA9 _ _ hpa)
  replace hpv:=(yA yA9 hpv)
  replace hso:=(yA9 _ _ hso)
  replace hsv:=(yN yA9 hsv)
  replace hav:=(AV.same yA9 hav)
  replace ebl:=(yA9 _ _ ebl)
  replace hB:=(zG yA9 hB)
  replace el3:=(yA9 _ _ el3)
  exact q tt _ SA9 ⟨l3,_,_,_,(AK.int (n:Int)),(AK.lst (bs.map yC)),_,6,zy.bad,ett,el3,(.int _),(AV.lst hpa (vk hpv)),(.lst ebl hB),(ui b6),(uh fws l9),(kZ (by rw [uP]; exact kP q6m hno))⟩
 refine ⟨_,rfl,rfl,_,rfl,?_⟩
 refine yR (λcc=>?_) (λcc=>?_)
 ·clear cc
  have p0:=Int.fmod_nonneg_of_pos c (show (0:Int) < 7 by decide)
  have p1:=Int.fmod_lt_of_pos c (show (0:Int) < 7 by decide)
  refine r7 _ _ _ λw1 hw1=>?_
  have yB1:=zL hw1 (HO.lst [V.int 1])
  have ew1:=zJ (H:=H) (a:=w1) (o:=HO.lst [V.int 1])
  generalize hhB1:upd H w1 (HO.lst [V.int 1])=B1 at yB1 ew1 |-
  have SB1:=yB1
  replace hpa:=(yB1 _ _ hpa)
  replace hpv:=(yA yB1 hpv)
  replace hso:=(yB1 _ _ hso)
  replace hsv:=(yN yB1 hsv)
  intro w2 hw2
  have yB2:=zL hw2 (HO.lst [V.int 0,V.int 4,V.int (0 - 1),V.bl true,V.non,V.str "1",V.ref w1])
  have ew2:=zJ (H:=B1) (a:=w2) (o:=HO.lst [V.int 0,V.int 4,V.int (0 - 1),V.bl true,V.non,V.str "1",V.ref w1])
  generalize hhB2:upd B1 w2 (HO.lst [V.int 0,V.int 4,V.int (0 - 1),V.bl true,V.non,V.str "1",V.ref w1])=B2 at yB2 ew2 |-
  have SB2:=SB1.trans yB2
  replace hpa:=(yB2 _ _ hpa)
  replace hpv:=(yA yB2 hpv)
  replace hso:=(yB2 _ _ hso)
  replace hsv:=(yN yB2 hsv)
  replace ew1:=(yB2 _ _ ew1)
  obtain ⟨x7,a7,at7,hx7,no7⟩:=jk (C:=ac) ew1 p0 p1
  refine ⟨_,rfl,_,_,rfl,rfl,(show (7:Int)≠0 by decide),w2,_,_,_,rfl,rfl,zM.of ew2,at7,?_⟩
  refine ⟨_,rfl,_,rfl,so,_,(ms.map zv),rfl,hso,(uN (λ_ _ z=>ug z) hsv),(vJ M),(by rw [List.length_map]; omega),λbl lvB JB yB ebl hB=>?_⟩
  have SB3:=SB2.trans yB
  replace hpa:=(yB _ _ hpa)
  replace hpv:=(yA yB hpv)
  replace hso:=(yB _ _ hso)
  replace hsv:=(yN yB hsv)
  replace hx7:=(AV.same yB hx7)
  refine ⟨(by show 3<=sizeLine; decide),λl3 hl3=>?_⟩
  have yB4:=zL hl3 (HO.lst [x7,V.ref pa,V.ref bl])
  have el3:=zJ (H:=JB) (a:=l3) (o:=HO.lst [x7,V.ref pa,V.ref bl])
  generalize hhB4:upd JB l3 (HO.lst [x7,V.ref pa,V.ref bl])=B4 at yB4 el3 |-
  have SB4:=SB3.trans yB4
  replace hpa:=(yB4 _ _ hpa)
  replace hpv:=(yA yB4 hpv)
  replace hso:=(yB4 _ _ hso)
  replace hsv:=(yN yB4 hsv)
  replace hx7:=(AV.same yB4 hx7)
  replace ebl:=(yB4 _ _ ebl)
  replace hB:=(zG yB4 hB)
  refine ⟨(by show 2<=sizeLine; decide),λtt htt=>?_⟩
  have yB5:=zL htt (HO.tup [V.ref l3,V.str "bad"])
  have ett:=zJ (H:=B4) (a:=tt) (o:=HO.tup [V.ref l3,V.str "bad"])
  generalize hhB5:upd B4 tt (HO.tup [V.ref l3,V.str "bad"])=B5 at yB5 ett |-
  have SB5:=SB4.trans yB5
  replace hpa:=(yB5 _ _ hpa)
  replace hpv:=(yA yB5 hpv)
  replace hso:=(yB5 _ _ hso)
  replace hsv:=(yN yB5 hsv)
  replace hx7:=(AV.same yB5 hx7)
  replace ebl:=(yB5 _ _ ebl)
  replace hB:=(zG yB5 hB)
  replace el3:=(yB5 _ _ el3)
  exact q tt _ SB5 ⟨l3,_,_,_,a7,(AK.lst (bs.map yC)),_,6,zy.bad,ett,el3,hx7,(AV.lst hpa (vk hpv)),(.lst ebl hB),(ui b6),(uh (vJ M) (by rw [List.length_map]; omega)),(UZ no7)⟩
 refine ⟨_,rfl,rfl,_,rfl,?_⟩
 refine yR (λcc=>?_) (λcc=>?_)
 ·clear cc
  refine ⟨_,rfl,_,rfl,pa,pv,bs,c,rfl,hpa,hpv,b6,λv9 J1 y1 hg=>?_⟩
  obtain ⟨a9,hav,no9,fa9⟩:=hg
  have SC1:=y1
  replace hpa:=(y1 _ _ hpa)
  replace hpv:=(yA y1 hpv)
  replace hso:=(y1 _ _ hso)
  replace hsv:=(yN y1 hsv)
  refine ⟨_,rfl,_,rfl,_,rfl,so,_,(ms.map zv),rfl,hso,(uN (λ_ _ z=>ug z) hsv),(vJ M),(by rw [List.length_map]; omega),λbl lvB JB yB ebl hB=>?_⟩
  have SC2:=SC1.trans yB
  replace hpa:=(yB _ _ hpa)
  replace hpv:=(yA yB hpv)
  replace hso:=(yB _ _ hso)
  replace hsv:=(yN yB hsv)
  replace hav:=(AV.same yB hav)
  refine ⟨(by show 3<=sizeLine; decide),λl3 hl3=>?_⟩
  have yC3:=zL hl3 (HO.lst [V.int (n:Int),v9,V.ref bl])
  have el3:=zJ (H:=JB) (a:=l3) (o:=HO.lst [V.int (n:Int),v9,V.ref bl])
  generalize hhC3:upd JB l3 (HO.lst [V.int (n:Int),v9,V.ref bl])=C3 at yC3 el3 |-
  have SC3:=SC2.trans yC3
  replace hpa:=(yC3 _ _ hpa)
  replace hpv:=(yA yC3 hpv)
  replace hso:=(yC3 _ _ hso)
  replace hsv:=(yN yC3 hsv)
  replace hav:=(AV.same yC3 hav)
  replace ebl:=(yC3 _ _ ebl)
  replace hB:=(zG yC3 hB)
  refine ⟨(by show 2<=sizeLine; decide),λtt htt=>?_⟩
  have yC4:=zL htt (HO.tup [V.ref l3,V.str "bad"])
  have ett:=zJ (H:=C3) (a:=tt) (o:=HO.tup [V.ref l3,V.str "bad"])
  generalize hhC4:upd C3 tt (HO.tup [V.ref l3,V.str "bad"])=C4 at yC4 ett |-
  have SC4:=SC3.trans yC4
  replace hpa:=(yC4 _ _ hpa)
  replace hpv:=(yA yC4 hpv)
  replace hso:=(yC4 _ _ hso)
  replace hsv:=(yN yC4 hsv)
  replace hav:=(AV.same yC4 hav)
  replace ebl:=(yC4 _ _ ebl)
  replace hB:=(zG yC4 hB)
  replace el3:=(yC4 _ _ el3)
  exact q tt _ SC4 ⟨l3,_,_,_,(AK.int (n:Int)),a9,_,6,zy.bad,ett,el3,(.int _),hav,(.lst ebl hB),(FA.mono fa9 (by decide)),(uh (vJ M) (by rw [List.length_map]; omega)),(Ua no9)⟩
 refine ⟨_,rfl,rfl,_,rfl,?_⟩
 refine yR (λcc=>?_) (λcc=>?_)
 ·clear cc
  refine ⟨_,rfl,_,rfl,_,rfl,so,_,(ms.map zv),rfl,hso,(uN (λ_ _ z=>ug z) hsv),(vJ M),(by rw [List.length_map]; omega),λbl lvB JB yB ebl hB=>?_⟩
  have SD1:=yB
  replace hpa:=(yB _ _ hpa)
  replace hpv:=(yA yB hpv)
  replace hso:=(yB _ _ hso)
  replace hsv:=(yN yB hsv)
  refine ⟨_,rfl,bl,lvB,(ms.map zv).map P6.mode,c,(n:Int),(bs.length:Int),rfl,ebl,hB,(by rw [List.length_map,List.length_map]; omega),(by rw [List.length_map,List.length_map]; omega),(λa ha=>by
   obtain ⟨q,hq,rfl⟩:=List.mem_map.mp ha
   exact kS (vJ M q hq)),(λa ha=>by
   obtain ⟨q,hq,rfl⟩:=List.mem_map.mp ha
   rfl),λv9 J1 y1 hg=>?_⟩
  obtain ⟨a9,hav,no9,fa9⟩:=hg
  have SD2:=SD1.trans y1
  replace hpa:=(y1 _ _ hpa)
  replace hpv:=(yA y1 hpv)
  replace hso:=(y1 _ _ hso)
  replace hsv:=(yN y1 hsv)
  replace ebl:=(y1 _ _ ebl)
  replace hB:=(zG y1 hB)
  refine ⟨(by show 3<=sizeLine; decide),λl3 hl3=>?_⟩
  have yD3:=zL hl3 (HO.lst [V.int (n:Int),V.ref pa,v9])
  have el3:=zJ (H:=J1) (a:=l3) (o:=HO.lst [V.int (n:Int),V.ref pa,v9])
  generalize hhD3:upd J1 l3 (HO.lst [V.int (n:Int),V.ref pa,v9])=D3 at yD3 el3 |-
  have SD3:=SD2.trans yD3
  replace hpa:=(yD3 _ _ hpa)
  replace hpv:=(yA yD3 hpv)
  replace hso:=(yD3 _ _ hso)
  replace hsv:=(yN yD3 hsv)
  replace hav:=(AV.same yD3 hav)
  refine ⟨(by show 2<=sizeLine; decide),λtt htt=>?_⟩
  have yD4:=zL htt (HO.tup [V.ref l3,V.str "bad"])
  have ett:=zJ (H:=D3) (a:=tt) (o:=HO.tup [V.ref l3,V.str "bad"])
  generalize hhD4:upd D3 tt (HO.tup [V.ref l3,V.str "bad"])=D4 at yD4 ett |-
  have SD4:=SD3.trans yD4
  replace hpa:=(yD4 _ _ hpa)
  replace hpv:=(yA yD4 hpv)
  replace hso:=(yD4 _ _ hso)
  replace hsv:=(yN yD4 hsv)
  replace hav:=(AV.same yD4 hav)
  replace el3:=(yD4 _ _ el3)
  exact q tt _ SD4 ⟨l3,_,_,_,(AK.int (n:Int)),(AK.lst (bs.map yC)),a9,7,zy.bad,ett,el3,(.int _),(AV.lst hpa (vk hpv)),hav,(FA.mono (ui b6) (by decide)),(FA.mono fa9 (by decide)),(kZ (by rw [uP]; exact no9))⟩
 refine ⟨_,rfl,rfl,_,rfl,?_⟩
 refine yR (λcc=>?_) (λcc=>?_)
 ·clear cc
  have p0:=Int.fmod_nonneg_of_pos c (show (0:Int) < 4 by decide)
  have p1:=Int.fmod_lt_of_pos c (show (0:Int) < 4 by decide)
  refine ⟨(by show 4<=sizeLine; decide),λw1 hw1=>?_⟩
  have yE1:=zL hw1 (HO.lst [V.int 40,V.int 41,V.int 60,V.int 41])
  have ew1:=zJ (H:=H) (a:=w1) (o:=HO.lst [V.int 40,V.int 41,V.int 60,V.int 41])
  generalize hhE1:upd H w1 (HO.lst [V.int 40,V.int 41,V.int 60,V.int 41])=E1 at yE1 ew1 |-
  have SE1:=yE1
  replace hpa:=(yE1 _ _ hpa)
  replace hpv:=(yA yE1 hpv)
  replace hso:=(yE1 _ _ hso)
  replace hsv:=(yN yE1 hsv)
  obtain ⟨kc,at4,kc1,kc6,kc0,kcn⟩:=Ur p0 p1
  refine ⟨_,rfl,_,_,rfl,rfl,(show (4:Int)≠0 by decide),w1,_,_,_,rfl,rfl,zM.of ew1,at4,?_⟩
  refine ⟨_,rfl,_,rfl,(by omega),(by omega),uU (lo:=0) (n:=((kc:Nat):Int).toNat)
   (λi ys σ H'=>ys=(List.range i).map (λk=>sv.getD (k % sv.length) V.non)/\(∃ o,σ=[o,some (.ref so)])/\H'=E1)
   ⟨rfl,⟨none,rfl⟩,rfl⟩ (λi ys σ H' ⟨e1,_⟩=>by rw [e1,List.length_map,List.length_range]; exact Nat.le_refl _) (Nat.le_of_lt (zq (by omega))) ?_ ?_⟩
  ·rintro i ys σ H' hi ⟨rfl,⟨o,rfl⟩,rfl⟩
   have hlt:i % sv.length < sv.length:=Nat.mod_lt _ (by omega)
   have atk:xb sv ((0 + (i:Int)).fmod (sv.length:Int))=some (sv.getD (i % sv.length) V.non):=by
    rw [Ut i sv.length (by omega)]
    exact wR (kn hlt)
   refine ⟨_,rfl,_,rfl,_,rfl,so,_,rfl,.inl (zM.of hso),_,_,rfl,rfl,(show (sv.length:Int)≠0 by omega),so,_,_,_,rfl,rfl,zM.of hso,atk,?_,⟨_,rfl⟩,rfl⟩
   rw [List.range_succ,List.map_append]
   rfl
  rintro ys σ H' ⟨rfl,⟨o,rfl⟩,hZ⟩ la hla
  rw [hZ] at hla |-
  clear hZ
  rw [show ((kc:Nat):Int).toNat=kc by omega]
  have yE2:=zL hla (HO.lst ((List.range kc).map λk=>sv.getD (k % sv.length) V.non))
  have ela:=zJ (H:=E1) (a:=la) (o:=HO.lst ((List.range kc).map λk=>sv.getD (k % sv.length) V.non))
  generalize hhE2:upd E1 la (HO.lst ((List.range kc).map λk=>sv.getD (k % sv.length) V.non))=E2 at yE2 ela |-
  have SE2:=SE1.trans yE2
  replace hpa:=(yE2 _ _ hpa)
  replace hpv:=(yA yE2 hpv)
  replace hso:=(yE2 _ _ hso)
  replace hsv:=(yN yE2 hsv)
  have hPQ:Paired (PQ ac E2) sv (ms.map zv):=uN (λ_ _ z=>ug z) hsv
  obtain ⟨qs,hqs0⟩:∃ qs:List P6,qs=(List.range kc).map λk=>(ms.map zv).getD (k % sv.length) ⟨.non,.non,.non,.non,.non,.non⟩:=⟨_,rfl⟩
  have lqs:qs.length=kc:=by rw [hqs0,List.length_map,List.length_range]
  have hqs:Paired (PQ ac E2) ((List.range kc).map λk=>sv.getD (k % sv.length) V.non) qs:=by
   rw [hqs0]
   refine Yd λk _=>?_
   have hlt:k % sv.length < sv.length:=Nat.mod_lt _ (by omega)
   obtain ⟨y,hy,hR⟩:=xJ hPQ (kn (d:=V.non) hlt)
   rw [List.getD_eq_getElem?_getD (l:=ms.map zv),hy]
   exact hR
  have inq:∀ q∈qs,∃ m∈ms,q=zv m:=λq hq=>by
   rw [hqs0] at hq
   obtain ⟨k,_,rfl⟩:=List.mem_map.mp hq
   have hlt:k % sv.length < (ms.map zv).length:=by rw [List.length_map,<- lsv]; exact Nat.mod_lt _ (by omega)
   obtain ⟨m0,hm0,e0⟩:=List.mem_map.mp (List.mem_of_getElem? (kn (d:=(⟨.non,.non,.non,.non,.non,.non⟩:P6)) hlt))
   exact ⟨m0,hm0,e0.symm⟩
  have fws:∀ q∈qs,vI q:=λq hq=>by
   obtain ⟨m0,hm0,rfl⟩:=inq q hq
   exact qa (M.ok m0 hm0)
  have yes:∀ q∈qs,yX (n:Int) (bs.length:Int) q.mode=true:=λq hq=>by
   obtain ⟨m0,hm0,rfl⟩:=inq q hq
   exact YZ (M.ok m0 hm0)
  have l9:qs.length<=100:=by omega
  clear hqs0 hPQ inq
  refine ⟨la,_,qs,rfl,ela,hqs,fws,l9,λbl lvB JB yB ebl hB=>?_⟩
  have SE3:=SE2.trans yB
  replace hpa:=(yB _ _ hpa)
  replace hpv:=(yA yB hpv)
  replace hso:=(yB _ _ hso)
  replace hsv:=(yN yB hsv)
  have lvl:lvB.length=kc:=by rw [Paired.length hB,List.length_map,lqs]
  refine ⟨_,rfl,_,_,rfl,rfl,(show (4:Int)≠0 by decide),rfl,_,rfl,?_⟩
  refine yR (λc3=>?_) (λc3=>?_)
  ·clear c3
   refine ⟨_,rfl,_,rfl,_,rfl,(by show 1<=sizeLine; decide),λz1 hz1=>?_⟩
   have yF1:=zL hz1 (HO.lst [V.non])
   have ez1:=zJ (H:=JB) (a:=z1) (o:=HO.lst [V.non])
   generalize hhF1:upd JB z1 (HO.lst [V.non])=F1 at yF1 ez1 |-
   have SF1:=SE3.trans yF1
   replace hpa:=(yF1 _ _ hpa)
   replace hpv:=(yA yF1 hpv)
   replace hso:=(yF1 _ _ hso)
   replace hsv:=(yN yF1 hsv)
   replace ebl:=(yF1 _ _ ebl)
   replace hB:=(zG yF1 hB)
   refine ⟨bl,z1,_,_,rfl,rfl,ebl,ez1,Nat.le_of_lt (zq (by show lvB.length + 1<=1000; omega)),λz2 hz2=>?_⟩
   have yF2:=zL hz2 (HO.lst (lvB++[V.non]))
   have ez2:=zJ (H:=F1) (a:=z2) (o:=HO.lst (lvB++[V.non]))
   generalize hhF2:upd F1 z2 (HO.lst (lvB++[V.non]))=F2 at yF2 ez2 |-
   have SF2:=SF1.trans yF2
   replace hpa:=(yF2 _ _ hpa)
   replace hpv:=(yA yF2 hpv)
   replace hso:=(yF2 _ _ hso)
   replace hsv:=(yN yF2 hsv)
   replace hB:=(zG yF2 hB)
   have hB2:Paired (AV ac F2) (lvB++[V.non]) (qs.map P6.mode++[AK.non]):=yl hB (.cons .non .nil)
   refine ⟨(by show 3<=sizeLine; decide),λl3 hl3=>?_⟩
   have yF3:=zL hl3 (HO.lst [V.int (n:Int),V.ref pa,V.ref z2])
   have el3:=zJ (H:=F2) (a:=l3) (o:=HO.lst [V.int (n:Int),V.ref pa,V.ref z2])
   generalize hhF3:upd F2 l3 (HO.lst [V.int (n:Int),V.ref pa,V.ref z2])=F3 at yF3 el3 |-
   have SF3:=SF2.trans yF3
   replace hpa:=(yF3 _ _ hpa)
   replace hpv:=(yA yF3 hpv)
   replace hso:=(yF3 _ _ hso)
   replace hsv:=(yN yF3 hsv)
   replace ez2:=(yF3 _ _ ez2)
   replace hB2:=(zG yF3 hB2)
   refine ⟨(by show 2<=sizeLine; decide),λtt htt=>?_⟩
   have yF4:=zL htt (HO.tup [V.ref l3,V.str "bad"])
   have ett:=zJ (H:=F3) (a:=tt) (o:=HO.tup [V.ref l3,V.str "bad"])
   generalize hhF4:upd F3 tt (HO.tup [V.ref l3,V.str "bad"])=F4 at yF4 ett |-
   have SF4:=SF3.trans yF4
   replace hpa:=(yF4 _ _ hpa)
   replace hpv:=(yA yF4 hpv)
   replace hso:=(yF4 _ _ hso)
   replace hsv:=(yN yF4 hsv)
   replace ez2:=(yF4 _ _ ez2)
   replace hB2:=(zG yF4 hB2)
   replace el3:=(yF4 _ _ el3)
   exact q tt _ SF4 ⟨l3,_,_,_,(AK.int (n:Int)),(AK.lst (bs.map yC)),_,6,zy.bad,ett,el3,(.int _),(AV.lst hpa (vk hpv)),(.lst ez2 hB2),(ui b6),(.lst (by rw [List.length_append,List.length_map]; show _ + 1<=900; omega) λa ha=>by
      rcases List.mem_append.mp ha with ha | ha
      ·obtain ⟨q0,hq0,rfl⟩:=List.mem_map.mp ha
       exact kS (fws q0 hq0)
      ·rw [List.mem_singleton.mp ha]; exact FA.non),(kZ (kP (a:=AK.non) (List.mem_append_right _ (List.mem_singleton.mpr rfl)) rfl))⟩
  have p3:c.fmod 4≠3:=λz=>c3 (by rw [z]; rfl)
  have g3:c.fmod 4 < 3:=by omega
  have sd:=kY (p:=AK.lst (bs.map yC)) (ms:=AK.lst (qs.map P6.mode)) n1 n3 (kX bo) (by rw [uP]; exact kr (λz=>by rw [z] at lqs; have:0=kc:=lqs; omega) yes)
  have lm:yL (AK.lst (qs.map P6.mode))=(kc:Int):=by
   show ((qs.map P6.mode).length:Int)=_
   rw [List.length_map,lqs]
  have said:wV (AK.int (n:Int)) (AK.lst (bs.map yC)) (AK.lst (qs.map P6.mode))=(if c.fmod 4=0 then zy.made else zy.many):=by
   by_cases z:c.fmod 4=0
   ·rw [if_pos z]
    exact kW sd (by rw [uP,lm,kc0 z]; omega)
   ·rw [if_neg z]
    exact kU sd (.inr (by rw [lm]; have:=kcn z; omega))
  have at3:=Us p0 g3
  refine ⟨_,rfl,_,rfl,_,rfl,(by show 3<=sizeLine; decide),λl3 hl3=>?_⟩
  have yE4:=zL hl3 (HO.lst [V.int (n:Int),V.ref pa,V.ref bl])
  have el3:=zJ (H:=JB) (a:=l3) (o:=HO.lst [V.int (n:Int),V.ref pa,V.ref bl])
  generalize hhE4:upd JB l3 (HO.lst [V.int (n:Int),V.ref pa,V.ref bl])=E4 at yE4 el3 |-
  have SE4:=SE3.trans yE4
  replace hpa:=(yE4 _ _ hpa)
  replace hpv:=(yA yE4 hpv)
  replace hso:=(yE4 _ _ hso)
  replace hsv:=(yN yE4 hsv)
  replace ebl:=(yE4 _ _ ebl)
  replace hB:=(zG yE4 hB)
  refine ⟨(by show 3<=sizeLine; decide),λz1 hz1=>?_⟩
  have yE5:=zL hz1 (HO.lst [V.str "made",V.str "many",V.str "many"])
  have ez1:=zJ (H:=E4) (a:=z1) (o:=HO.lst [V.str "made",V.str "many",V.str "many"])
  generalize hhE5:upd E4 z1 (HO.lst [V.str "made",V.str "many",V.str "many"])=E5 at yE5 ez1 |-
  have SE5:=SE4.trans yE5
  replace hpa:=(yE5 _ _ hpa)
  replace hpv:=(yA yE5 hpv)
  replace hso:=(yE5 _ _ hso)
  replace hsv:=(yN yE5 hsv)
  replace ebl:=(yE5 _ _ ebl)
  replace hB:=(zG yE5 hB)
  replace el3:=(yE5 _ _ el3)
  refine ⟨_,rfl,_,_,rfl,rfl,(show (4:Int)≠0 by decide),z1,_,_,_,rfl,rfl,zM.of ez1,at3,(by show 2<=sizeLine; decide),λtt htt=>?_⟩
  have yE6:=zL htt (HO.tup [V.ref l3,V.str (if c.fmod 4=0 then zy.made else zy.many).str])
  have ett:=zJ (H:=E5) (a:=tt) (o:=HO.tup [V.ref l3,V.str (if c.fmod 4=0 then zy.made else zy.many).str])
  generalize hhE6:upd E5 tt (HO.tup [V.ref l3,V.str (if c.fmod 4=0 then zy.made else zy.many).str])=E6 at yE6 ett |-
  have SE6:=SE5.trans yE6
  replace hpa:=(yE6 _ _ hpa)
  replace hpv:=(yA yE6 hpv)
  replace hso:=(yE6 _ _ hso)
  replace hsv:=(yN yE6 hsv)
  replace ebl:=(yE6 _ _ ebl)
  replace hB:=(zG yE6 hB)
  replace el3:=(yE6 _ _ el3)
  exact q tt _ SE6 ⟨l3,_,_,_,(AK.int (n:Int)),(AK.lst (bs.map yC)),_,6,_,ett,el3,(.int _),(AV.lst hpa (vk hpv)),(.lst ebl hB),(ui b6),(uh fws l9),said⟩
 clear cc
 obtain ⟨kk,ekk⟩:∃ kk:Nat,bs.length + kk=7:=⟨7 - bs.length,by omega⟩
 refine ⟨_,rfl,so,rfl,⟨_,zM.of hso⟩,vB (K:=K) (a:=so) (xs:=sv) (λi ys σ H'=>Paired (PQ ac H') ys ((ms.take i).map (vq kk))/\(∃ o,σ=[o,some (.ref pa)])/\zC H H')
  ⟨.nil,⟨none,rfl⟩,zC.refl _⟩ (λi ys σ H' hi ⟨e1,_,sm⟩=>⟨zM.of (sm _ _ hso),by have:=Paired.length e1; rw [List.length_map,List.length_take] at this; omega⟩) (Nat.le_of_lt (zq (by omega))) ?_ ?_⟩
 ·rintro i x ys σ H' hi ⟨hys,⟨o,rfl⟩,sm⟩
  obtain ⟨m0,hm0,hx⟩:=xJ hsv hi
  obtain ⟨pl,r0,n0,s0,p0,a0,rv,nv,pvv,rfl,hl,PD⟩:=wE.same sm hx
  have MO0:=M.ok m0 (List.mem_of_getElem? hm0)
  have n30:=MO0.n3
  have lpp:=(Paired.length PD.hpv).trans MO0.push.1
  have n31:=n30
  have av1:AV ac H' (.ref r0) (zv m0).r:=.lst PD.hr (kM PD.hrv)
  have av2:AV ac H' (.ref n0) (zv m0).n:=.lst PD.hn (ue PD.hnv)
  have av3:AV ac H' (.ref s0) (zv m0).s:=.lst PD.hs (xp _)
  have av5:AV ac H' (.ref a0) (zv m0).a:=.lst PD.ha (xp _)
  have ep0:=PD.hp
  have htp:=PD.hpv
  have hpa1:=sm _ _ hpa
  refine ⟨_,rfl,_,rfl,pl,_,rfl,zM.of hl,λa1 ha1=>?_⟩
  rw [show zT [V.ref r0,V.ref n0,V.ref s0,V.ref p0,V.ref a0,V.int m0.div] none (some (3:Int))=[V.ref r0,V.ref n0,V.ref s0] from wo _ 3]
  have yP1:=zL ha1 (HO.lst [V.ref r0,V.ref n0,V.ref s0])
  have ea1:=zJ (H:=H') (a:=a1) (o:=HO.lst [V.ref r0,V.ref n0,V.ref s0])
  generalize hhP1:upd H' a1 (HO.lst [V.ref r0,V.ref n0,V.ref s0])=P1 at yP1 ea1 |-
  have SP1:=sm.trans yP1
  replace hl:=(yP1 _ _ hl)
  replace av1:=(AV.same yP1 av1)
  replace av2:=(AV.same yP1 av2)
  replace av3:=(AV.same yP1 av3)
  replace av5:=(AV.same yP1 av5)
  replace ep0:=(yP1 _ _ ep0)
  replace htp:=(zY.same yP1 htp)
  replace hpa1:=(yP1 _ _ hpa1)
  replace hys:=(wN yP1 hys)
  refine ⟨_,rfl,pl,_,3,_,rfl,rfl,zM.of hl,rfl,p0,rfl,⟨_,zM.of ep0⟩,vB (K:=K) (a:=p0) (xs:=pvv) (λj zs σ2 H2=>zY H2 zs ((m0.push.take j).map λr=>r++List.replicate kk 0)/\(∃ o,σ2=[o,some (.ref pa)])/\zC P1 H2)
   ⟨.nil,⟨none,rfl⟩,zC.refl _⟩ (λj zs σ2 H2 hj ⟨e1,_,s2⟩=>⟨zM.of (s2 _ _ ep0),by have:=Paired.length e1; rw [List.length_map,List.length_take] at this; omega⟩) (Nat.le_of_lt (zq (by omega))) ?_ ?_⟩
  ·rintro j x zs σ2 H2 hj ⟨hzs,⟨o,rfl⟩,s2⟩
   obtain ⟨rw0,hrw,b1,rfl,eb0⟩:=xJ htp hj
   have lr7:=MO0.push.2 rw0 (List.mem_of_getElem? hrw)
   have eb1:=s2 _ _ eb0
   have hpa2:=s2 _ _ hpa1
   refine ⟨_,rfl,(by show 1<=sizeLine; decide),λz1 hz1=>?_⟩
   have yR1:=zL hz1 (HO.lst [V.int 0])
   have ez1:=zJ (H:=H2) (a:=z1) (o:=HO.lst [V.int 0])
   generalize hhR1:upd H2 z1 (HO.lst [V.int 0])=R1 at yR1 ez1 |-
   have SR1:=s2.trans yR1
   replace eb1:=(yR1 _ _ eb1)
   replace hpa2:=(yR1 _ _ hpa2)
   replace hzs:=(zY.same yR1 hzs)
   have tn:(7 - (pv.length:Int)).toNat=kk:=by omega
   refine ⟨_,rfl,pa,_,rfl,.inl (zM.of hpa2),_,_,rfl,rfl,z1,_,_,rfl,rfl,ez1,(by omega),(by omega),(by rw [tn]; exact Nat.le_of_lt (zq (by show 1 * kk<=1000; omega))),λz2 hz2=>?_⟩
   rw [tn,ko]
   have yR2:=zL hz2 (HO.lst (List.replicate kk (V.int 0)))
   have ez2:=zJ (H:=R1) (a:=z2) (o:=HO.lst (List.replicate kk (V.int 0)))
   generalize hhR2:upd R1 z2 (HO.lst (List.replicate kk (V.int 0)))=R2 at yR2 ez2 |-
   have SR2:=SR1.trans yR2
   replace eb1:=(yR2 _ _ eb1)
   replace hpa2:=(yR2 _ _ hpa2)
   replace hzs:=(zY.same yR2 hzs)
   refine ⟨b1,z2,_,_,rfl,rfl,eb1,ez2,Nat.le_of_lt (zq (by rw [List.length_map,List.length_replicate]; omega)),λz3 hz3=>?_⟩
   have yR3:=zL hz3 (HO.lst (rw0.map V.int++List.replicate kk (V.int 0)))
   have ez3:=zJ (H:=R2) (a:=z3) (o:=HO.lst (rw0.map V.int++List.replicate kk (V.int 0)))
   generalize hhR3:upd R2 z3 (HO.lst (rw0.map V.int++List.replicate kk (V.int 0)))=R3 at yR3 ez3 |-
   have SR3:=SR2.trans yR3
   replace hpa2:=(yR3 _ _ hpa2)
   replace hzs:=(zY.same yR3 hzs)
   refine ⟨?_,⟨_,rfl⟩,SR3⟩
   rw [wT hrw,List.map_append]
   refine wS (R:=xy _) ⟨z3,rfl,ez3.trans ?_⟩ hzs
   rw [List.map_append,List.map_replicate]
  rintro zs σ2 H2 ⟨hzs,⟨o,rfl⟩,s2⟩ l2 hl2
  rw [List.take_of_length_le (by rw [MO0.push.1]; omega)] at hzs
  have SP2:=SP1.trans s2
  replace hl:=(s2 _ _ hl)
  replace av1:=(AV.same s2 av1)
  replace av2:=(AV.same s2 av2)
  replace av3:=(AV.same s2 av3)
  replace av5:=(AV.same s2 av5)
  replace ep0:=(s2 _ _ ep0)
  replace htp:=(zY.same s2 htp)
  replace hpa1:=(s2 _ _ hpa1)
  replace hys:=(wN s2 hys)
  replace ea1:=(s2 _ _ ea1)
  have yP3:=zL hl2 (HO.lst zs)
  have el2:=zJ (H:=H2) (a:=l2) (o:=HO.lst zs)
  generalize hhP3:upd H2 l2 (HO.lst zs)=P3 at yP3 el2 |-
  have SP3:=SP2.trans yP3
  replace hl:=(yP3 _ _ hl)
  replace av1:=(AV.same yP3 av1)
  replace av2:=(AV.same yP3 av2)
  replace av3:=(AV.same yP3 av3)
  replace av5:=(AV.same yP3 av5)
  replace ep0:=(yP3 _ _ ep0)
  replace htp:=(zY.same yP3 htp)
  replace hpa1:=(yP3 _ _ hpa1)
  replace hys:=(wN yP3 hys)
  replace ea1:=(yP3 _ _ ea1)
  replace hzs:=(zY.same yP3 hzs)
  refine ⟨(by show 1<=sizeLine; decide),λa2 ha2=>?_⟩
  have yP4:=zL ha2 (HO.lst [V.ref l2])
  have ea2:=zJ (H:=P3) (a:=a2) (o:=HO.lst [V.ref l2])
  generalize hhP4:upd P3 a2 (HO.lst [V.ref l2])=P4 at yP4 ea2 |-
  have SP4:=SP3.trans yP4
  replace hl:=(yP4 _ _ hl)
  replace av1:=(AV.same yP4 av1)
  replace av2:=(AV.same yP4 av2)
  replace av3:=(AV.same yP4 av3)
  replace av5:=(AV.same yP4 av5)
  replace ep0:=(yP4 _ _ ep0)
  replace htp:=(zY.same yP4 htp)
  replace hpa1:=(yP4 _ _ hpa1)
  replace hys:=(wN yP4 hys)
  replace ea1:=(yP4 _ _ ea1)
  replace hzs:=(zY.same yP4 hzs)
  replace el2:=(yP4 _ _ el2)
  refine ⟨a1,a2,_,_,rfl,rfl,ea1,ea2,(by show 3 + 1<=sizeLine; decide),λa3 ha3=>?_⟩
  have yP5:=zL ha3 (HO.lst ([V.ref r0,V.ref n0,V.ref s0]++[V.ref l2]))
  have ea3:=zJ (H:=P4) (a:=a3) (o:=HO.lst ([V.ref r0,V.ref n0,V.ref s0]++[V.ref l2]))
  generalize hhP5:upd P4 a3 (HO.lst ([V.ref r0,V.ref n0,V.ref s0]++[V.ref l2]))=P5 at yP5 ea3 |-
  have SP5:=SP4.trans yP5
  replace hl:=(yP5 _ _ hl)
  replace av1:=(AV.same yP5 av1)
  replace av2:=(AV.same yP5 av2)
  replace av3:=(AV.same yP5 av3)
  replace av5:=(AV.same yP5 av5)
  replace ep0:=(yP5 _ _ ep0)
  replace htp:=(zY.same yP5 htp)
  replace hpa1:=(yP5 _ _ hpa1)
  replace hys:=(wN yP5 hys)
  replace hzs:=(zY.same yP5 hzs)
  replace el2:=(yP5 _ _ el2)
  refine ⟨_,rfl,_,rfl,pl,_,rfl,zM.of hl,λa4 ha4=>?_⟩
  rw [show zT [V.ref r0,V.ref n0,V.ref s0,V.ref p0,V.ref a0,V.int m0.div] (some (4:Int)) none=[V.ref a0,V.int m0.div] from wp _ 4]
  have yP6:=zL ha4 (HO.lst [V.ref a0,V.int m0.div])
  have ea4:=zJ (H:=P5) (a:=a4) (o:=HO.lst [V.ref a0,V.int m0.div])
  generalize hhP6:upd P5 a4 (HO.lst [V.ref a0,V.int m0.div])=P6 at yP6 ea4 |-
  have SP6:=SP5.trans yP6
  replace hl:=(yP6 _ _ hl)
  replace av1:=(AV.same yP6 av1)
  replace av2:=(AV.same yP6 av2)
  replace av3:=(AV.same yP6 av3)
  replace av5:=(AV.same yP6 av5)
  replace ep0:=(yP6 _ _ ep0)
  replace htp:=(zY.same yP6 htp)
  replace hpa1:=(yP6 _ _ hpa1)
  replace hys:=(wN yP6 hys)
  replace hzs:=(zY.same yP6 hzs)
  replace el2:=(yP6 _ _ el2)
  replace ea3:=(yP6 _ _ ea3)
  refine ⟨a3,a4,_,_,rfl,rfl,ea3,ea4,(by show 4 + 2<=sizeLine; decide),λa9 ha9=>?_⟩
  have yP7:=zL ha9 (HO.lst ([V.ref r0,V.ref n0,V.ref s0]++[V.ref l2]++[V.ref a0,V.int m0.div]))
  have ea9:=zJ (H:=P6) (a:=a9) (o:=HO.lst ([V.ref r0,V.ref n0,V.ref s0]++[V.ref l2]++[V.ref a0,V.int m0.div]))
  generalize hhP7:upd P6 a9 (HO.lst ([V.ref r0,V.ref n0,V.ref s0]++[V.ref l2]++[V.ref a0,V.int m0.div]))=P7 at yP7 ea9 |-
  have SP7:=SP6.trans yP7
  replace hl:=(yP7 _ _ hl)
  replace av1:=(AV.same yP7 av1)
  replace av2:=(AV.same yP7 av2)
  replace av3:=(AV.same yP7 av3)
  replace av5:=(AV.same yP7 av5)
  replace ep0:=(yP7 _ _ ep0)
  replace htp:=(zY.same yP7 htp)
  replace hpa1:=(yP7 _ _ hpa1)
  replace hys:=(wN yP7 hys)
  replace hzs:=(zY.same yP7 hzs)
  replace el2:=(yP7 _ _ el2)
  refine ⟨?_,⟨_,rfl⟩,SP7⟩
  rw [wT hm0,List.map_append]
  exact wS (R:=PQ ac _) (y:=vq kk m0) (.lst ea9 (.cons av1 (.cons av2 (.cons av3 (.cons (.lst el2 (ue hzs)) (.cons av5 (.cons (.int _) .nil))))))) hys
 rintro ys σ H' ⟨hys,⟨o,rfl⟩,sm⟩ lm hlm
 rw [List.take_of_length_le (by omega)] at hys
 have SG1:=sm
 replace hpa:=(sm _ _ hpa)
 replace hpv:=(yA sm hpv)
 replace hso:=(sm _ _ hso)
 have yG2:=zL hlm (HO.lst ys)
 have elm:=zJ (H:=H') (a:=lm) (o:=HO.lst ys)
 generalize hhG2:upd H' lm (HO.lst ys)=G2 at yG2 elm |-
 have SG2:=SG1.trans yG2
 replace hpa:=(yG2 _ _ hpa)
 replace hpv:=(yA yG2 hpv)
 replace hso:=(yG2 _ _ hso)
 replace hys:=(wN yG2 hys)
 refine ⟨_,rfl,_,rfl,(by show 2<=sizeLine; decide),λt1 ht1=>?_⟩
 have yG3:=zL ht1 (HO.tup [V.int 0,V.int 1])
 have et1:=zJ (H:=G2) (a:=t1) (o:=HO.tup [V.int 0,V.int 1])
 generalize hhG3:upd G2 t1 (HO.tup [V.int 0,V.int 1])=G3 at yG3 et1 |-
 have SG3:=SG2.trans yG3
 replace hpa:=(yG3 _ _ hpa)
 replace hpv:=(yA yG3 hpv)
 replace hso:=(yG3 _ _ hso)
 replace hys:=(wN yG3 hys)
 replace elm:=(yG3 _ _ elm)
 refine ⟨(by show 1<=sizeLine; decide),λz1 hz1=>?_⟩
 have yG4:=zL hz1 (HO.lst [V.ref t1])
 have ez1:=zJ (H:=G3) (a:=z1) (o:=HO.lst [V.ref t1])
 generalize hhG4:upd G3 z1 (HO.lst [V.ref t1])=G4 at yG4 ez1 |-
 have SG4:=SG3.trans yG4
 replace hpa:=(yG4 _ _ hpa)
 replace hpv:=(yA yG4 hpv)
 replace hso:=(yG4 _ _ hso)
 replace hys:=(wN yG4 hys)
 replace elm:=(yG4 _ _ elm)
 replace et1:=(yG4 _ _ et1)
 refine ⟨z1,7,_,rfl,rfl,ez1,(by decide),(by decide),(by show 1 * 7<=sizeLine; decide),λz2 hz2=>?_⟩
 rw [show (7:Int).toNat=7 from rfl,ko]
 have yG5:=zL hz2 (HO.lst (List.replicate 7 (V.ref t1)))
 have ez2:=zJ (H:=G4) (a:=z2) (o:=HO.lst (List.replicate 7 (V.ref t1)))
 generalize hhG5:upd G4 z2 (HO.lst (List.replicate 7 (V.ref t1)))=G5 at yG5 ez2 |-
 have SG5:=SG4.trans yG5
 replace hpa:=(yG5 _ _ hpa)
 replace hpv:=(yA yG5 hpv)
 replace hso:=(yG5 _ _ hso)
 replace hys:=(wN yG5 hys)
 replace elm:=(yG5 _ _ elm)
 replace et1:=(yG5 _ _ et1)
 refine ⟨pa,z2,_,_,rfl,rfl,hpa,ez2,Nat.le_of_lt (zq (by rw [List.length_replicate]; omega)),λz3 hz3=>?_⟩
 have yG6:=zL hz3 (HO.lst (pv++List.replicate 7 (V.ref t1)))
 have ez3:=zJ (H:=G5) (a:=z3) (o:=HO.lst (pv++List.replicate 7 (V.ref t1)))
 generalize hhG6:upd G5 z3 (HO.lst (pv++List.replicate 7 (V.ref t1)))=G6 at yG6 ez3 |-
 have SG6:=SG5.trans yG6
 replace hpa:=(yG6 _ _ hpa)
 replace hpv:=(yA yG6 hpv)
 replace hso:=(yG6 _ _ hso)
 replace hys:=(wN yG6 hys)
 replace elm:=(yG6 _ _ elm)
 replace et1:=(yG6 _ _ et1)
 refine ⟨_,rfl,z3,_,rfl,zM.of ez3,λz4 hz4=>?_⟩
 rw [show zT (pv++List.replicate 7 (V.ref t1)) none (some (7:Int))=(pv++List.replicate 7 (V.ref t1)).take 7 from wo _ 7]
 have yG7:=zL hz4 (HO.lst ((pv++List.replicate 7 (V.ref t1)).take 7))
 have ez4:=zJ (H:=G6) (a:=z4) (o:=HO.lst ((pv++List.replicate 7 (V.ref t1)).take 7))
 generalize hhG7:upd G6 z4 (HO.lst ((pv++List.replicate 7 (V.ref t1)).take 7))=G7 at yG7 ez4 |-
 have SG7:=SG6.trans yG7
 replace hpa:=(yG7 _ _ hpa)
 replace hpv:=(yA yG7 hpv)
 replace hso:=(yG7 _ _ hso)
 replace hys:=(wN yG7 hys)
 replace elm:=(yG7 _ _ elm)
 replace et1:=(yG7 _ _ et1)
 have hp7:Paired (wJ G7) ((pv++List.replicate 7 (V.ref t1)).take 7) (uj bs):=wW _ (yl hpv (Yh et1 7))
 have fws:∀ q∈ms.map (vq kk),vI q:=λq hq=>by
  obtain ⟨m0,h0,rfl⟩:=List.mem_map.mp hq
  exact kq (M.ok m0 h0) ekk
 have l9:(ms.map (vq kk)).length<=100:=by rw [List.length_map]; omega
 have yes:∀ q∈ms.map (vq kk),yX (n:Int) 7 q.mode=true:=λq hq=>by
  obtain ⟨m0,h0,rfl⟩:=List.mem_map.mp hq
  exact jm (M.ok m0 h0) ekk
 have l7:yL (AK.lst ((uj bs).map yC))=7:=by rw [uP,Yg]; rfl
 have sd:=kY (p:=AK.lst ((uj bs).map yC)) (ms:=AK.lst ((ms.map (vq kk)).map P6.mode)) n1 n3 (kX (Uu bo)) (by rw [l7]; exact kr (λz=>by have:=congrArg List.length z; rw [List.length_map] at this; have:ms.length=0:=this; omega) yes)
 refine ⟨_,rfl,lm,_,_,rfl,elm,hys,fws,l9,λbl lvB JB yB ebl hB=>?_⟩
 have SG8:=SG7.trans yB
 replace ez4:=(yB _ _ ez4)
 replace hp7:=(yA yB hp7)
 refine ⟨(by show 3<=sizeLine; decide),λl3 hl3=>?_⟩
 have yG9:=zL hl3 (HO.lst [V.int (n:Int),V.ref z4,V.ref bl])
 have el3:=zJ (H:=JB) (a:=l3) (o:=HO.lst [V.int (n:Int),V.ref z4,V.ref bl])
 generalize hhG9:upd JB l3 (HO.lst [V.int (n:Int),V.ref z4,V.ref bl])=G9 at yG9 el3 |-
 have SG9:=SG8.trans yG9
 replace ez4:=(yG9 _ _ ez4)
 replace hp7:=(yA yG9 hp7)
 replace ebl:=(yG9 _ _ ebl)
 replace hB:=(zG yG9 hB)
 refine ⟨(by show 2<=sizeLine; decide),λtt htt=>?_⟩
 have yG10:=zL htt (HO.tup [V.ref l3,V.str "many"])
 have ett:=zJ (H:=G9) (a:=tt) (o:=HO.tup [V.ref l3,V.str "many"])
 generalize hhG10:upd G9 tt (HO.tup [V.ref l3,V.str "many"])=G10 at yG10 ett |-
 have SG10:=SG9.trans yG10
 replace ez4:=(yG10 _ _ ez4)
 replace hp7:=(yA yG10 hp7)
 replace ebl:=(yG10 _ _ ebl)
 replace hB:=(zG yG10 hB)
 replace el3:=(yG10 _ _ el3)
 exact q tt _ SG10 ⟨l3,_,_,_,(AK.int (n:Int)),_,_,6,zy.many,ett,el3,(.int _),(.lst ez4 (vk hp7)),(.lst ebl hB),(.lst (by rw [List.length_map,Yg]; decide) (kO (k:=3))),(uh fws l9),(kU sd (.inl (by rw [l7]; decide)))⟩
end
end K12
namespace K12
open PySem L2 Sh
theorem Uw {α:Type} {P:α->Prop} {xs:List α} {x:α} (h:∀ y∈xs,P y) (hx:P x):∀ y∈xs++[x],P y:=λy hy=>by
 rcases List.mem_append.mp hy with hy | hy
 ·exact h y hy
 ·rw [List.mem_singleton.mp hy]
  exact hx
theorem jo (k:Nat):(0:Int) - (k:Int)<=(k:Int) * (k:Int):=by
 have:=Int.mul_nonneg (Int.natCast_nonneg k) (Int.natCast_nonneg k)
 omega
theorem Ux (w:Nat):∀ b∈(List.range w).map (λk:Nat=>((0:Int) - (k:Int),(k:Int) * (k:Int))),b.1<=b.2:=λb hb=>by
 obtain ⟨k,_,rfl⟩:=List.mem_map.mp hb
 exact jo k
theorem Yi {k:Nat} (h:k<=10):Bd 10 (k:Int):=by
 show (k:Int).natAbs < 2 ^ 10
 omega
section
variable {P:Program} {w:World} {K:PySem.W.Frag} {mg:Str->Option Value} {base:Heap}
noncomputable abbrev uR:Stmt:=xC 45
theorem ve:yS ["_law_script","_law_cell","_law_many","_law_wide","_law_some","_law_pushes","_law_parts_here","_law_due","_law_k"] ["_law_script"] (zQ uR):=.a
theorem Uy {k:Nat} {f:Addr} {fd:FuncData} {ac ad:Addr} (ae:zS K mg "Mode" ac) (af:yy K ac) (ag:zS K mg "Thing" ad) (ah:yz K ad) (Y:zj K ac) {C1 C2:Addr} (Z:yx K mg C1 C2) (F:yT K "law" "law" uR f fd) (B:Bl mg) (ap:Fn P w K mg base "_law_cell_at" ["_law_script","_law_k"] k (qM K)) (aL:Fn P w K mg base "_law_parts" ["_law_cell","_law_many","_law_wide"] k kL) (aM:Fn P w K mg base "_law_case" ["_law_script","_law_many","_law_pushes","_law_some"] k (kl ac K)) (aw:Fn P w K mg base "_law_said" ["_law_many","_law_pushes","_law_modes"] k (kT ac)) (ao:Fn P w K mg base "_law_built" ["_law_some"] k (qc ac)):zP P w K mg base zX (k + 1) f fd ["_law_script"] (jI K):=by
 refine F.ok ve (λvs H Q E h=>?_) (λcdv A outer s H vs Q E hr h=>?_)
 ·obtain ⟨_,_,rfl,_⟩:=h
  rfl
 obtain ⟨a,ns,rfl,hS,lns,q⟩:=h
 refine ⟨_,(za (ya (i:=1) ve.nd rfl (Or.inl rfl) (yE ap hr rfl (zA (zB 0) (zA zK zH))))
  (za (ya (i:=2) ve.nd rfl (Or.inr rfl) (zO (zw ym) zK (zO (ji yI) (zB 1) zK)))
  (za (ya (i:=3) ve.nd rfl (Or.inr rfl) (zO (ji yI) (zO (ji xu) (zB 1) zK) zK))
  (za (jF (i:=4) ve.nd rfl rfl (own:=["_law_k"]) (caps:=[(0,"_law_script"),(2,"_law_many"),(3,"_law_wide")]) (vD (S:=zQ uR) (N:=["_law_script","_law_cell","_law_many","_law_wide","_law_some","_law_pushes","_law_parts_here","_law_due","_law_k"]) rfl (by decide +kernel) rfl ⟨_,rfl⟩ rfl (by decide +kernel) (by decide +kernel)) rfl (vO rfl B.range_ (zA (zO (zw ym) zK (zO (ji yI) (zO (ji xu) (zB 1) zK) zK)) zH)) (λ_ _ _ _=>yg (i:=0) (show (["_law_k","_law_script","_law_many","_law_wide"]:List Str).Nodup by decide +kernel) rfl (Or.inl rfl)) (λ_ _ _ _=>(yE aL hr rfl (zA (zO (zw ym) (yE ap hr rfl (zA (zB 1) (zA zK zH))) (zO (ji vA) zK (zB 0))) (zA (zB 2) (zA (zB 3) zH))))) rfl)
  (za (jF (i:=5) ve.nd rfl rfl (own:=["_law_k"]) (caps:=[]) (uB rfl) rfl (vO rfl B.range_ (zA (zB 3) zH)) (λ_ _ _ _=>yg (i:=0) (show (["_law_k"]:List Str).Nodup by decide +kernel) rfl (Or.inl rfl)) (λ_ _ _ _=>(xi (zA (zO (zw wx) zK (zB 0)) (zA (zO (ji vA) (zB 0) (zB 0)) zH)))) rfl)
  (za (ZE (yE aM hr rfl (zA (zB 0) (zA (zB 2) (zA (zB 5) (zA (zB 4) zH))))) (Yt rfl (vg (yg (i:=6) ve.nd rfl (Or.inl rfl)) (vg (yg (i:=7) ve.nd rfl (Or.inl rfl)) ZD))))
  (za (gB PassesOwn.never rfl (vO rfl B.range_ (zA zK zH)) (yg (i:=8) ve.nd rfl (Or.inl rfl)) (za (yZ (yo j8 (yE aw hr rfl (zA (yJ yU (zB 6) zK (λ_ _=>rfl)) (zA (yJ yU (zB 6) zK (λ_ _=>rfl)) (zA (yJ yU (zB 6) zK (λ_ _=>rfl)) zH)))) (zB 7) (yb _)) (zf (zk wB)) yY)
   (zf (yZ (yo j8 (yE aw hr rfl (zA (zB 2) (zA (wQ qF rfl B.list_ vC (zA (zB 5) zH)) (zA (yE ao hr rfl (zA (zB 4) zH)) zH)))) xS (yb _)) (zf (zk wB)) yY))))
  (zf (zk wB))))))))),?_⟩
 try dsimp only [zF,Cx.nox,Cx.wish]
 have b3:Bd 10 (3:Int):=Bd.lit
 have b21:Bd 10 (21:Int):=Bd.lit
 refine ⟨_,rfl,a,ns,0,rfl,hS,(by decide),?_⟩
 generalize hc:vE ns 0=c
 have m0:=Int.fmod_nonneg_of_pos c (show (0:Int) < 3 by decide)
 have m1:=Int.fmod_lt_of_pos c (show (0:Int) < 3 by decide)
 have k0:=Int.fmod_nonneg_of_pos (c.fdiv 3) (show (0:Int) < 7 by decide)
 have k1:=Int.fmod_lt_of_pos (c.fdiv 3) (show (0:Int) < 7 by decide)
 have j0:=Int.fmod_nonneg_of_pos (c.fdiv 21) (show (0:Int) < 3 by decide)
 have j1:=Int.fmod_lt_of_pos (c.fdiv 21) (show (0:Int) < 3 by decide)
 refine ⟨_,rfl,_,_,rfl,rfl,(show (3:Int)≠0 by decide),_,_,rfl,rfl,?_⟩
 refine ⟨_,rfl,_,_,rfl,rfl,⟨by decide,b3.mono⟩,_,_,rfl,rfl,(show (7:Int)≠0 by decide),?_⟩
 obtain ⟨n,en⟩:∃ n:Nat,1 + c.fmod 3=(n:Int):=⟨(1 + c.fmod 3).toNat,by omega⟩
 obtain ⟨wd,ew⟩:∃ wd:Nat,(c.fdiv 3).fmod 7=(wd:Int):=⟨((c.fdiv 3).fmod 7).toNat,by omega⟩
 have n1:1<=n:=by omega
 have n3:n<=3:=by omega
 have w6:wd<=6:=by omega
 rw [en,ew]
 refine ⟨_,rfl,_,_,rfl,rfl,⟨by decide,b21.mono⟩,_,_,rfl,rfl,(show (3:Int)≠0 by decide),_,_,rfl,rfl,_,rfl,(by omega),(by omega),uU (lo:=0) (n:=(1 + (c.fdiv 21).fmod 3).toNat)
  (λi ys σ H'=>∃ ms:List MD,Paired (wE H') ys ms/\ms.length=i/\(∀ m∈ms,xW m n wd/\1<=m.rows.length/\m.rows.length<=3)/\(∃ o,σ=[o,some (.ref a),some (.int (n:Int)),some (.int (wd:Int))])/\zC H H')
  ⟨[],.nil,rfl,(λm hm=>by cases hm),⟨none,rfl⟩,zC.refl _⟩ (λi ys σ H' ⟨_,e1,l,_⟩=>by have:=Paired.length e1; omega) (Nat.le_of_lt (zq (by omega))) ?_ ?_⟩
 ·rintro i ys σ H' hi ⟨ms,hys,lms,ok,⟨o,rfl⟩,sm⟩
  have bi:Bd 10 (0 + (i:Int)):=by rw [Int.zero_add]; exact Yi (by omega)
  refine ⟨_,rfl,a,ns,1,rfl,sm.seq hS,(by decide),_,rfl,_,_,rfl,rfl,⟨Bd.mono (i:=7919) (n:=20) Bd.lit (by decide),bi.mono⟩,_,_,rfl,rfl,_,rfl,_,rfl,_,_,_,rfl,(by omega),(by omega),(by omega),(by omega),λv m H2 s2 hP MO r1 r3=>?_⟩
  rw [show ((n:Nat):Int).toNat=n by omega,show ((wd:Nat):Int).toNat=wd by omega] at MO
  exact ⟨ms++[m],wS hP (yN s2 hys),(by rw [List.length_append,lms]; rfl),Uw ok ⟨MO,r1,r3⟩,⟨_,rfl⟩,sm.trans s2⟩
 rintro sv σ J0 ⟨ms,hsv,lms,ok,⟨o,rfl⟩,y0⟩ so hso
 have SG1:=y0
 have yG2:=zL hso (HO.lst sv)
 have eso:=zJ (H:=J0) (a:=so) (o:=HO.lst sv)
 generalize hhG2:upd J0 so (HO.lst sv)=G2 at yG2 eso |-
 have SG2:=SG1.trans yG2
 replace hsv:=(yN yG2 hsv)
 refine ⟨_,rfl,_,rfl,(by omega),(by omega),uU (lo:=0) (n:=((wd:Nat):Int).toNat)
  (λi ys σ H'=>Paired (wJ H') ys ((List.range i).map λk:Nat=>((0:Int) - (k:Int),(k:Int) * (k:Int)))/\(∃ o,σ=[o])/\zC G2 H')
  ⟨.nil,⟨none,rfl⟩,zC.refl _⟩ (λi ys σ H' ⟨e1,_⟩=>by have:=Paired.length e1; rw [List.length_map,List.length_range] at this; omega) (Nat.le_of_lt (zq (by omega))) ?_ ?_⟩
 ·rintro i ys σ H' hi ⟨hys,⟨o,rfl⟩,sm⟩
  have bi:Bd 10 (0 + (i:Int)):=by rw [Int.zero_add]; exact Yi (by omega)
  refine ⟨_,rfl,_,_,rfl,rfl,_,rfl,_,rfl,_,_,rfl,rfl,⟨bi.mono,bi.mono⟩,(by show 2<=sizeLine; decide),λtp htp=>?_⟩
  have zt:=zL htp (HO.tup [V.int (0 - (0 + (i:Int))),V.int ((0 + (i:Int)) * (0 + (i:Int)))])
  refine ⟨?_,⟨_,rfl⟩,sm.trans zt⟩
  rw [List.range_succ,List.map_append]
  refine wS (R:=wJ _) (y:=((0:Int) - (i:Int),(i:Int) * (i:Int))) ⟨tp,rfl,zJ.trans ?_⟩ (yA zt hys)
  rw [Int.zero_add]
 rintro pv σ J1 ⟨hpv,⟨o,rfl⟩,y1⟩ pa hpa
 rw [show ((wd:Nat):Int).toNat=wd by omega] at hpv
 have SG3:=SG2.trans y1
 replace hsv:=(yN y1 hsv)
 replace eso:=(y1 _ _ eso)
 have yG4:=zL hpa (HO.lst pv)
 have epa:=zJ (H:=J1) (a:=pa) (o:=HO.lst pv)
 generalize hhG4:upd J1 pa (HO.lst pv)=G4 at yG4 epa |-
 have SG4:=SG3.trans yG4
 replace hsv:=(yN yG4 hsv)
 replace eso:=(yG4 _ _ eso)
 replace hpv:=(yA yG4 hpv)
 obtain ⟨bs,hbs⟩:∃ bs:List (Int × Int),bs=(List.range wd).map λk:Nat=>((0:Int) - (k:Int),(k:Int) * (k:Int)):=⟨_,rfl⟩
 have lbs:bs.length=wd:=by rw [hbs,List.length_map,List.length_range]
 have bo:∀ b∈bs,b.1<=b.2:=by rw [hbs]; exact Ux wd
 rw [<- hbs] at hpv
 clear hbs
 have M:uO ms n bs.length:=⟨by omega,by omega,λm hm=>lbs ▸ (ok m hm).1,λm hm=>(ok m hm).2.1,λm hm=>(ok m hm).2.2⟩
 refine ⟨_,rfl,_,rfl,_,rfl,_,rfl,a,pa,so,ns,n,pv,sv,bs,ms,rfl,SG4.seq hS,n1,n3,epa,hpv,(by omega),bo,eso,hsv,M,λtt J2 y2 CV=>?_⟩
 obtain ⟨l,v1,v2,v3,m,p,q0,k,b,ett,el,h1,h2,h3,f2,f3,said⟩:=CV
 refine ⟨tt,_,rfl,yD.of ett,rfl,_,_,rfl,_,_,rfl,rfl,?_⟩
 have SG5:=SG4.trans y2
 replace hsv:=(yN y2 hsv)
 replace eso:=(y2 _ _ eso)
 replace hpv:=(yA y2 hpv)
 replace epa:=(y2 _ _ epa)
 refine ⟨2,rfl,(by decide),(by decide),gC (lo:=0) (n:=(2:Int).toNat) (λi σ H'=>∃ o8:Option V,σ=[some (.ref a),some (.int c),some (.int (n:Int)),some (.int (wd:Int)),some (.ref so),some (.ref pa),some (.ref l),some (.str b.str),o8]/\zC J2 H') ⟨none,rfl,zC.refl _⟩ ?_ ?_⟩
 ·rintro i σ L0 hi ⟨o8,rfl,sm⟩
  refine ⟨_,rfl,l,_,0,_,rfl,rfl,zM.of (sm _ _ el),(show xb [v1,v2,v3] 0=some v1 from rfl),_,rfl,l,_,1,_,rfl,rfl,zM.of (sm _ _ el),(show xb [v1,v2,v3] 1=some v2 from rfl),_,rfl,l,_,2,_,rfl,rfl,zM.of (sm _ _ el),(show xb [v1,v2,v3] 2=some v3 from rfl),v1,v2,v3,m,p,q0,k,rfl,AV.same sm h1,AV.same sm h2,AV.same sm h3,f2,f3,λL1 z1=>?_⟩
  rw [said]
  refine ⟨_,rfl,rfl,_,rfl,yK (by rw [decide_eq_true rfl]; rfl) ?_⟩
  have SL1:=sm.trans z1
  refine ⟨_,rfl,_,rfl,pa,_,rfl,.inl (zM.of (SL1 _ _ epa)),λp2 hp2=>?_⟩
  have yL2:=zL hp2 (HO.lst pv)
  have ep2:=zJ (H:=L1) (a:=p2) (o:=HO.lst pv)
  generalize hhL2:upd L1 p2 (HO.lst pv)=L2 at yL2 ep2 |-
  have SL2:=SL1.trans yL2
  have hPQ:Paired (PQ ac L2) sv (ms.map zv):=uN (λ_ _ z=>ug z) (yN SL2 hsv)
  refine ⟨_,rfl,so,_,(ms.map zv),rfl,SL2 _ _ eso,hPQ,(vJ M),(by rw [List.length_map]; have:=M.l3; omega),λbl lvB JB yB ebl hB=>?_⟩
  have SL3:=SL2.trans yB
  replace ep2:=(yB _ _ ep2)
  refine ⟨_,_,_,AK.int (n:Int),AK.lst (bs.map yC),AK.lst ((ms.map zv).map P6.mode),6,rfl,.int _,.lst ep2 (vk (yA SL3 hpv)),.lst ebl hB,ui (by omega),uh (vJ M) (by rw [List.length_map]; have:=M.l3; omega),λL9 z9=>?_⟩
  have sd:=kY (p:=AK.lst (bs.map yC)) (ms:=AK.lst ((ms.map zv).map P6.mode)) n1 n3 (kX bo) (by
   rw [uP]
   refine kr (λz=>?_) λq hq=>?_
   ·have:=congrArg List.length z
    rw [List.length_map] at this
    have l1:=M.l1
    have:ms.length=0:=this
    omega
   ·obtain ⟨m9,h9,rfl⟩:=List.mem_map.mp hq
    exact YZ (M.ok m9 h9))
  rw [kW sd (by
   rw [uP]
   have:yL (AK.lst ((ms.map zv).map P6.mode))=(ms.length:Int):=by
    show (((ms.map zv).map P6.mode).length:Int)=_
    rw [List.length_map,List.length_map]
   rw [this]
   have:=M.l3
   omega)]
  refine ⟨rfl,_,rfl,yK rfl ?_⟩
  have SL4:=SL3.trans z9
  replace ep2:=(z9 _ _ ep2)
  replace ebl:=(z9 _ _ ebl)
  replace hB:=(zG z9 hB)
  exact ⟨_,rfl,SL4⟩
 rintro σ L0 ⟨o8,rfl,sm⟩
 exact q _
end
end K12
namespace L2
open PySem PySem.Spec PyProof.Rows
theorem jp {α:Type} {P:List α->Prop} (h:∀ x0:α,P [x0]):∀ us:List α,us.length=1->P us
 | [x0],_=>h x0
theorem uk {α:Type} {P:List α->Prop} (h:∀ x0 x1:α,P [x0,x1]):∀ us:List α,us.length=2->P us
 | [x0,x1],_=>h x0 x1
theorem jq {α:Type} {P:List α->Prop} (h:∀ x0 x1 x2:α,P [x0,x1,x2]):∀ us:List α,us.length=3->P us
 | [x0,x1,x2],_=>h x0 x1 x2
theorem jr {α:Type} {P:List α->Prop} (h:∀ x0 x1 x2 x3:α,P [x0,x1,x2,x3]):∀ us:List α,us.length=4->P us
 | [x0,x1,x2,x3],_=>h x0 x1 x2 x3
theorem js {α:Type} {P:List α->Prop} (h:∀ x0 x1 x2 x3 x4 x5 x6:α,P [x0,x1,x2,x3,x4,x5,x6]):∀ us:List α,us.length=7->P us
 | [x0,x1,x2,x3,x4,x5,x6],_=>h x0 x1 x2 x3 x4 x5 x6
structure Gf (K:W.Frag) (x:Str) (st:Stmt) (f:Addr) (fd:FuncData):Prop where
 at_:W.nsIn K mainGlobals x=some (some (.ref f))
 F:yT K x x st f fd
noncomputable abbrev Ge (K:W.Frag) (x:Str) (st:Stmt):Prop:=∃ f fd,Gf K x st f fd
structure Gm (K:W.Frag) (C:Addr) (x q:Str) (st:Stmt) (f:Addr) (fd:FuncData):Prop where
 at_:W.findIn K (.ref C) x=some (some (.ref f))
 fn:W.isFn K (.ref f)=true
 F:yT K x q st f fd
noncomputable abbrev Gn (K:W.Frag) (C:Addr) (x q:Str) (st:Stmt):Prop:=∃ f fd,Gm K C x q st f fd
structure Gd (K:W.Frag) (x:Str) (st:Stmt) (f:Addr) (fd:FuncData) (d:Value):Prop where
 at_:W.nsIn K mainGlobals x=some (some (.ref f))
 F:xH K x x st f fd d
noncomputable abbrev Gi (K:W.Frag) (x:Str) (st:Stmt) (i:Int):Prop:=∃ f fd t,Gd K x st f fd (.int i t)
structure Gc (K:W.Frag) (x:Str) (C:Addr):Prop where
 nm:W.nsIn K mainGlobals x=some (some (.ref C))
 pg:W.plainGet K C Str.empty=true
 hd:W.hasDictIn K C=true
 po:W.plainOver K C=true
 sa:W.findIn K (.ref C) "__setattr__" = some (some (.builtin "object.__setattr__"))
 mk_:W.makesIn K C=true
 kc:W.keepIn K (.ref C)=true
 ha:W.findIn K (.ref C) "__class__" = some (some (.builtin "object.__class__"))
 hn:W.specialIn K (.builtin "object.__class__") "__get__" = some (some (.builtin "getset_descriptor.__get__"))
 tk:W.takesIn K (.builtin "object.__class__")=some true
 hm:W.mroIn K C (.type "object")=some true
section
variable {P:Program} {w:World} {K:W.Frag} {mg:Str->Option Value} {base h:Heap} {x q:Str} {st:Stmt} {f C T:Addr} {fd:FuncData} {ps:List Str} {k:Nat} {sp:Sp} {oc kV doc pm cdv ct oT:Value} {od an dT:Option Addr} {osl sT:Array (Option Value)}
theorem jt (a:W.nsIn K mainGlobals x=some (some (.ref f))) (l:K.lookup f=some ⟨oc,od,.func (W.fnOf x x (xr st) (yQ st) (zQ st) .none kV doc pm an cdv ct),osl⟩) (c:W.codeIn K cdv x=true) (k:W.keepIn K (.ref f)=true):Ge K x st:=⟨f,_,a,Zg l c k⟩
theorem ju (a:W.findIn K (.ref C) x=some (some (.ref f))) (i:W.isFn K (.ref f)=true) (l:K.lookup f=some ⟨oc,od,.func (W.fnOf x q (xr st) (yQ st) (zQ st) .none kV doc pm an cdv ct),osl⟩) (c:W.codeIn K cdv q=true) (k:W.keepIn K (.ref f)=true):Gn K C x q st:=⟨f,_,a,i,Zg l c k⟩
theorem jv {i:Int} {t:Tok} {n:Nat} (a:W.nsIn K mainGlobals x=some (some (.ref f))) (l:K.lookup f=some ⟨oc,od,.func (W.fnOf x x (xr st) (yQ st) (zQ st) (.ref T) kV doc pm an cdv ct),osl⟩) (c:W.codeIn K cdv x=true) (k:W.keepIn K (.ref f)=true) (d:K.lookup T=some ⟨oT,dT,.seq #[.int i t] n,sT⟩):Gi K x st i:=⟨f,_,t,a,Xx l c k d rfl⟩
theorem Gc.cls (g:Gc K x C) (X:K.In h) (G:h.Ns mainGlobals mg):zS K mg x C:=⟨⟨g.pg,g.hd,g.po,g.sa⟩,W.mg_of X G g.nm,g.ha,g.hn,g.tk,g.hm⟩
noncomputable abbrev Bn (x q:Str) (st:Stmt) (ps:List Str):Prop:=∀ (kV doc pm:Value) (an:Option Addr) (cdv ct:Value) (us:List Value),us.length=ps.length->bindArgs (W.fnOf x q (xr st) (yQ st) (zQ st) .none kV doc pm an cdv ct) ⟨us,[]⟩=pure (ps.zip us)
structure Wh (P:Program) (w:World) (K:W.Frag) (mg:Str->Option Value) (base h:Heap):Prop where
 X:K.In h
 G:h.Ns mainGlobals mg
theorem Gf.fn (g:Gf K x st f fd) (Y:Wh P w K mg base h) (o:zP P w K mg base zX k f fd ps sp) (b:Bn x x st ps:=by intro _ _ _ _ _ _; first | exact L2.jp λ_=>rfl | exact L2.uk λ_ _=>rfl | exact L2.jq λ_ _ _=>rfl | exact L2.jr λ_ _ _ _=>rfl | exact L2.js λ_ _ _ _ _ _ _=>rfl):Fn P w K mg base x ps k sp:=⟨f,fd,o,W.mg_of Y.X Y.G g.at_,g.F.kp,g.F.binds b⟩
theorem Gm.fm (g:Gm K C x q st f fd) (_:Wh P w K mg base h) (o:zP P w K mg base zX k f fd ps sp) (b:Bn x q st ps:=by intro _ _ _ _ _ _; first | exact L2.jp λ_=>rfl | exact L2.uk λ_ _=>rfl | exact L2.jq λ_ _ _=>rfl | exact L2.jr λ_ _ _ _=>rfl | exact L2.js λ_ _ _ _ _ _ _=>rfl):qN P w K mg base C x ps k sp:=⟨f,fd,o,⟨g.at_,g.fn,g.F.kp⟩,g.F.binds b⟩
theorem Gm.fc {y:Str} (g:Gm K C "__init__" q st f fd) (_:Wh P w K mg base h) (c:Gc K y C) (o:zP P w K mg base zX k f fd ps sp) (b:Bn "__init__" q st ps:=by intro _ _ _ _ _ _; first | exact L2.jp λ_=>rfl | exact L2.uk λ_ _=>rfl | exact L2.jq λ_ _ _=>rfl | exact L2.jr λ_ _ _ _=>rfl | exact L2.js λ_ _ _ _ _ _ _=>rfl):uH P w K mg base C ps k sp:=⟨f,fd,o,⟨c.mk_,g.at_,g.fn,c.kc⟩,g.F.binds b⟩
theorem Gm.fcx {y:Str} (g:Gm K C "__init__" q st f fd) (_:Wh P w K mg base h) (c:Gc K y C) (o:zP P w K mg base (xv P w) k f fd ps sp) (b:Bn "__init__" q st ps:=by intro _ _ _ _ _ _; first | exact L2.jp λ_=>rfl | exact L2.uk λ_ _=>rfl | exact L2.jq λ_ _ _=>rfl | exact L2.jr λ_ _ _ _=>rfl | exact L2.js λ_ _ _ _ _ _ _=>rfl):wK P w K mg base C ps k sp:=⟨f,fd,o,⟨c.mk_,g.at_,g.fn,c.kc⟩,g.F.binds b⟩
theorem Gf.fh {spH:Addr->Sp} (g:Gf K x st f fd) (Y:Wh P w K mg base h) (o:uK P w K mg base zX k f fd ps spH) (b:Bn x x st ps:=by intro _ _ _ _ _ _; first | exact L2.jp λ_=>rfl | exact L2.uk λ_ _=>rfl | exact L2.jq λ_ _ _=>rfl | exact L2.jr λ_ _ _ _=>rfl | exact L2.js λ_ _ _ _ _ _ _=>rfl):ud P w K mg base x ps k spH:=⟨f,fd,o,W.mg_of Y.X Y.G g.at_,g.F.kp,g.F.binds b⟩
theorem Gd.fn {i:Int} {t:Tok} (g:Gd K x st f fd (.int i t)) (Y:Wh P w K mg base h) (b:∀ (T:Addr) (kV doc pm:Value) (an:Option Addr) (cdv ct:Value) (us:List Value),us.length=ps.length->∃ k:Option (Array Value)->Sem (List (Str × Value)),bindArgs (W.fnOf x x (xr st) (yQ st) (zQ st) (.ref T) kV doc pm an cdv ct) ⟨us,[]⟩=seqItems? (.ref T) >>= k/\k (some #[.int i t])=pure (ps.zip us))
  (d:∀ (T:Addr) (kV doc pm:Value) (an:Option Addr) (cdv ct:Value) (us:List Value),us.length + 1=ps.length->∃ k:Option (Array Value)->Sem (List (Str × Value)),bindArgs (W.fnOf x x (xr st) (yQ st) (zQ st) (.ref T) kV doc pm an cdv ct) ⟨us,[]⟩=seqItems? (.ref T) >>= k/\k (some #[.int i t])=pure (ps.zip (us++[.int i t]))) (o:zP P w K mg base zX k f fd ps sp):vT P w K mg base x ps k sp (.int i):=
 ⟨f,fd,_,o,W.mg_of Y.X Y.G g.at_,g.F.kp,g.F.binds b,g.F.binds1 d,⟨_,rfl⟩⟩
end
end L2
namespace K12
open PySem L2 Sh
theorem all_mk {l:W.OpenLaw} {w:World} {K:W.Frag} {h:Heap} {mg:Str->Option Value} {fa:Addr} (X:K.In h) (G:h.Ns mainGlobals mg) (hfa:mg "law" = some (.ref fa))
  {ac ad C1 C2 c2 c3 c4 c5 c6 c7 c8 c9 cS:Addr}
  (GMode:Gc K "Mode" ac)
  (GThing:Gc K "Thing" ad)
  (aN:W.findIn K (.ref ac) "rows" = some none)
  (aO:W.findIn K (.ref ac) "nexts" = some none)
  (aP:W.findIn K (.ref ac) "steer" = some none)
  (aQ:W.findIn K (.ref ac) "push" = some none)
  (aR:W.findIn K (.ref ac) "add" = some none)
  (aS:W.findIn K (.ref ac) "divisor" = some none)
  (aT:W.findIn K (.ref ad) "many" = some none)
  (aU:W.findIn K (.ref ad) "kept_pushes" = some none)
  (aV:W.findIn K (.ref ad) "kept_modes" = some none)
  (m0:W.nsIn K mainGlobals "BadThing" = some (some (.ref C1)))
  (m1:W.nsIn K mainGlobals "TooMany" = some (some (.ref C2)))
  (m2:W.nsIn K mainGlobals "BadRule" = some (some (.ref c2)))
  (m3:W.nsIn K mainGlobals "BadTurn" = some (some (.ref c3)))
  (m4:W.nsIn K mainGlobals "NoNumber" = some (some (.ref c4)))
  (m5:W.nsIn K mainGlobals "NoRow" = some (some (.ref c5)))
  (m6:W.nsIn K mainGlobals "NoRun" = some (some (.ref c6)))
  (m7:W.nsIn K mainGlobals "NoText" = some (some (.ref c7)))
  (m8:W.nsIn K mainGlobals "NotClosed" = some (some (.ref c8)))
  (m9:W.nsIn K mainGlobals "NotPlain" = some (some (.ref c9)))
  (mS:W.nsIn K mainGlobals "SteadyError" = some (some (.ref cS)))
  (y_mi:W.kitOne K (.ref ac) (.type "int")=some false)
  (y_mb:W.kitOne K (.ref ac) (.type "bool")=some false)
  (y_ml:W.kitOne K (.ref ac) (.type "list")=some false)
  (y_mt:W.kitOne K (.ref ac) (.type "tuple")=some false)
  (y_k1:W.kitOne K (.type "int") (.ref ac)=some false)
  (y_k2:W.kitOne K (.type "bool") (.ref ac)=some false)
  (y_k3:W.kitOne K (.type "NoneType") (.ref ac)=some false)
  (y_k4:W.kitOne K (.type "str") (.ref ac)=some false)
  (y_k5:W.kitOne K (.type "list") (.ref ac)=some false)
  (y_k6:W.kitOne K (.type "tuple") (.ref ac)=some false)
  (y_k7:W.kitOne K (.type "dict") (.ref ac)=some false)
  (x0:W.excIn K C1 [.type "ValueError",.type "Exception",.type "BaseException",.type "object"] "ValueError.__new__" = true)
  (e0ga:W.findIn K (.ref C1) "__getattribute__" = some (some (.builtin "BaseException.__getattribute__")))
  (e0gt:W.findIn K (.ref C1) "__getattr__" = some none)
  (e0ha:W.findIn K (.ref C1) "__class__" = some (some (.builtin "object.__class__")))
  (e0hn:W.specialIn K (.builtin "object.__class__") "__get__" = some (some (.builtin "getset_descriptor.__get__")))
  (e0tk:W.takesIn K (.builtin "object.__class__")=some true)
  (e0mb:W.mroIn K C1 (.type "BaseException")=some true)
  (e0mo:W.mroIn K C1 (.type "object")=some true)
  (v0:W.kitOne K (.ref C1) (.type "ValueError")=some true)
  (s0:W.exmOne K (.ref C1) (.ref cS)=some true)
  (t0_0:W.kitOne K (.ref C1) (.ref C1)=some true)
  (t0_1:W.kitOne K (.ref C1) (.ref C2)=some false)
  (t0_2:W.kitOne K (.ref C1) (.ref c2)=some false)
  (t0_3:W.kitOne K (.ref C1) (.ref c3)=some false)
  (t0_4:W.kitOne K (.ref C1) (.ref c4)=some false)
  (t0_5:W.kitOne K (.ref C1) (.ref c5)=some false)
  (t0_6:W.kitOne K (.ref C1) (.ref c6)=some false)
  (t0_7:W.kitOne K (.ref C1) (.ref c7)=some false)
  (t0_8:W.kitOne K (.ref C1) (.ref c8)=some false)
  (t0_9:W.kitOne K (.ref C1) (.ref c9)=some false)
  (x1:W.excIn K C2 [.type "ValueError",.type "Exception",.type "BaseException",.type "object"] "ValueError.__new__" = true)
  (e1ga:W.findIn K (.ref C2) "__getattribute__" = some (some (.builtin "BaseException.__getattribute__")))
  (e1gt:W.findIn K (.ref C2) "__getattr__" = some none)
  (e1ha:W.findIn K (.ref C2) "__class__" = some (some (.builtin "object.__class__")))
  (e1hn:W.specialIn K (.builtin "object.__class__") "__get__" = some (some (.builtin "getset_descriptor.__get__")))
  (e1tk:W.takesIn K (.builtin "object.__class__")=some true)
  (e1mb:W.mroIn K C2 (.type "BaseException")=some true)
  (e1mo:W.mroIn K C2 (.type "object")=some true)
  (v1:W.kitOne K (.ref C2) (.type "ValueError")=some true)
  (s1:W.exmOne K (.ref C2) (.ref cS)=some true)
  (t1_0:W.kitOne K (.ref C2) (.ref C1)=some false)
  (t1_1:W.kitOne K (.ref C2) (.ref C2)=some true)
  (t1_2:W.kitOne K (.ref C2) (.ref c2)=some false)
  (t1_3:W.kitOne K (.ref C2) (.ref c3)=some false)
  (t1_4:W.kitOne K (.ref C2) (.ref c4)=some false)
  (t1_5:W.kitOne K (.ref C2) (.ref c5)=some false)
  (t1_6:W.kitOne K (.ref C2) (.ref c6)=some false)
  (t1_7:W.kitOne K (.ref C2) (.ref c7)=some false)
  (t1_8:W.kitOne K (.ref C2) (.ref c8)=some false)
  (t1_9:W.kitOne K (.ref C2) (.ref c9)=some false)
  (z0:W.nsIn K mainGlobals "isinstance" = some none)
  (z1:W.nsIn K mainGlobals "int" = some none)
  (z2:W.nsIn K mainGlobals "bool" = some none)
  (z3:W.nsIn K mainGlobals "tuple" = some none)
  (z4:W.nsIn K mainGlobals "len" = some none)
  (z5:W.nsIn K mainGlobals "all" = some none)
  (z6:W.nsIn K mainGlobals "list" = some none)
  (z7:W.nsIn K mainGlobals "range" = some none)
  (z8:W.nsIn K mainGlobals "ValueError" = some none)
  {gt0:Tok} (cst0:W.nsIn K mainGlobals "MOST_NUMBERS" = some (some (.int 3 gt0)))
  {gt1:Tok} (cst1:W.nsIn K mainGlobals "MOST_PUSHES" = some (some (.int 6 gt1)))
  {gt2:Tok} (cst2:W.nsIn K mainGlobals "MOST_MODES" = some (some (.int 40 gt2)))
  : Ge K "is_whole" kB->Ge K "is_numbers" kC->Ge K "is_table" qR->Gi K "copied" ja 5->Ge K "is_row" kD->Ge K "is_room" qU->Ge K "is_push" kE->Ge K "is_mode" kF->Ge K "is_sound" qV->Gn K ac "__init__" "Mode.__init__" kH->Gn K ad "__init__" "Thing.__init__" kI->Ge K "_law_no_whole" vm->Ge K "_law_no_list" jg->Ge K "_law_no_row" jh->Ge K "_law_cell_at" kd->Ge K "_law_stream" kg->Ge K "_law_parts" uf->Ge K "_law_spoilt" xN->Ge K "_law_no_pushes" ye->Ge K "_law_built" ki->Ge K "_law_no_modes" vo->Ge K "_law_word" vp->Ge K "_law_said" kj->Ge K "_law_case" uQ->Ge K "law" uR->∃ fd:FuncData,(∀ (s:Shared) (v:Value),BindsTo s fd ⟨[v],[]⟩ [("_law_script",v)])/\∀ base:Heap,K.In base->base.Ns mainGlobals mg->zP l.prog w K mg base zX 10 fa fd ["_law_script"] (jI K):=by
 rintro ⟨_,_,G0⟩ ⟨_,_,G1⟩ ⟨_,_,G2⟩ ⟨_,_,_,G3⟩ ⟨_,_,G4⟩ ⟨_,_,G5⟩ ⟨_,_,G6⟩ ⟨_,_,G7⟩ ⟨_,_,G8⟩ ⟨_,_,G9⟩ ⟨_,_,G10⟩ ⟨_,_,G11⟩ ⟨_,_,G12⟩ ⟨_,_,G13⟩ ⟨_,_,G14⟩ ⟨_,_,G15⟩ ⟨_,_,G16⟩ ⟨_,_,G17⟩ ⟨_,_,G18⟩ ⟨_,_,G19⟩ ⟨_,_,G20⟩ ⟨_,_,G21⟩ ⟨_,_,G22⟩ ⟨_,_,G23⟩ ⟨_,_,G24⟩
 have e:=hfa.symm.trans (W.mg_of X G G24.at_)
 cases e
 have B:Bl mg:=⟨W.mg_none_of X G z0,W.mg_none_of X G z1,W.mg_none_of X G z2,W.mg_none_of X G z3,W.mg_none_of X G z4,W.mg_none_of X G z5,W.mg_none_of X G z6,W.mg_none_of X G z7,W.mg_none_of X G z8,⟨_,W.mg_of X G cst0⟩,⟨_,W.mg_of X G cst1⟩,⟨_,W.mg_of X G cst2⟩⟩
 have ae:=GMode.cls X G
 have af:yy K ac:=⟨aN,aO,aP,aQ,aR,aS⟩
 have ag:=GThing.cls X G
 have ah:yz K ad:=⟨aT,aU,aV⟩
 have Y:zj K ac:=⟨y_mi,y_mb,y_ml,y_mt,y_k1,y_k2,y_k3,y_k4,y_k5,y_k6,y_k7⟩
 have Z:yx K mg C1 C2:=⟨W.mg_of X G m0,x0,W.mg_of X G m1,x1,c2,c3,c4,c5,c6,c7,c8,c9,cS,⟨W.mg_of X G m0,W.mg_of X G m1,W.mg_of X G m2,W.mg_of X G m3,W.mg_of X G m4,W.mg_of X G m5,W.mg_of X G m6,W.mg_of X G m7,W.mg_of X G m8,W.mg_of X G m9,W.mg_of X G mS⟩,⟨⟨e0ga,e0gt,e0ha,e0hn,e0tk,e0mb,e0mo⟩,v0,s0,t0_0,t0_1,t0_2,t0_3,t0_4,t0_5,t0_6,t0_7,t0_8,t0_9⟩,⟨⟨e1ga,e1gt,e1ha,e1hn,e1tk,e1mb,e1mo⟩,v1,s1,t1_0,t1_1,t1_2,t1_3,t1_4,t1_5,t1_6,t1_7,t1_8,t1_9⟩⟩
 obtain ⟨_,_,kV,dc,pm,an,cd,ct,_,rfl,_⟩:=G24.F.ex
 refine ⟨W.fnOf "law" "law" (xr uR) (yQ uR) (zQ uR) .none kV dc pm an cd ct,λs v=>.of_eq rfl,λbase _ _=>?_⟩
 have Yw:Wh l.prog w K mg base h:=⟨X,G⟩
 have N0:=G0.fn Yw (Wz (k:=0) ae af ag ah Y Z G0.F B )
 have N1:=G1.fn Yw (W1 (k:=1) ae af ag ah Y Z G1.F B N0.mono)
 have N2:=G2.fn Yw (W3 (k:=2) ae af ag ah Y Z G2.F B N1.mono)
 have D3:=λ{k sp}=>G3.fn (ps:=["value","depth"]) (k:=k) (sp:=sp) Yw (λ_ _ _ _ _ _ _=>L2.uk λ_ _=>⟨_,rfl,rfl⟩) λ_ _ _ _ _ _ _ us hl=>match us,hl with | [_],_=>⟨_,rfl,rfl⟩
 have N3_0:=D3 (zP.no (k:=1) (sp:=(jV ac 0)) Wf)
 have N3_1:=D3 (qS (k:=1) (d0:=0) ae af ag ah Y Z G3.F B N3_0.mono)
 have N3_2:=D3 (qS (k:=2) (d0:=1) ae af ag ah Y Z G3.F B N3_1.mono)
 have N3_3:=D3 (qS (k:=3) (d0:=2) ae af ag ah Y Z G3.F B N3_2.mono)
 have N3_4:=D3 (qS (k:=4) (d0:=3) ae af ag ah Y Z G3.F B N3_3.mono)
 have N3:=N3_4
 have N4:=G4.fn Yw (W6 (k:=1) ae af ag ah Y Z G4.F B N0.mono)
 have N5:=G5.fn Yw (W8 (k:=2) ae af ag ah Y Z G5.F B N4.mono)
 have N6:=G6.fn Yw (UA (k:=1) ae af ag ah Y Z G6.F B N0.mono)
 have N7:=G7.fn Yw (UC (k:=3) ae af ag ah Y Z G7.F B N5.mono N2.mono N1.mono N0.mono)
 have N8:=G8.fn Yw (UH (k:=4) ae af ag ah Y Z G8.F B N0.mono N6.mono N7.mono)
 have N9:=G9.fc Yw GMode (UJ (k:=5) ae af ag ah Y Z G9.F B N3.mono)
 have NX10:=G10.fcx Yw GThing (UL (k:=5) ae af ag ah Y Z G10.F B N8.mono)
 have N11:=G11.fn Yw (Uc (k:=0) ae af ag ah Y Z G11.F B )
 have N12:=G12.fn Yw (Ud (k:=1) ae af ag ah Y Z G12.F B N11.mono)
 have N13:=G13.fn Yw (Ue (k:=1) ae af ag ah Y Z G13.F B N11.mono)
 have N14:=G14.fn Yw (Ug (k:=0) ae af ag ah Y Z G14.F B )
 have N15:=G15.fn Yw (Uh (k:=0) ae af ag ah Y Z G15.F B )
 have N16:=G16.fn Yw (Ui (k:=1) ae af ag ah Y Z G16.F B N15.mono)
 have N17:=G17.fn Yw (Uj (k:=2) ae af ag ah Y Z G17.F B N13.mono N12.mono)
 have N18:=G18.fn Yw (Uk (k:=0) ae af ag ah Y Z G18.F B )
 have N19:=G19.fn Yw (Um (k:=6) ae af ag ah Y Z G19.F B N9.mono)
 have N20:=G20.fn Yw (Uo (k:=0) ae af ag ah Y Z G20.F B )
 have N21:=G21.fh Yw (Up (k:=0) ae af ag ah Y Z G21.F B )
 have N22:=G22.fn Yw (Uq (k:=6) ae af ag ah Y Z G22.F B NX10.mono N21.mono)
 have N23:=G23.fn Yw (Uv (k:=8) ae af ag ah Y Z G23.F B N14.mono N17.mono N19.mono N18.mono N20.mono)
 exact Uy (k:=9) ae af ag ah Y Z G24.F B N14.mono N16.mono N23.mono N22.mono N19.mono
theorem walk {l:PySem.W.OpenLaw} {q:Program} {loose:List Str} {XP:(Str->Option Value)->Heap->Prop} {YP:World->Heap->Prop} {d:DefRec} {K:Params->PySem.W.Frag} (hn:l.most=some 63) (hdf:d.params.defaults=[])
  (hY:∀ (w:World) (h:Heap),YP w h->(K w.params).In h)
  (F:∀ (w:World) (mg:Str->Option Value) (fa:Addr) (h:Heap),(K w.params).In h->h.Ns mainGlobals mg->mg d.name=some (.ref fa)->
   ∃ fd:FuncData,(∀ (s:Shared) (u:Value),BindsTo s fd ⟨[u],[]⟩ [("_law_script",u)])/\∀ base:Heap,(K w.params).In base->base.Ns mainGlobals mg->zP l.prog w (K w.params) mg base zX 10 fa fd ["_law_script"] (jI (K w.params))) :
  PySem.W.WalkO q loose XP YP l.row.toRowW d [] (λf vs=>PySem.call f vs):=
 L2.Xn (n:=63) (k:=10) (x:="_law_script") (CX:=λ_=>zX) (sp:=λw=>jI (K w.params)) hn (by decide) hdf ⟨rfl,by decide,by decide⟩ hY F (λ_ _ a ns hl _ hS=>⟨a,ns,rfl,hS,hl,λ_=>rfl⟩) λ_ _ _ _ _ z=>z
end K12
open PySem PySem.W PyProof.Rows
set_option maxRecDepth 100000 in
set_option maxHeartbeats 0 in
theorem PySem.Challenge.cw_steadyhand_k12_things_refused_holds : PySem.Challenge.rw_steadyhand_k12_things_refused.Holds := by
 w_on; o_law
 refine holds_open (q:=H12.vw) (loose:=H12.lo) (Xt:=H12.xt) (XP:=XL H12.vw []) (Yf:=(kHook H12.KK H12.ks H12.ke).obs) (Ya:=(kHook H12.KK H12.ks H12.ke).val) (YP:=(kHook H12.KK H12.ks H12.ke).says) H12.left
  (kHook H12.KK H12.ks H12.ke).of (kHook H12.KK H12.ks H12.ke).keeps
  (λs e=>xl_of s (Bool.and_eq_true_iff.mp e).1) XL.keeps (by rfl) (by rfl) (by rfl)
  (λs e=>recFacts_of (Bool.and_eq_true_iff.mp e).2) (by rfl) (by assumption) (by decide +kernel)
  ⟨rfl,rfl,rfl,rfl,rfl,by decide +kernel⟩ ?hw ?hc
 case hw=>w_witness2
 rename_i sd
 clear sd
 k_fill
 refine K12.walk (l:=PySem.Challenge.rw_steadyhand_k12_things_refused) rfl rfl (λw h Y=>PySem.W.kIn_of Y) ?F
 case F=>
  intro w mg fa h KX G hmg
  refine' K12.all_mk KX G hmg ?g_Mode ?g_Thing ?_ ?_ ?_ ?_ ?_ ?_ ?_ ?_ ?_ ?p_m0 ?p_m1 ?p_m2 ?p_m3 ?p_m4 ?p_m5 ?p_m6 ?p_m7 ?p_m8 ?p_m9 ?p_mS ?p_y_mi ?p_y_mb ?p_y_ml ?p_y_mt ?p_y_k1 ?p_y_k2 ?p_y_k3 ?p_y_k4 ?p_y_k5 ?p_y_k6 ?p_y_k7 ?p_x0 ?p_e0ga ?p_e0gt ?p_e0ha ?p_e0hn ?p_e0tk ?p_e0mb ?p_e0mo ?p_v0 ?p_s0 ?p_t0_0 ?p_t0_1 ?p_t0_2 ?p_t0_3 ?p_t0_4 ?p_t0_5 ?p_t0_6 ?p_t0_7 ?p_t0_8 ?p_t0_9 ?p_x1 ?p_e1ga ?p_e1gt ?p_e1ha ?p_e1hn ?p_e1tk ?p_e1mb ?p_e1mo ?p_v1 ?p_s1 ?p_t1_0 ?p_t1_1 ?p_t1_2 ?p_t1_3 ?p_t1_4 ?p_t1_5 ?p_t1_6 ?p_t1_7 ?p_t1_8 ?p_t1_9 ?_ ?_ ?_ ?_ ?_ ?_ ?_ ?_ ?_ ?_ ?_ ?_ ?_ ?_ ?_ ?_ ?_ ?_ ?_ ?_ ?_ ?_ ?_ ?_ ?_ ?_ ?_ ?_ ?_ ?_ ?_ ?_ ?_ ?_ ?_ ?_ ?_
  (case g_Mode=>refine' L2.Gc.mk ?a ?b ?c ?d ?e ?f ?g ?h ?i ?j ?k; (case a=>k_is); (case b=>k_is); (case c=>k_is); (case d=>k_is); (case e=>k_is); (case f=>k_is); (case g=>k_is); (case h=>k_is); (case i=>k_is); (case j=>k_is); (case k=>k_is))
  (case g_Thing=>refine' L2.Gc.mk ?a ?b ?c ?d ?e ?f ?g ?h ?i ?j ?k; (case a=>k_is); (case b=>k_is); (case c=>k_is); (case d=>k_is); (case e=>k_is); (case f=>k_is); (case g=>k_is); (case h=>k_is); (case i=>k_is); (case j=>k_is); (case k=>k_is))
  (case p_m0|p_m1|p_m2|p_m3|p_m4|p_m5|p_m6|p_m7|p_m8|p_m9|p_mS=>k_is)
  (case p_y_mi=>first | kit_is | k_is | rfl | decide +kernel)
  (case p_y_mb=>first | kit_is | k_is | rfl | decide +kernel)
  (case p_y_ml=>first | kit_is | k_is | rfl | decide +kernel)
  (case p_y_mt=>first | kit_is | k_is | rfl | decide +kernel)
  (case p_y_k1=>first | kit_is | k_is | rfl | decide +kernel)
  (case p_y_k2=>first | kit_is | k_is | rfl | decide +kernel)
  (case p_y_k3=>first | kit_is | k_is | rfl | decide +kernel)
  (case p_y_k4=>first | kit_is | k_is | rfl | decide +kernel)
  (case p_y_k5=>first | kit_is | k_is | rfl | decide +kernel)
  (case p_y_k6=>first | kit_is | k_is | rfl | decide +kernel)
  (case p_y_k7=>first | kit_is | k_is | rfl | decide +kernel)
  (case p_x0=>k_exc)
  (case p_e0ga|p_e0gt|p_e0ha|p_e0hn|p_e0tk|p_e0mb|p_e0mo=>k_is)
  (case p_v0=>first | kit_is | k_is | rfl | decide +kernel)
  (case p_s0=>first | kit_is | k_is | rfl | decide +kernel)
  (case p_t0_0=>first | kit_is | k_is | rfl | decide +kernel)
  (case p_t0_1=>first | kit_is | k_is | rfl | decide +kernel)
  (case p_t0_2=>first | kit_is | k_is | rfl | decide +kernel)
  (case p_t0_3=>first | kit_is | k_is | rfl | decide +kernel)
  (case p_t0_4=>first | kit_is | k_is | rfl | decide +kernel)
  (case p_t0_5=>first | kit_is | k_is | rfl | decide +kernel)
  (case p_t0_6=>first | kit_is | k_is | rfl | decide +kernel)
  (case p_t0_7=>first | kit_is | k_is | rfl | decide +kernel)
  (case p_t0_8=>first | kit_is | k_is | rfl | decide +kernel)
  (case p_t0_9=>first | kit_is | k_is | rfl | decide +kernel)
  (case p_x1=>k_exc)
  (case p_e1ga|p_e1gt|p_e1ha|p_e1hn|p_e1tk|p_e1mb|p_e1mo=>k_is)
  (case p_v1=>first | kit_is | k_is | rfl | decide +kernel)
  (case p_s1=>first | kit_is | k_is | rfl | decide +kernel)
  (case p_t1_0=>first | kit_is | k_is | rfl | decide +kernel)
  (case p_t1_1=>first | kit_is | k_is | rfl | decide +kernel)
  (case p_t1_2=>first | kit_is | k_is | rfl | decide +kernel)
  (case p_t1_3=>first | kit_is | k_is | rfl | decide +kernel)
  (case p_t1_4=>first | kit_is | k_is | rfl | decide +kernel)
  (case p_t1_5=>first | kit_is | k_is | rfl | decide +kernel)
  (case p_t1_6=>first | kit_is | k_is | rfl | decide +kernel)
  (case p_t1_7=>first | kit_is | k_is | rfl | decide +kernel)
  (case p_t1_8=>first | kit_is | k_is | rfl | decide +kernel)
  (case p_t1_9=>first | kit_is | k_is | rfl | decide +kernel)
  any_goals first | (refine' L2.Gc.mk ?a ?b ?c ?d ?e ?f ?g ?h ?i ?j ?k; (case a=>k_is); (case b=>k_is); (case c=>k_is); (case d=>k_is); (case e=>k_is); (case f=>k_is); (case g=>k_is); (case h=>k_is); (case i=>k_is); (case j=>k_is); (case k=>k_is)) | (refine' L2.jt ?a ?l ?c ?k; (case a=>k_is); (case l=>k_is); (case c=>k_is); (case k=>k_is)) | (refine' L2.ju ?a ?i ?l ?c ?k; (case a=>k_is); (case i=>k_is); (case l=>k_is); (case c=>k_is); (case k=>k_is)) | (refine' L2.jv ?a ?l ?c ?k ?d; (case a=>k_is); (case l=>k_is); (case c=>k_is); (case k=>k_is); (case d=>k_is)) | k_is
#print axioms PySem.Challenge.cw_steadyhand_k12_things_refused_holds
