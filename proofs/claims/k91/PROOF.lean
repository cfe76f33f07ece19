import PyProof.Rows.All
import Wide.All
import OpenK.AllK
import Wide.FinOn
import Lean
import PyProof.EqAt
import PyProof.EqKinds
import PyProof.TupleCall
import PyProof.ZipIter
import PyProof.Draws
import PyProof.StationsW
import PyProof.EnumStmt
import PyProof.EnumMake
import PyProof.StrLawsTight
import PyProof.Rows.StrIntSpec
import PyProof.Rows.StrDigitsNeg
import PyProof.Rows.CatFin
import PyProof.Rows.StrSplitJoin
import PyProof.StrWalks
import PySem.Challenge.RW_steadyhand_k91_points_rooms_runs_as_text
set_option Elab.async false
set_option linter.all false
set_option maxRecDepth 100000
set_option maxHeartbeats 0
namespace TT
open PySem PySem.W
noncomputable def runT (tb:String->Option Builtin) (p:Program) (w:World) (k:Nat) (an:Option Value):Nat->SharedT->Thread->Option SharedT
 | 0,_,_=>none
 | j + 1,x,t=>match through t with
  | true=>some x
  | false=>match stepOk k an t with
   | false=>none
   | true=>match stepT (denote tb) p w x t with
    | none=>none
    | some y=>runT tb p w k an j y.1 y.2
theorem qo {tb:String->Option Builtin} {p:Program} {w:World} {k:Nat} {an:Option Value}:∀ (j:Nat) (x y:SharedT) (t:Thread),runT tb p w k an j x t=some y->topRun tb p w k an j x.abs t=some y.abs
 | 0,_,_,_,e=>by cases e
 | j + 1,x,y,t,e=>by
  unfold runT at e
  unfold topRun
  cases e1:through t with
  | true=>
   rw [e1] at e
   cases e
   rfl
  | false=>
   rw [e1] at e
   cases e2:stepOk k an t with
   | false=>rw [e2] at e; cases e
   | true=>
    rw [e2] at e
    cases e3:stepT (denote tb) p w x t with
    | none=>rw [e3] at e; cases e
    | some z=>
     rw [e3] at e
     rw [stepT_spec e3]
     exact qo j z.1 y z.2 e
theorem left_is {p q:Program} {lo:List Str} {xt:Shared->Bool} {α:Type} {Yf:Shared->α} {Ya:World->α} {N k n0:Nat} {an:Option Value} {tr:Params->BT} (op:∀ w:World,(fencedOpening treeTable p w N).map (λs=>(s.heap,s.gens,s.drawn,s.toks))=some (boot_heap w.params,Array.mk [],boot_drawn,boot_toks))
  (et:∀ P:Params,absHeap (tr P) n0 (boot_heap P).life=boot_heap P) (z1:∀ P:Params,(boot_heap P).isNs mainGlobals=true) (z2:∀ P:Params,(boot_heap P).objs.size=k) (z3:∀ P:Params,(boot_heap P).nsMap mainGlobals "__annotations__" = an)
  (h:∀ (w:World) (os:OsState),(runT treeTable p w k an N ⟨tr w.params,n0,(boot_heap w.params).life,Array.mk [],boot_drawn,boot_toks,os⟩ (topStub p)).map (λs=>((staticsOk (importedModules p.main.body) (boot_heap w.params) s.abs.heap && namesBound p s.abs.heap && gensDone s.abs && laidKept (boot_heap w.params) s.abs.heap),openSeen q lo (importedModules p.main.body) xt true s.abs,Yf s.abs))=some (true,openGood q lo,Ya w)) :
  LeftO p q lo xt Yf Ya N:=λw=>by
 obtain ⟨⟨hp,gs,d,tk,os⟩,e,e'⟩:=Option.map_eq_some_iff.mp (op w)
 injection e' with a1 e'
 injection e' with a2 e'
 injection e' with a3 a4
 subst a1 a2 a3 a4
 obtain ⟨y,ey,eo⟩:=Option.map_eq_some_iff.mp (h w os)
 injection eo with l1 eo
 injection eo with l2 l3
 have r:=qo _ _ _ _ ey
 have r':topRun treeTable p w k an N ⟨boot_heap w.params,Array.mk [],boot_drawn,boot_toks,os⟩ (topStub p)=some y.abs:=by
  rw [<- r]
  unfold SharedT.abs
  rw [et]
 have f:topFrom treeTable p w N ⟨boot_heap w.params,Array.mk [],boot_drawn,boot_toks,os⟩=some y.abs:=by
  unfold topFrom
  show (match (boot_heap w.params).isNs mainGlobals && true with | true=>_ | false=>_)=_
  rw [z1,z2,z3,r']
  show (match (_ && _ && _ && _) with | true=>_ | false=>_)=_
  rw [l1]
 unfold openEnds
 rw [e]
 show (topFrom treeTable p w N _).map _=_
 rw [f]
 exact congrArg some (Prod.ext l2 l3)
end TT
namespace H91
open PySem PySem.W
set_option maxRecDepth 100000
noncomputable def hT (i:Nat):Stmt:=PySem.Challenge.pw_steadyhand_k91_points_rooms_runs_as_text.main.body.getD i (.Pass ⟨0,0,0,0⟩)
noncomputable def hI (i j:Nat):Stmt:=match hT i with
 | .ClassDef _ _ _ b _ _ _ _ _ _ _=>b.getD j (.Pass ⟨0,0,0,0⟩)
 | s=>s
noncomputable def hA:Stmt->Arguments
 | .FunctionDef _ a _ _ _ _ _ _ _ _=>a
 | _=>⟨[],[],none,[],[],none,[]⟩
noncomputable def hB:Stmt->List Stmt
 | .FunctionDef _ _ b _ _ _ _ _ _ _=>b
 | _=>[]
noncomputable def hC:Stmt->Scope
 | .FunctionDef _ _ _ _ _ _ c _ _ _=>c
 | _=>{ kind:=.function,names:=[],isGenerator:=false,isCoroutine:=false }
noncomputable abbrev hS (s:String) (n:Nat):Value:=.str (Str.ofString s) n
noncomputable abbrev hE (P:Params) (s:String) (n:Nat) (v:Value):DictEntry:=⟨PyData.keyHash P (Str.ofString s),hS s n,v⟩
noncomputable abbrev hU (x:Array Value):Obj:={ cls:=.type "tuple",data:=.seq x }
noncomputable abbrev hD (s:String) (a:Nat) (s2:String) (b c:Nat) (i j f:Int) (r1 r2:Nat) (u v t r:Value) (y z:Int) (d:Nat):Obj:={ cls:=.type "code",data:=.fields #[hS s a,hS s2 b,hS "/claim/cut.py" c,.int i 0,.int j 0,.int 0 0,.int 0 0,.int f 0,.ref r1,.bool true,.int 181 0,.ref r2,u,v,t,r,.int y 0,.int z 0,hS "/claim/cut.py" d] }
noncomputable abbrev hF (n q:String) (s:Stmt) (d k:Value) (m:String) (j c:Nat):Obj:={ cls:=.type "function",data:=.func { name:=n,qualname:=q,params:=hA s,body:=.stmts (hB s),scope:=hC s,globals:=3,closure:=[],defaults:=d,kwdefaults:=k,pyModule:=hS m j,code:=.ref c } }
noncomputable def KK:Params->Frag:=λP=>
 (nat_lit 2,{ cls:=.none,data:=.dict #[] })::(nat_lit 3,{ cls:=.type "dict",data:=.dict #[hE P "__name__" 165 (hS "law_steadyhand_k91_points_rooms_runs_as_text" 407),hE P "__doc__" 166 (.none),hE P "__package__" 167 (.none),hE P "__loader__" 168 (.builtin "__main__.__loader__#opaque"),hE P "__spec__" 169 (.none),hE P "__annotations__" 170 (.ref 6),hE P "__builtins__" 171 (.ref 4),hE P "__file__" 173 (hS "/claim/cut.py" 172),hE P "__cached__" 174 (.none),hE P "SteadyError" 206 (.ref 24),hE P "NoNumber" 222 (.ref 37),hE P "NoText" 238 (.ref 49),hE P "is_whole" 247 (.ref 58),hE P "common_divisor" 258 (.ref 65),hE P "is_fraction" 265 (.ref 72),hE P "fraction" 275 (.ref 80),hE P "FIGURES" 279 (hS "0123456789" 278),hE P "MOST_FIGURES" 281 (.int 60 280),hE P "NO_ROWS" 283 (hS "all" 282),hE P "ROW_BREAK" 285 (hS ", " 284),hE P "STEP_BREAK" 287 (hS "; " 286),hE P "show_words" 293 (.ref 85),hE P "show_fraction" 300 (.ref 92),hE P "show_room" 306 (.ref 97),hE P "show_point" 312 (.ref 102),hE P "show_step" 319 (.ref 109),hE P "show_run" 325 (.ref 114),hE P "split_text" 333 (.ref 121),hE P "read_number" 341 (.ref 128),hE P "are_figures" 347 (.ref 133),hE P "read_numbers" 353 (.ref 138),hE P "read_fraction" 363 (.ref 145),hE P "read_tuples" 369 (.ref 150),hE P "read_room" 377 (.ref 157),hE P "read_point" 385 (.ref 164),hE P "read_fractions" 391 (.ref 169),hE P "read_run" 397 (.ref 174),hE P "read_step" 406 (.ref 181),hE P "_law_cell_at" 416 (.ref 188),hE P "_law_stream" 428 (.ref 195),hE P "_law_draws" 437 (.ref 202),hE P "_law_number" 446 (.ref 209),hE P "_law_divisor" 454 (.ref 216),hE P "_law_value" 466 (.ref 223),hE P "_law_text" 473 (.ref 230),hE P "_law_plain" 480 (.ref 237),hE P "_law_room" 486 (.ref 242),hE P "_law_rooms_right" 492 (.ref 247),hE P "_law_run" 498 (.ref 252),hE P "_law_runs_right" 504 (.ref 257),hE P "law" 510 (.ref 262)] 51 })::(nat_lit 15,hU #[.type "ValueError"])::(nat_lit 22,hU #[])::(nat_lit 23,{ cls:=.type "dict",data:=.dict #[hE P "__module__" 196 (hS "steadyhand.errors" 187),hE P "__firstlineno__" 200 (.int 2 199),hE P "__static_attributes__" 201 (.ref 22),hE P "__weakref__" 203 (.ref 25),hE P "__doc__" 204 (.none)] 3 })::(nat_lit 24,{ cls:=.type "type",data:=.cls { name:="SteadyError",bases:=[.type "ValueError"],mro:=[.ref 24,.type "ValueError",.type "Exception",.type "BaseException",.type "object"],ns:=23,qualname:="SteadyError",subclasses:=[.ref 37,.ref 49] },slots:=#[some (.ref 15),none,some (hS "SteadyError" 189),some (hS "SteadyError" 197),some (.builtin "ValueError.__new__"),some (.bool true)] })::(nat_lit 25,{ cls:=.type "getset_descriptor",data:=.fields #[hS "__weakref__" 202,.ref 24,.builtin "ExceptionGroup.__weakref__",.none] })::(nat_lit 28,hU #[.ref 24])::(nat_lit 35,hU #[])::(nat_lit 36,{ cls:=.type "dict",data:=.dict #[hE P "__module__" 214 (hS "steadyhand.errors" 187),hE P "__firstlineno__" 218 (.int 4 217),hE P "__static_attributes__" 219 (.ref 35),hE P "__doc__" 220 (.none)] 2 })::(nat_lit 37,{ cls:=.type "type",data:=.cls { name:="NoNumber",bases:=[.ref 24],mro:=[.ref 37,.ref 24,.type "ValueError",.type "Exception",.type "BaseException",.type "object"],ns:=36,qualname:="NoNumber" },slots:=#[some (.ref 28),none,some (hS "NoNumber" 207),some (hS "NoNumber" 215),some (.builtin "ValueError.__new__"),some (.bool true)] })::(nat_lit 40,hU #[.ref 24])::(nat_lit 47,hU #[])::(nat_lit 48,{ cls:=.type "dict",data:=.dict #[hE P "__module__" 230 (hS "steadyhand.errors" 187),hE P "__firstlineno__" 234 (.int 6 233),hE P "__static_attributes__" 235 (.ref 47),hE P "__doc__" 236 (.none)] 2 })::(nat_lit 49,{ cls:=.type "type",data:=.cls { name:="NoText",bases:=[.ref 24],mro:=[.ref 49,.ref 24,.type "ValueError",.type "Exception",.type "BaseException",.type "object"],ns:=48,qualname:="NoText" },slots:=#[some (.ref 40),none,some (hS "NoText" 223),some (hS "NoText" 231),some (.builtin "ValueError.__new__"),some (.bool true)] })::(nat_lit 52,hU #[])::(nat_lit 54,hU #[hS "thing" 244])::(nat_lit 55,hU #[])::(nat_lit 57,hD "is_whole" 241 "is_whole" 242 243 9 1 3 52 53 .none (.ref 54) (.ref 55) (.ref 56) 245 9 246)::(nat_lit 58,hF "is_whole" "is_whole" (hT 5) .none .none "steadyhand.fractions" 239 57)::(nat_lit 59,hU #[])::(nat_lit 61,hU #[hS "numbers" 251,hS "common" 252,hS "number" 253,hS "rest" 254,hS "left" 255])::(nat_lit 62,hU #[])::(nat_lit 64,hD "common_divisor" 248 "common_divisor" 249 250 11 1 3 59 60 .none (.ref 61) (.ref 62) (.ref 63) 256 11 257)::(nat_lit 65,hF "common_divisor" "common_divisor" (hT 6) .none .none "steadyhand.fractions" 239 64)::(nat_lit 66,hU #[])::(nat_lit 68,hU #[hS "thing" 262])::(nat_lit 69,hU #[])::(nat_lit 71,hD "is_fraction" 259 "is_fraction" 260 261 20 1 3 66 67 .none (.ref 68) (.ref 69) (.ref 70) 263 20 264)::(nat_lit 72,hF "is_fraction" "is_fraction" (hT 7) .none .none "steadyhand.fractions" 239 71)::(nat_lit 73,hU #[.int 1 266])::(nat_lit 74,hU #[])::(nat_lit 76,hU #[hS "top" 270,hS "bottom" 271,hS "common" 272])::(nat_lit 77,hU #[])::(nat_lit 79,hD "fraction" 267 "fraction" 268 269 26 2 3 74 75 .none (.ref 76) (.ref 77) (.ref 78) 273 26 274)::(nat_lit 80,hF "fraction" "fraction" (hT 8) (.ref 73) .none "steadyhand.fractions" 239 79)::(nat_lit 81,hU #[])::(nat_lit 84,hD "show_words" 288 "show_words" 289 290 41 1 3 81 82 .none .none .none (.ref 83) 291 41 292)::(nat_lit 85,hF "show_words" "show_words" (hT 15) .none .none "steadyhand.texts" 276 84)::(nat_lit 86,hU #[])::(nat_lit 88,hU #[hS "value" 297])::(nat_lit 89,hU #[])::(nat_lit 91,hD "show_fraction" 294 "show_fraction" 295 296 43 1 3 86 87 .none (.ref 88) (.ref 89) (.ref 90) 298 43 299)::(nat_lit 92,hF "show_fraction" "show_fraction" (hT 16) .none .none "steadyhand.texts" 276 91)::(nat_lit 93,hU #[])::(nat_lit 96,hD "show_room" 301 "show_room" 302 303 47 1 3 93 94 .none .none .none (.ref 95) 304 47 305)::(nat_lit 97,hF "show_room" "show_room" (hT 17) .none .none "steadyhand.texts" 276 96)::(nat_lit 98,hU #[])::(nat_lit 101,hD "show_point" 307 "show_point" 308 309 51 1 3 98 99 .none .none .none (.ref 100) 310 51 311)::(nat_lit 102,hF "show_point" "show_point" (hT 18) .none .none "steadyhand.texts" 276 101)::(nat_lit 103,hU #[])::(nat_lit 105,hU #[hS "step" 316])::(nat_lit 106,hU #[])::(nat_lit 108,hD "show_step" 313 "show_step" 314 315 53 1 3 103 104 .none (.ref 105) (.ref 106) (.ref 107) 317 53 318)::(nat_lit 109,hF "show_step" "show_step" (hT 19) .none .none "steadyhand.texts" 276 108)::(nat_lit 110,hU #[])::(nat_lit 113,hD "show_run" 320 "show_run" 321 322 55 1 3 110 111 .none .none .none (.ref 112) 323 55 324)::(nat_lit 114,hF "show_run" "show_run" (hT 20) .none .none "steadyhand.texts" 276 113)::(nat_lit 115,hU #[])::(nat_lit 117,hU #[hS "text" 329,hS "separator" 330])::(nat_lit 118,hU #[])::(nat_lit 120,hD "split_text" 326 "split_text" 327 328 57 2 3 115 116 .none (.ref 117) (.ref 118) (.ref 119) 331 57 332)::(nat_lit 121,hF "split_text" "split_text" (hT 21) .none .none "steadyhand.texts" 276 120)::(nat_lit 122,hU #[])::(nat_lit 124,hU #[hS "text" 337,hS "figures" 338])::(nat_lit 125,hU #[])::(nat_lit 127,hD "read_number" 334 "read_number" 335 336 61 1 3 122 123 .none (.ref 124) (.ref 125) (.ref 126) 339 61 340)::(nat_lit 128,hF "read_number" "read_number" (hT 22) .none .none "steadyhand.texts" 276 127)::(nat_lit 129,hU #[])::(nat_lit 132,hD "are_figures" 342 "are_figures" 343 344 66 1 3 129 130 .none .none .none (.ref 131) 345 66 346)::(nat_lit 133,hF "are_figures" "are_figures" (hT 23) .none .none "steadyhand.texts" 276 132)::(nat_lit 134,hU #[])::(nat_lit 137,hD "read_numbers" 348 "read_numbers" 349 350 70 2 3 134 135 .none .none .none (.ref 136) 351 70 352)::(nat_lit 138,hF "read_numbers" "read_numbers" (hT 24) .none .none "steadyhand.texts" 276 137)::(nat_lit 139,hU #[])::(nat_lit 141,hU #[hS "text" 357,hS "parts" 358,hS "numbers" 359,hS "value" 360])::(nat_lit 142,hU #[])::(nat_lit 144,hD "read_fraction" 354 "read_fraction" 355 356 74 1 3 139 140 .none (.ref 141) (.ref 142) (.ref 143) 361 74 362)::(nat_lit 145,hF "read_fraction" "read_fraction" (hT 25) .none .none "steadyhand.texts" 276 144)::(nat_lit 146,hU #[])::(nat_lit 149,hD "read_tuples" 364 "read_tuples" 365 366 83 2 3 146 147 .none .none .none (.ref 148) 367 83 368)::(nat_lit 150,hF "read_tuples" "read_tuples" (hT 26) .none .none "steadyhand.texts" 276 149)::(nat_lit 151,hU #[])::(nat_lit 153,hU #[hS "text" 373,hS "many" 374])::(nat_lit 154,hU #[])::(nat_lit 156,hD "read_room" 370 "read_room" 371 372 85 2 3 151 152 .none (.ref 153) (.ref 154) (.ref 155) 375 85 376)::(nat_lit 157,hF "read_room" "read_room" (hT 27) .none .none "steadyhand.texts" 276 156)::(nat_lit 158,hU #[])::(nat_lit 160,hU #[hS "text" 381,hS "many" 382])::(nat_lit 161,hU #[])::(nat_lit 163,hD "read_point" 378 "read_point" 379 380 89 2 3 158 159 .none (.ref 160) (.ref 161) (.ref 162) 383 89 384)::(nat_lit 164,hF "read_point" "read_point" (hT 28) .none .none "steadyhand.texts" 276 163)::(nat_lit 165,hU #[])::(nat_lit 168,hD "read_fractions" 386 "read_fractions" 387 388 91 2 3 165 166 .none .none .none (.ref 167) 389 91 390)::(nat_lit 169,hF "read_fractions" "read_fractions" (hT 29) .none .none "steadyhand.texts" 276 168)::(nat_lit 170,hU #[])::(nat_lit 173,hD "read_run" 392 "read_run" 393 394 95 2 3 170 171 .none .none .none (.ref 172) 395 95 396)::(nat_lit 174,hF "read_run" "read_run" (hT 30) .none .none "steadyhand.texts" 276 173)::(nat_lit 175,hU #[])::(nat_lit 177,hU #[hS "words" 401,hS "wide" 402,hS "values" 403])::(nat_lit 178,hU #[])::(nat_lit 180,hD "read_step" 398 "read_step" 399 400 99 2 3 175 176 .none (.ref 177) (.ref 178) (.ref 179) 404 99 405)::(nat_lit 181,hF "read_step" "read_step" (hT 31) .none .none "steadyhand.texts" 276 180)::(nat_lit 182,hU #[])::(nat_lit 184,hU #[hS "_law_script" 412,hS "_law_k" 413])::(nat_lit 185,hU #[])::(nat_lit 187,hD "_law_cell_at" 409 "_law_cell_at" 410 411 103 2 3 182 183 .none (.ref 184) (.ref 185) (.ref 186) 414 103 415)::(nat_lit 188,hF "_law_cell_at" "_law_cell_at" (hT 33) .none .none "law_steadyhand_k91_points_rooms_runs_as_text" 407 187)::(nat_lit 189,hU #[])::(nat_lit 191,hU #[hS "_law_cell" 420,hS "_law_many" 421,hS "_law_found" 422,hS "_law_rest" 423,hS "_law_k" 424,hS "_law_number_here" 425])::(nat_lit 192,hU #[])::(nat_lit 194,hD "_law_stream" 417 "_law_stream" 418 419 107 2 3 189 190 .none (.ref 191) (.ref 192) (.ref 193) 426 107 427)::(nat_lit 195,hF "_law_stream" "_law_stream" (hT 34) .none .none "law_steadyhand_k91_points_rooms_runs_as_text" 407 194)::(nat_lit 196,hU #[])::(nat_lit 198,hU #[hS "_law_cell" 432,hS "_law_k" 433,hS "_law_many" 434])::(nat_lit 199,hU #[])::(nat_lit 201,hD "_law_draws" 429 "_law_draws" 430 431 120 3 3 196 197 .none (.ref 198) (.ref 199) (.ref 200) 435 120 436)::(nat_lit 202,hF "_law_draws" "_law_draws" (hT 35) .none .none "law_steadyhand_k91_points_rooms_runs_as_text" 407 201)::(nat_lit 203,hU #[])::(nat_lit 205,hU #[hS "_law_number_here" 441,hS "_law_cell" 442,hS "_law_size" 443])::(nat_lit 206,hU #[])::(nat_lit 208,hD "_law_number" 438 "_law_number" 439 440 124 2 3 203 204 .none (.ref 205) (.ref 206) (.ref 207) 444 124 445)::(nat_lit 209,hF "_law_number" "_law_number" (hT 36) .none .none "law_steadyhand_k91_points_rooms_runs_as_text" 407 208)::(nat_lit 210,hU #[])::(nat_lit 212,hU #[hS "_law_one" 450,hS "_law_other" 451])::(nat_lit 213,hU #[])::(nat_lit 215,hD "_law_divisor" 447 "_law_divisor" 448 449 131 2 3 210 211 .none (.ref 212) (.ref 213) (.ref 214) 452 131 453)::(nat_lit 216,hF "_law_divisor" "_law_divisor" (hT 37) .none .none "law_steadyhand_k91_points_rooms_runs_as_text" 407 215)::(nat_lit 217,hU #[])::(nat_lit 219,hU #[hS "_law_number_here" 458,hS "_law_other" 459,hS "_law_cell" 460,hS "_law_top" 461,hS "_law_bottom" 462,hS "_law_share" 463])::(nat_lit 220,hU #[])::(nat_lit 222,hD "_law_value" 455 "_law_value" 456 457 135 3 3 217 218 .none (.ref 219) (.ref 220) (.ref 221) 464 135 465)::(nat_lit 223,hF "_law_value" "_law_value" (hT 38) .none .none "law_steadyhand_k91_points_rooms_runs_as_text" 407 222)::(nat_lit 224,hU #[])::(nat_lit 226,hU #[hS "_law_value_here" 470])::(nat_lit 227,hU #[])::(nat_lit 229,hD "_law_text" 467 "_law_text" 468 469 142 1 3 224 225 .none (.ref 226) (.ref 227) (.ref 228) 471 142 472)::(nat_lit 230,hF "_law_text" "_law_text" (hT 39) .none .none "law_steadyhand_k91_points_rooms_runs_as_text" 407 229)::(nat_lit 231,hU #[])::(nat_lit 233,hU #[hS "_law_found" 477])::(nat_lit 234,hU #[])::(nat_lit 236,hD "_law_plain" 474 "_law_plain" 475 476 146 1 3 231 232 .none (.ref 233) (.ref 234) (.ref 235) 478 146 479)::(nat_lit 237,hF "_law_plain" "_law_plain" (hT 40) .none .none "law_steadyhand_k91_points_rooms_runs_as_text" 407 236)::(nat_lit 238,hU #[])::(nat_lit 241,hD "_law_room" 481 "_law_room" 482 483 150 3 3 238 239 .none .none .none (.ref 240) 484 150 485)::(nat_lit 242,hF "_law_room" "_law_room" (hT 41) .none .none "law_steadyhand_k91_points_rooms_runs_as_text" 407 241)::(nat_lit 243,hU #[])::(nat_lit 246,hD "_law_rooms_right" 487 "_law_rooms_right" 488 489 156 2 3 243 244 .none .none .none (.ref 245) 490 156 491)::(nat_lit 247,hF "_law_rooms_right" "_law_rooms_right" (hT 42) .none .none "law_steadyhand_k91_points_rooms_runs_as_text" 407 246)::(nat_lit 248,hU #[])::(nat_lit 251,hD "_law_run" 493 "_law_run" 494 495 168 3 3 248 249 .none .none .none (.ref 250) 496 168 497)::(nat_lit 252,hF "_law_run" "_law_run" (hT 43) .none .none "law_steadyhand_k91_points_rooms_runs_as_text" 407 251)::(nat_lit 253,hU #[])::(nat_lit 256,hD "_law_runs_right" 499 "_law_runs_right" 500 501 175 2 3 253 254 .none .none .none (.ref 255) 502 175 503)::(nat_lit 257,hF "_law_runs_right" "_law_runs_right" (hT 44) .none .none "law_steadyhand_k91_points_rooms_runs_as_text" 407 256)::(nat_lit 258,hU #[])::(nat_lit 261,hD "law" 505 "law" 506 507 192 1 3 258 259 .none .none .none (.ref 260) 508 192 509)::(nat_lit 262,hF "law" "law" (hT 45) .none .none "law_steadyhand_k91_points_rooms_runs_as_text" 407 261) :: []
noncomputable def ks:List Addr:=[2,3,15,22,23,24,25,28,35,36,37,40,47,48,49,52,54,55,57,58,59,61,62,64,65,66,68,69,71,72,73,74,76,77,79,80,81,84,85,86,88,89,91,92,93,96,97,98,101,102,103,105,106,108,109,110,113,114,115,117,118,120,121,122,124,125,127,128,129,132,133,134,137,138,139,141,142,144,145,146,149,150,151,153,154,156,157,158,160,161,163,164,165,168,169,170,173,174,175,177,178,180,181,182,184,185,187,188,189,191,192,194,195,196,198,199,201,202,203,205,206,208,209,210,212,213,215,216,217,219,220,222,223,224,226,227,229,230,231,233,234,236,237,238,241,242,243,246,247,248,251,252,253,256,257,258,261,262]
theorem ke:∀ P:Params,ks=(KK P).map (·.1):=λ_=>by
 kernel_rfl
noncomputable def vw:Program:={ PySem.Challenge.pw_steadyhand_k91_points_rooms_runs_as_text with main:={ PySem.Challenge.pw_steadyhand_k91_points_rooms_runs_as_text.main with body:=[hT 1,hT 2,hT 3,hT 5,hT 6,hT 7,hT 10,hT 11,hT 12,hT 13,hT 14,hT 15,hT 16,hT 17,hT 18,hT 19,hT 20,hT 21,hT 22,hT 23,hT 24,hT 25,hT 26,hT 27,hT 28,hT 29,hT 30,hT 31,hT 33,hT 34,hT 35,hT 36,hT 37,hT 38,hT 39,hT 40,hT 41,hT 42,hT 43,hT 44,hT 45] } }
noncomputable def lo:List Str:=[Str.ofString "fraction"]
noncomputable abbrev rr:RowW:=(OpenLaw.row PySem.Challenge.rw_steadyhand_k91_points_rooms_runs_as_text).toRowW
noncomputable abbrev xt:Shared->Bool:=λs=>xlAt vw [] s && recOk rr.records s
noncomputable def bt:Params->BT:=λP=>(.node (boot_o_0 P) (.node (boot_o_1 P) (.node (boot_o_3 P) (.node (boot_o_7 P) .nil .nil) .nil) (.node (boot_o_5 P) (.node (boot_o_9 P) .nil .nil) .nil)) (.node (boot_o_2 P) (.node (boot_o_4 P) (.node (boot_o_8 P) .nil .nil) .nil) (.node (boot_o_6 P) (.node (boot_o_10 P) .nil .nil) .nil)))
noncomputable def lhs (T:Params->BT) (h:Params->Heap) (d:Drawn) (k:Nat) (w:World) (os:OsState):=(TT.runT treeTable PySem.Challenge.pw_steadyhand_k91_points_rooms_runs_as_text w 11 (some (.ref 6)) 3466 ⟨T w.params,11,(h w.params).life,Array.mk [],d,k,os⟩ (topStub PySem.Challenge.pw_steadyhand_k91_points_rooms_runs_as_text)).map (λs=>((staticsOk (importedModules PySem.Challenge.pw_steadyhand_k91_points_rooms_runs_as_text.main.body) (h w.params) s.abs.heap && namesBound PySem.Challenge.pw_steadyhand_k91_points_rooms_runs_as_text s.abs.heap && gensDone s.abs && laidKept (h w.params) s.abs.heap),openSeen vw lo (importedModules PySem.Challenge.pw_steadyhand_k91_points_rooms_runs_as_text.main.body) xt true s.abs,ks.map s.abs.heap.get?))
noncomputable def rhs (F:Params->Frag) (w:World) (_:OsState):=some (true,openGood vw lo,(F w.params).map λp=>some p.2)
lay_quick lhs rhs
theorem same (w:World) (os:OsState):PySem.W.Fast.tw2589584205695095326 bt boot_heap boot_drawn boot_toks w os=PySem.W.Fast.tw14679343449655619245 KK w os:=by
 kernel_rfl
theorem left:LeftO rr.prog vw lo xt (kHook KK ks ke).obs (kHook KK ks ke).val 3466:=
 TT.left_is (boot_open (by kernel_rfl) (by decide) (λ_=>by kernel_rfl)) (λ_=>by kernel_rfl) (λ_=>by kernel_rfl) (λ_=>by kernel_rfl) (λ_=>by kernel_rfl)
  λw os=>(congrArg (λf=>f bt boot_heap boot_drawn boot_toks w os) PySem.W.Fast.te2589584205695095326).trans ((same w os).trans (congrFun (congrFun (congrFun PySem.W.Fast.te14679343449655619245 KK) w) os).symm)
end H91
namespace L2
open PySem PySem.Spec PyProof.Rows
noncomputable abbrev zj:=Sum Int Str
noncomputable def qp:zj->Value->Bool
 | .inl k,v=>Value.isInt k v
 | .inr x,v=>Value.isStrOf x v
noncomputable def jX (w:World):zj->Int
 | .inl k=>hashInt k
 | .inr x=>hashStr w x
theorem xR:∀ {k:zj} {v:Value},qp k v=true->(∃ i t,k=Sum.inl i/\v=Value.int i t)\/(∃ x t,k=Sum.inr x/\v=Value.str x t)
 | .inl i,v,h=>by
  obtain ⟨t,e⟩:=Value.isInt_shape (k:=i) (v:=v) h
  exact .inl ⟨i,t,rfl,e⟩
 | .inr x,v,h=>by
  obtain ⟨t,e⟩:=Value.isStrOf_shape (x:=x) (v:=v) h
  exact .inr ⟨x,t,rfl,e⟩
theorem kd (a b:Int):decide ((Sum.inl a:zj)=Sum.inl b)=(a == b):=by
 by_cases e:a=b
 ·subst e; simp
 ·have h:¬ (Sum.inl a:zj)=Sum.inl b:=λq=>e (Sum.inl.inj q)
  rw [decide_eq_false h]
  exact (beq_eq_false_iff_ne.mpr e).symm
theorem kg (a b:Str):decide ((Sum.inr a:zj)=Sum.inr b)=decide (a=b):=by
 by_cases e:a=b
 ·subst e; simp
 ·have h:¬ (Sum.inr a:zj)=Sum.inr b:=λq=>e (Sum.inr.inj q)
  rw [decide_eq_false h,decide_eq_false e]
theorem kh (a:Int) (b:Str):decide ((Sum.inl a:zj)=Sum.inr b)=false:=decide_eq_false (λq=>nomatch q)
theorem ki (a:Str) (b:Int):decide ((Sum.inr a:zj)=Sum.inl b)=false:=decide_eq_false (λq=>nomatch q)
noncomputable def qq (prog:Program) (w:World):PySem.KeyKind prog w zj where
 is:=qp
 hash:=jX w
 inj:=λv a b ha hb=>by
  rcases xR ha with ⟨i,t,rfl,rfl⟩ | ⟨x,t,rfl,rfl⟩
  ·rcases xR hb with ⟨j,u,rfl,e⟩ | ⟨y,u,rfl,e⟩
   ·injection e with e1 _; rw [e1]
   ·exact nomatch e
  ·rcases xR hb with ⟨j,u,rfl,e⟩ | ⟨y,u,rfl,e⟩
   ·exact nomatch e
   ·injection e with e1 _; rw [e1]
 byValue:=λk v h=>by
  rcases xR h with ⟨i,t,rfl,rfl⟩ | ⟨x,t,rfl,rfl⟩ <;> rfl
 pyHash:=λhv h=>by
  rcases xR hv with ⟨i,t,rfl,rfl⟩ | ⟨x,t,rfl,rfl⟩
  ·exact wpAny_pyHash_int h
  ·exact wpAny_pyHash_str h
 eqBool:=λhu hv h=>by
  rcases xR hu with ⟨i,t,rfl,rfl⟩ | ⟨x,t,rfl,rfl⟩
  ·rcases xR hv with ⟨j,u,rfl,rfl⟩ | ⟨y,u,rfl,rfl⟩
   ·rw [kd] at h; exact wpAny_eqBool_int h
   ·rw [kh] at h; exact SeqAt.EqAt.int_str i t y u _ _ _ _ h
  ·rcases xR hv with ⟨j,u,rfl,rfl⟩ | ⟨y,u,rfl,rfl⟩
   ·rw [ki] at h; exact SeqAt.EqAt.str_int x t j u _ _ _ _ h
   ·rw [kg] at h; exact wpAny_eqBool_str h
 «strs»:=λk x t v h=>by
  rcases xR h with ⟨i,u,rfl,e⟩ | ⟨y,u,rfl,e⟩
  ·exact nomatch e
  ·injection e with e1 _
   subst e1
   cases v <;> rfl
end L2
namespace L2
open PySem PySem.Spec PyProof.Rows
inductive V where
 | non | bl (b:Bool) | int (i:Int) | str (x:Str) | byt (b:Array UInt8) | flt (b:UInt64) | ref (a:Addr) | ty (n:String)
 deriving DecidableEq
noncomputable def zI:V->Value->Prop
 | .non,u=>u=Value.none
 | .bl b,u=>u=Value.bool b
 | .int i,u=>∃ t,u=Value.int i t
 | .str x,u=>∃ t,u=Value.str x t
 | .byt b,u=>∃ t,u=Value.bytes b t
 | .flt b,u=>∃ t,u=Value.float b t
 | .ref a,u=>u=Value.ref a
 | .ty n,u=>u=Value.type n
noncomputable abbrev zF:List V->List Value->Prop:=Paired zI
theorem zF.length {xs:List V} {us:List Value} (r:zF xs us):xs.length=us.length:=Paired.length r
theorem zF.get:∀ {xs:List V} {us:List Value} {i:Nat} {x:V},zF xs us->xs[i]? = some x->∃ u,us[i]? = some u/\zI x u
 | _,_,_,_,.nil,e=>by simp at e
 | _,_,0,_,.cons r _,e=>by simp at e; subst e; exact ⟨_,rfl,r⟩
 | _,_,i + 1,x,.cons _ t,e=>by
  obtain ⟨u,h1,h2⟩:=zF.get (i:=i) (x:=x) t (by simpa using e)
  exact ⟨u,by simpa using h1,h2⟩
theorem zF.set {x:V} {u:Value} (r:zI x u):∀ {xs:List V} {us:List Value} (i:Nat),zF xs us->zF (xs.set i x) (us.set i u)
 | _,_,_,.nil=>.nil
 | _,_,0,.cons _ t=>.cons r t
 | _,_,i + 1,.cons q t=>.cons q (zF.set r i t)
theorem zF.append:∀ {xs ys:List V} {us ws:List Value},zF xs us->zF ys ws->zF (xs++ys) (us++ws)
 | _,_,_,_,.nil,s=>s
 | _,_,_,_,.cons r t,s=>.cons r (zF.append t s)
theorem zF.take:∀ {xs:List V} {us:List Value} (n:Nat),zF xs us->zF (xs.take n) (us.take n)
 | _,_,0,_=>.nil
 | _,_,_ + 1,.nil=>.nil
 | _,_,n + 1,.cons r t=>.cons r (zF.take n t)
theorem zF.drop:∀ {xs:List V} {us:List Value} (n:Nat),zF xs us->zF (xs.drop n) (us.drop n)
 | _,_,0,r=>r
 | _,_,_ + 1,.nil=>.nil
 | _,_,n + 1,.cons _ t=>zF.drop n t
noncomputable def ye:Option V->Option Value->Prop
 | some v,some u=>zI v u
 | none,none=>True
 | _,_=>False
noncomputable def KV {κ:Type}:List (κ × V)->List (κ × Value)->Prop:=Paired λ(p:κ × V) (q:κ × Value)=>p.1=q.1/\zI p.2 q.2
noncomputable def kV:zj->V
 | .inl i=>.int i
 | .inr x=>.str x
inductive HO where
 | lst (xs:List V)
 | tup (xs:List V)
 | dK (kvs:List (zj × V)) | dT (kvs:List (List zj × V))
 | set (S:Int->Bool) (n:Nat)
 | ins (C dx:Addr) (fs:List (Str × V))
 | own (x:Addr)
 | xd (fs:List (Str × V))
 | met (f x:Addr)
 | rng (lo hi:Int)
 | frz (o:Obj) (u:HO)
 | tbl (ps:Array Value)
 | ext (φ:Heap->Prop)
noncomputable abbrev Hp:=Addr->Option HO
noncomputable def upd (H:Hp) (a:Addr) (o:HO):Hp:=λb=>if b=a then some o else H b
theorem zP {H:Hp} {a:Addr} {o:HO}:upd H a o a=some o:=by unfold upd; rw [if_pos rfl]
theorem zk {H:Hp} {a b:Addr} {o:HO} (h:b≠a):upd H a o b=H b:=by unfold upd; rw [if_neg h]
theorem qr {H:Hp} {a:Addr} {o u:HO}:upd (upd H a o) a u=upd H a u:=by
 funext b; unfold upd; split <;> rfl
theorem qt {H:Hp} {a b:Addr} {o u:HO} (h:H a=some o) (h':H b=some u) (d:o≠u):a≠b:=by
 intro e; subst e; rw [h] at h'; exact d (Option.some.inj h')
theorem x6 {H:Hp} {a b:Addr} {o:HO} (h:H a=some o) (h':H b=none):a≠b:=by
 intro e; subst e; rw [h] at h'; cases h'
section
variable (P:Program) (w:World)
noncomputable def yL (H:Hp) (h:Heap) (a:Addr):HO->Prop
 | .lst xs=>xs.length<=sizeLine/\∃ (its:List Value) (n:Nat),zF xs its/\h.get? a=some { cls:=.type "list",data:=.seq its.toArray n }
 | .tup xs=>xs.length<=sizeLine/\∃ its:List Value,zF xs its/\IsTup h a its.toArray
 | .dK kvs=>kvs.length<=sizeLine/\(a == sysModules)=false/\∃ vs,KV kvs vs/\h.DictOf (qq P w) a vs
 | .dT kvs=>kvs.length<=sizeLine/\(a == sysModules)=false/\∃ xs:List (List zj × Addr × Value),
   Paired (λ(p:List zj × V) (q:List zj × Addr × Value)=>p.1=q.1/\H q.2.1=some (.tup (p.1.map kV))/\zI p.2 q.2.2) kvs xs∧
   ∃ o es ep,h.get? a=some o/\o.ExactDict/\o.data=.dict es ep/\es.toList=xs.map (entryOfKey (tupleKind (qq P w)))/\(xs.map (·.1)).Nodup
 | .set S n=>h.SetOf (intKind P w) a S n
 | .ins C dx fs=>H dx=some (.own a)/\fs.length<=1000/\dx≠a/\h.get? a=some (PySem.W.instObj C dx)∧
   ∃ mA,h.Ns1 dx mA/\(∀ f,ye (fs.lookup f) (mA f))/\PySem.Within mA (fs.map (·.1))
 | .own _=>∃ o,h.get? a=some o
 | .xd fs=>∃ mA,h.Ns1 a mA/\∀ f,ye (fs.lookup f) (mA f)
 | .rng lo hi=>∃ t u v,h.get? a=some { cls:=.type "range",data:=.fields #[.int lo t,.int hi u,.int 1 v] }
 | .frz o u=>h.get? a=some o/\yL H h a u
 | .tbl ps=>h.get? a=some { cls:=.none,data:=.fields ps }
 | .met f x=>h.get? a=some (PySem.W.methodObj (.ref f) (.ref x))
 | .ext φ=>φ h/\(∃ o,h.get? a=some o)/\∀ h1 h2:Heap,φ h1->(∀ o,h1.get? a=some o->h2.get? a=some o)->φ h2
noncomputable def yD (H:Hp) (h:Heap):Prop:=∀ a o,H a=some o->yL P w H h a o
end
section
variable {P:Program} {w:World} {H H':Hp} {h h':Heap} {a:Addr} {o:HO}
theorem yL.lt (x:yL P w H h a o):a < h.objs.size:=by
 cases o with
 | lst xs=>obtain ⟨_,_,_,_,e⟩:=x; exact Heap.lt_size e
 | tup xs=>obtain ⟨_,_,_,p⟩:=x; exact p.lt
 | dK kvs=>obtain ⟨_,_,_,_,o,_,_,e,_⟩:=x; exact Heap.lt_size e
 | dT kvs=>obtain ⟨_,_,_,_,o,_,_,e,_⟩:=x; exact Heap.lt_size e
 | set S n=>obtain ⟨o,_,_,_,e,_⟩:=x; exact Heap.lt_size e
 | ins C dx fs=>obtain ⟨_,_,_,e,_⟩:=x; exact Heap.lt_size e
 | own y=>obtain ⟨_,e⟩:=x; exact Heap.lt_size e
 | xd fs=>obtain ⟨_,⟨_,_,_,e,_⟩,_⟩:=x; exact Heap.lt_size e
 | rng lo hi=>obtain ⟨_,_,_,e⟩:=x; exact Heap.lt_size e
 | frz ob u=>obtain ⟨e,_⟩:=x; exact Heap.lt_size e
 | tbl ps=>exact Heap.lt_size (show h.get? a=some _ from x)
 | met f y=>exact Heap.lt_size (show h.get? a=some _ from x)
 | ext φ=>obtain ⟨_,⟨_,e⟩,_⟩:=x; exact Heap.lt_size e
theorem Paired.mapP {α β:Type} {F G:α->β->Prop}:∀ {l₁:List α} {l₂:List β},Paired F l₁ l₂->(∀ a b,F a b->G a b)->Paired G l₁ l₂
 | _,_,.nil,_=>.nil
 | _,_,.cons r t,f=>.cons (f _ _ r) (Paired.mapP t f)
theorem yL.stay (x:yL P w H h a o) (k:∀ b u,(b=a\/H b=some (.own a))->h.get? b=some u->h'.get? b=some u)
  (ho:∀ b,H b=some (.own a)->H' b=some (.own a)) (ht:∀ b xs,H b=some (.tup xs)->H' b=some (.tup xs)):yL P w H' h' a o:=by
 induction o with
 | lst xs=>obtain ⟨z,its,n,r,e⟩:=x; exact ⟨z,its,n,r,k _ _ (.inl rfl) e⟩
 | tup xs=>obtain ⟨z,its,r,ob,e,c⟩:=x; exact ⟨z,its,r,ob,k _ _ (.inl rfl) e,c⟩
 | dK kvs=>obtain ⟨z,y,vs,r,ob,es,ep,e,c⟩:=x; exact ⟨z,y,vs,r,ob,es,ep,k _ _ (.inl rfl) e,c⟩
 | dT kvs=>
  obtain ⟨z,y,xs,r,ob,es,ep,e,c⟩:=x
  exact ⟨z,y,xs,Paired.mapP r λp q z=>⟨z.1,ht _ _ z.2.1,z.2.2⟩,ob,es,ep,k _ _ (.inl rfl) e,c⟩
 | set S n=>obtain ⟨ob,es,ep,t,e,c⟩:=x; exact ⟨ob,es,ep,t,k _ _ (.inl rfl) e,c⟩
 | ins C dx fs=>
  obtain ⟨d,z,ne,e,mA,⟨od,es,ep,e2,c⟩,r⟩:=x
  exact ⟨ho _ d,z,ne,k _ _ (.inl rfl) e,mA,⟨od,es,ep,k _ _ (.inr d) e2,c⟩,r⟩
 | own y=>obtain ⟨ob,e⟩:=x; exact ⟨ob,k _ _ (.inl rfl) e⟩
 | xd fs=>obtain ⟨mA,⟨od,es,ep,e,c⟩,r⟩:=x; exact ⟨mA,⟨od,es,ep,k _ _ (.inl rfl) e,c⟩,r⟩
 | rng lo hi=>obtain ⟨t,u,v,e⟩:=x; exact ⟨t,u,v,k _ _ (.inl rfl) e⟩
 | frz ob u ih=>obtain ⟨e,q⟩:=x; exact ⟨k _ _ (.inl rfl) e,ih q⟩
 | tbl ps=>
  have e:h.get? a=some { cls:=.none,data:=.fields ps }:=x
  show h'.get? a=some { cls:=.none,data:=.fields ps }
  exact k a _ (.inl rfl) e
 | met f y=>
  have e:h.get? a=some (PySem.W.methodObj (.ref f) (.ref y)):=x
  show h'.get? a=some (PySem.W.methodObj (.ref f) (.ref y))
  exact k a _ (.inl rfl) e
 | ext φ=>obtain ⟨p,⟨o,e⟩,st⟩:=x; exact ⟨st _ _ p λo q=>k _ _ (.inl rfl) q,⟨o,k _ _ (.inl rfl) e⟩,st⟩
theorem yD.lt (x:yD P w H h) (e:H a=some o):a < h.objs.size:=(x a o e).lt
theorem yD.fresh (x:yD P w H h) (e:h.objs.size<=a):H a=none:=by
 cases q:H a with
 | none=>rfl
 | some u=>exact absurd (Nat.lt_of_lt_of_le (x.lt q) e) (Nat.lt_irrefl _)
theorem yD.kept (x:yD P w H h) (k:∀ b u,h.get? b=some u->h'.get? b=some u):yD P w H h':=λa o e=>
 (x a o e).stay (λb u _ q=>k b u q) (λ_ q=>q) λ_ _ q=>q
theorem yD.laid (x:yD P w H h) (k:∀ b u,h.get? b=some u->h'.get? b=some u) (hp:h.objs.size<=a) (new:yL P w (upd H a o) h' a o):yD P w (upd H a o) h':=λb u e=>by
 have hn:=x.fresh hp
 by_cases hb:b=a
 ·subst hb; rw [zP] at e; cases e; exact new
 ·rw [zk hb] at e
  exact (x b u e).stay (λc v _ q=>k c v q) (λc q=>by rw [zk (x6 q hn)]; exact q) λc xs q=>by rw [zk (x6 q hn)]; exact q
end
noncomputable def Rd (H:Hp) (a:Addr) (u:HO):Prop:=H a=some u\/∃ o,H a=some (.frz o u)
theorem Rd.of {H:Hp} {a:Addr} {u:HO} (h:H a=some u):Rd H a u:=.inl h
theorem Rd.ok {P:Program} {w:World} {H:Hp} {h:Heap} {a:Addr} {u:HO} (r:Rd H a u) (x:yD P w H h):yL P w H h a u:=by
 rcases r with r | ⟨o,r⟩
 ·exact x a u r
 ·obtain ⟨_,q⟩:=x a _ r
  exact q
noncomputable def uX:Option HO->Prop
 | some (.lst _)=>True
 | some (.dK _)=>True
 | some (.dT _)=>True
 | some (.set _ _)=>True
 | some (.ins _ _ _)=>True
 | some (.ext _)=>True
 | _=>False
section
variable {P:Program} {w:World} {H:Hp} {h h':Heap} {x e:Addr} {o':HO}
theorem yD.write (ok:yD P w H h) (mu:uX (H x)) (he:e=x\/H e=some (.own x)) (k:∀ b u,b≠e->h.get? b=some u->h'.get? b=some u) (heo:∃ u,h'.get? e=some u)
  (new:yL P w (upd H x o') h' x o'):yD P w (upd H x o') h':=λb u q=>by
 have nown:∀ c y,H c=some (.own y)->c≠x:=λc y r z=>by subst z; rw [r] at mu; exact mu
 have ntup:∀ c xs,H c=some (.tup xs)->c≠x:=λc xs r z=>by subst z; rw [r] at mu; exact mu
 by_cases hb:b=x
 ·subst hb; rw [zP] at q; cases q; exact new
 ·rw [zk hb] at q
  by_cases hbe:b=e
  ·have q':H b=some (.own x):=by
    rcases he with z | z
    ·exact absurd (hbe.trans z) hb
    ·rw [hbe]; exact z
   rw [q] at q'; cases q'
   obtain ⟨v,hv⟩:=heo
   exact ⟨v,by rw [hbe]; exact hv⟩
  ·refine (ok b u q).stay (λc v hc r=>k c v ?_ r) (λc r=>by rw [zk (nown c b r)]; exact r) λc xs r=>by rw [zk (ntup c xs r)]; exact r
   rcases hc with rfl | hc
   ·exact hbe
   ·rintro rfl
    rcases he with z | z
    ·exact nown c b hc z
    ·rw [hc] at z; cases z; exact hb rfl
end
structure Un (fs ex:List Addr) (H H':Hp) (h h':Heap):Prop where
 keep:∀ b o,h.get? b=some o->H b=none->b∉fs->b∉ex->h'.get? b=some o
 slot:∀ b o,h.get? b=some o->H b=none->b∈fs->b∉ex->∃ sl,h'.get? b=some { o with slots:=sl }
 free:∀ b o,h.get? b=some o->H b=none->b∉ex->H' b=none
 there:∀ b o,h.get? b=some o->b∉ex->∃ o',h'.get? b=some o'
 tups:∀ b xs,H b=some (.tup xs)->H' b=some (.tup xs)
 frzs:∀ b o u,H b=some (.frz o u)->H' b=some (.frz o u)
 tbls:∀ b ps,H b=some (.tbl ps)->∃ more,H' b=some (.tbl (ps++more))
section
variable {fs fs' ex ex':List Addr} {H H1 H2:Hp} {h h1 h2 h':Heap} {a x e:Addr} {o:HO}
theorem Un.any (u:Un fs ex H H1 h h1) {b:Addr} {ob:Obj} (q:h.get? b=some ob) (n:H b=none) (hx:b∉ex):∃ sl,h1.get? b=some { ob with slots:=sl }:=by
 by_cases hb:b∈fs
 ·exact u.slot b ob q n hb hx
 ·exact ⟨ob.slots,u.keep b ob q n hb hx⟩
theorem Un.trans (a:Un fs ex H H1 h h1) (b:Un fs ex H1 H2 h1 h2):Un fs ex H H2 h h2 where
 keep:=λc ob q n hc hx=>b.keep c ob (a.keep c ob q n hc hx) (a.free c ob q n hx) hc hx
 slot:=λc ob q n hc hx=>by
  obtain ⟨sl,e1⟩:=a.slot c ob q n hc hx
  obtain ⟨sl',e2⟩:=b.slot c _ e1 (a.free c ob q n hx) hc hx
  exact ⟨sl',e2⟩
 free:=λc ob q n hx=>by
  obtain ⟨o',e1⟩:=a.there c ob q hx
  exact b.free c o' e1 (a.free c ob q n hx) hx
 there:=λc ob q hx=>by
  obtain ⟨o',e1⟩:=a.there c ob q hx
  exact b.there c o' e1 hx
 tups:=λc xs q=>b.tups c xs (a.tups c xs q)
 frzs:=λc ob xs q=>b.frzs c ob xs (a.frzs c ob xs q)
 tbls:=λc ps q=>by
  obtain ⟨m1,e1⟩:=a.tbls c ps q
  obtain ⟨m2,e2⟩:=b.tbls c _ e1
  exact ⟨m1++m2,by rw [e2,Array.append_assoc]⟩
theorem Un.kept (k:∀ b u,h.get? b=some u->h'.get? b=some u):Un fs ex H H h h':=
 ⟨λb ob q _ _ _=>k b ob q,λb ob q _ _ _=>⟨ob.slots,k b ob q⟩,λ_ _ _ n _=>n,λb ob q _=>⟨ob,k b ob q⟩,λ_ _ q=>q,λ_ _ _ q=>q,λ_ ps q=>⟨#[],by rw [q]; simp⟩⟩
theorem Un.refl:Un fs ex H H h h:=Un.kept λ_ _ q=>q
theorem Un.laid (k:∀ b u,h.get? b=some u->h'.get? b=some u) (hp:h.objs.size<=a) (hn:H a=none):Un fs ex H (upd H a o) h h' where
 keep:=λb u q _ _ _=>k b u q
 slot:=λb u q _ _ _=>⟨u.slots,k b u q⟩
 free:=λb u q n _=>by rw [zk (Nat.ne_of_lt (Nat.lt_of_lt_of_le (Heap.lt_size q) hp))]; exact n
 there:=λb u q _=>⟨u,k b u q⟩
 tups:=λb xs q=>by rw [zk (x6 q hn)]; exact q
 frzs:=λb u xs q=>by rw [zk (x6 q hn)]; exact q
 tbls:=λb ps q=>⟨#[],by rw [zk (x6 q hn),q]; simp⟩
theorem Un.write (mu:uX (H x)) (he:e=x\/H e=some (.own x)) (k:∀ b u,b≠e->h.get? b=some u->h'.get? b=some u) (heo:∃ u,h'.get? e=some u):Un fs ex H (upd H x o) h h':=by
 have hx:∀ b,H b=none->b≠x:=λb n z=>by subst z; rw [n] at mu; exact mu
 have hb:∀ b,H b=none->b≠e:=λb n z=>by
  subst z
  rcases he with r | r
  ·exact hx b n r
  ·rw [n] at r; cases r
 have hm:∀ b u,H b=some u->¬ uX (some u)->b≠x:=λb u q nm z=>by subst z; rw [q] at mu; exact nm mu
 refine ⟨λb u q n _ _=>k b u (hb b n) q,λb u q n _ _=>⟨u.slots,k b u (hb b n) q⟩,λb u q n _=>by rw [zk (hx b n)]; exact n,λb u q _=>?_,
  λb xs q=>by rw [zk (hm b _ q λz=>z)]; exact q,λb u xs q=>by rw [zk (hm b _ q λz=>z)]; exact q,λb ps q=>⟨#[],by rw [zk (hm b _ q λz=>z),q]; simp⟩⟩
 by_cases hbe:b=e
 ·subst hbe; exact heo
 ·exact ⟨u,k b u hbe q⟩
theorem Un.mono (u:Un fs ex H H1 h h1) (hs:∀ b∈fs,b∈fs') (hx:∀ b∈ex,b∈ex'):Un fs' ex' H H1 h h1:=
 ⟨λb ob q n hb he=>u.keep b ob q n (λz=>hb (hs b z)) λz=>he (hx b z),λ_ _ q n _ he=>u.any q n λz=>he (hx _ z),λb ob q n he=>u.free b ob q n λz=>he (hx b z),λb ob q he=>u.there b ob q λz=>he (hx b z),u.tups,u.frzs,u.tbls⟩
end
noncomputable def uY (h:Heap) (H:Hp):List Addr:=(List.range h.objs.size).filter λa=>(H a).isSome
noncomputable def yP (h:Heap) (H:Hp):Heap:=PySem.W.hideAll h (uY h H)
theorem kj (h:Heap) (H:Hp):(yP h H).objs.size=h.objs.size:=PySem.W.hideAll_size _ _
theorem kl {h:Heap} {H:Hp} {b:Addr} {o:Obj} (e:h.get? b=some o) (n:H b=none):(yP h H).get? b=some o:=
 PySem.W.hideAll_get _ e λhm=>by
  have q:(H b).isSome=true:=(List.mem_filter.mp hm).2
  rw [n] at q; simp at q
theorem kn {h:Heap} {H:Hp} {b:Addr} {o:Obj} (e:(yP h H).get? b=some o):h.get? b=some o/\H b=none:=by
 have e':h.get? b=some o:=PySem.W.of_hideAll (uY h H) e
 refine ⟨e',?_⟩
 cases q:H b with
 | none=>rfl
 | some x=>
  have hm:b∈uY h H:=List.mem_filter.mpr ⟨List.mem_range.mpr (Heap.lt_size e'),by simp [q]⟩
  have z:(yP h H).get? b=none:=PySem.W.hideAll_none (uY h H) hm
  rw [z] at e; cases e
noncomputable def ko (g h:Heap) (L:Addr):List (Addr × Obj):=(List.range h.objs.size).filterMap λa=>if a=L\/(g.get? a).isSome=true then none else (h.get? a).map λo=>(a,o)
noncomputable def yI (g h:Heap) (L d:Addr):List (Addr × Obj):=(ko g h L).filter λp=>decide (p.1≠d)
end L2
namespace L2
open PySem PySem.Spec PyProof.Rows
structure Mod (K:PySem.W.Frag) (mg:Str->Option Value) (base:Heap):Prop where
 kin:K.In base
 glob:base.Ns mainGlobals mg
 blt:∃ mb,base.Ns builtinsNs mb/\∀ x:Str,x≠"__name__"->mb x=bootBuiltins x
 nolimit:base.NoLimit
structure Cx where
 prog:Program
 w:World
 K:PySem.W.Frag
 mg:Str->Option Value
 base:Heap
 A:Around
 N:List Str
 s₀:Shared
 H₀:Hp
 env:Env
 outer:List Env
 stack:List Env
 ex:List Addr
 fn:Str->Bool
 calm:Bool
 pn:List (Addr × Obj)
 xe:Value->Shared->Prop
noncomputable def y8 (l:List Env):List Addr:=l.filterMap (·.frame)
noncomputable abbrev Cx.fs (X:Cx):List Addr:=y8 X.outer
noncomputable def vY (sc:Scope) (x:Str):Prop:=sc.names.lookup x=some .local\/sc.names.lookup x=some .cell\/sc.names.lookup x=some .free
noncomputable def uZ (sc:Scope) (x:Str):Prop:=sc.names.lookup x=some .local\/sc.names.lookup x=some .cell
noncomputable def jY (env:Env) (h:Heap) (m:Str->Option Value) (x:Str) (u:Value):Prop:=
 (env.kindOf x=some .local/\m x=some u)\/((env.kindOf x=some .cell\/env.kindOf x=some .free)/\∃ c,env.cells.lookup x=some c/\h.IsCell c (some u))
structure Cx.Ok (X:Cx):Prop where
 mod:Mod X.K X.mg X.base
 kind:X.env.scope.kind=.function
 glob:X.env.globals=mainGlobals
 blt:X.env.builtins=builtinsNs
 above:X.s₀.heap.objs.size<=X.env.locals
 inj:∀ x y c,X.env.cells.lookup x=some c->X.env.cells.lookup y=some c->x=y
 has:∀ x,(X.env.kindOf x=some .cell\/X.env.kindOf x=some .free)->∃ c,X.env.cells.lookup x=some c
 cab:∀ x c,X.fn x=true->X.env.cells.lookup x=some c->X.s₀.heap.objs.size<=c
 hd:X.calm=true->X.A.handled=none
 frames:X.A.frames=some X.stack
 stk:X.stack=X.outer\/(X.stack=X.env :: X.outer/\X.env.frame=some X.env.locals)
 exf:∀ b∈X.ex,b≠X.env.locals/\∀ x c,X.env.cells.lookup x=some c->c≠b
 bs:∀ b o,X.base.get? b=some o->X.s₀.heap.get? b=some o/\X.H₀ b=none
 bsz:X.base.objs.size<=X.s₀.heap.objs.size
 noex:∀ b o,X.base.get? b=some o->b∉X.ex
 exfs:∀ b∈X.ex,b∉X.fs
 funs:X.s₀.heap.FunFrames X.base X.outer
 frf:∀ b∈X.fs,X.H₀ b=none
structure zB (X:Cx) (pins:List (Addr × Obj)) (σ:List (Option V)) (H:Hp) (s:Shared):Prop where
 ok:X.Ok
 os:s.os=X.s₀.os
 bare:AllBare s.gens
 base:Un X.fs X.ex X.H₀ H X.s₀.heap s.heap
 loc:∃ m,s.heap.Ns X.env.locals m/\∀ (i:Nat) (x:Str) (v:V),X.N[i]? = some x->σ[i]? = some (some v)->vY X.env.scope x->∃ u,zI v u/\jY X.env s.heap m x u
 cell:∀ x c,X.env.cells.lookup x=some c->∃ v,s.heap.IsCell c v
 free:H X.env.locals=none
 freeC:∀ x c,X.env.cells.lookup x=some c->H c=none
 pin:∀ p∈X.pn++pins,s.heap.get? p.1=some p.2/\H p.1=none/\p.1≠X.env.locals/\p.1∉X.fs/\∀ v,p.2.data≠.cell v
 hok:yD X.prog X.w H s.heap
 len:σ.length=X.N.length
section
variable {X:Cx} {pins:List (Addr × Obj)} {σ:List (Option V)} {H H':Hp} {s:Shared} {h':Heap}
theorem Cx.Ok.nofr (ok:X.Ok) {b:Addr} {o:Obj} (e:X.base.get? b=some o):b∉X.fs:=λhb=>by
 have:=(ok.funs.mem hb).1
 rw [e] at this; cases this
theorem zB.bs (I:zB X pins σ H s):∀ b o,X.base.get? b=some o->s.heap.get? b=some o/\H b=none:=λb o e=>
 ⟨I.base.keep b o (I.ok.bs b o e).1 (I.ok.bs b o e).2 (I.ok.nofr e) (I.ok.noex b o e),I.base.free b o (I.ok.bs b o e).1 (I.ok.bs b o e).2 (I.ok.noex b o e)⟩
theorem zB.bk (I:zB X pins σ H s):∀ b o,X.base.get? b=some o->s.heap.get? b=some o:=λb o e=>(I.bs b o e).1
theorem zB.mod (I:zB X pins σ H s):Mod X.K X.mg X.base:=I.ok.mod
theorem zB.kIn (I:zB X pins σ H s):X.K.In s.heap:=I.ok.mod.kin.keeps I.bk
theorem zB.nolimit (I:zB X pins σ H s):s.heap.NoLimit:=I.ok.mod.nolimit.keeps I.bk
theorem zB.fr (I:zB X pins σ H s):∃ m,Fr X.base X.env.locals s.heap m:=
 let ⟨m,hn,_⟩:=I.loc
 ⟨m,hn,I.bk,Nat.le_trans I.ok.bsz I.ok.above⟩
theorem zB.lt (I:zB X pins σ H s):X.env.locals < s.heap.objs.size:=let ⟨_,hn,_⟩:=I.loc; hn.lt
theorem zB.sz (I:zB X pins σ H s):X.s₀.heap.objs.size<=s.heap.objs.size:=Nat.le_trans I.ok.above (Nat.le_of_lt I.lt)
theorem zB.nofs (I:zB X pins σ H s) {a:Addr} (h:s.heap.objs.size<=a):a∉X.fs:=λhb=>by
 obtain ⟨_,o,ho,_⟩:=I.ok.funs.mem hb
 exact absurd (Nat.lt_of_lt_of_le (Heap.lt_size ho) (Nat.le_trans I.sz h)) (Nat.lt_irrefl _)
theorem zB.cne (I:zB X pins σ H s):∀ x c,X.env.cells.lookup x=some c->c≠X.env.locals:=λx c e z=>by
 obtain ⟨v,o,ho,hd⟩:=I.cell x c e
 obtain ⟨m,⟨o',es,ep,ho',hd',_⟩,_⟩:=I.loc
 rw [z,ho'] at ho; cases ho; rw [hd'] at hd; cases hd
theorem zB.funs (I:zB X pins σ H s):s.heap.FunFrames X.base X.outer:=by
 have all:∀ (l:List Env),(∀ b∈y8 l,b∈X.fs)->X.s₀.heap.FunFrames X.base l->s.heap.FunFrames X.base l:=by
  intro l
  induction l with
  | nil=>intro _ _; trivial
  | cons env r ih=>
   intro hs hl
   obtain ⟨hk,⟨L,o,hf,hn,ho,hd⟩,hr⟩:=hl
   have hL:L∈X.fs:=hs L (by unfold y8; rw [List.filterMap_cons,hf]; exact List.mem_cons_self)
   obtain ⟨sl,e⟩:=I.base.slot L o ho (I.ok.frf L hL) hL λz=>I.ok.exfs L z hL
   exact ⟨hk,⟨L,_,hf,hn,e,hd⟩,ih (λb hb=>hs b (by unfold y8; rw [List.filterMap_cons,hf]; exact List.mem_cons_of_mem _ hb)) hr⟩
 exact all X.outer (λ_ hb=>hb) I.ok.funs
theorem zB.stack (I:zB X pins σ H s):s.heap.FunFrames X.base X.stack:=by
 rcases I.ok.stk with e | ⟨e,hf⟩
 ·rw [e]; exact I.funs
 ·rw [e]
  obtain ⟨m,hn,_⟩:=I.loc
  refine .cons (by rw [I.ok.kind]; decide) hf hn ?_ I.funs
  exact Heap.get?_none_of_le (Nat.le_trans I.ok.bsz I.ok.above)
theorem zB.stkSub (I:zB X pins σ H s):∀ b∈y8 X.stack,b∈X.env.locals :: X.fs:=λb hb=>by
 rcases I.ok.stk with e | ⟨e,hf⟩
 ·rw [e] at hb; exact List.mem_cons_of_mem _ hb
 ·rw [e] at hb
  unfold y8 at hb
  rw [List.filterMap_cons,hf] at hb
  exact hb
theorem zB.stkFree (I:zB X pins σ H s):∀ b∈y8 X.stack,H b=none:=λb hb=>by
 rcases List.mem_cons.mp (I.stkSub b hb) with e | hb
 ·rw [e]; exact I.free
 ·obtain ⟨_,o,ho,_⟩:=I.ok.funs.mem hb
  exact I.base.free b o ho (I.ok.frf b hb) λz=>I.ok.exfs b z hb
theorem zB.step {g':Array GenState} {t':Nat} {d':Drawn} {ch:List Addr} (I:zB X pins σ H s)
  (hch:∀ b∈ch,(b∈X.ex\/X.s₀.heap.objs.size<=b)/\b≠X.env.locals/\(∀ x c,X.env.cells.lookup x=some c->c≠b)/\∀ p∈X.pn++pins,p.1≠b)
  (keep:∀ b o,b≠X.env.locals->b∉X.fs->b∉ch->s.heap.get? b=some o->H b=none->h'.get? b=some o)
  (slot:∀ b o,b≠X.env.locals->b∈X.fs->b∉ch->s.heap.get? b=some o->H b=none->∃ sl,h'.get? b=some { o with slots:=sl }) (free:∀ b o,b∉ch->s.heap.get? b=some o->H b=none->H' b=none)
  (there:∀ b o,b∉ch->s.heap.get? b=some o->∃ o',h'.get? b=some o')
  (tups:∀ b xs,H b=some (.tup xs)->H' b=some (.tup xs)) (frzs:∀ b o u,H b=some (.frz o u)->H' b=some (.frz o u)) (tbls:∀ b ps,H b=some (.tbl ps)->∃ more,H' b=some (.tbl (ps++more)))
  (ns:∀ m,s.heap.Ns X.env.locals m->h'.Ns X.env.locals m) (hok:yD X.prog X.w H' h') (hg:AllBare g') :
  zB X pins σ H' { s with heap:=h',gens:=g',drawn:=d',toks:=t' }:=by
 have neL:∀ b o,X.s₀.heap.get? b=some o->b≠X.env.locals:=λb o e=>Nat.ne_of_lt (Nat.lt_of_lt_of_le (Heap.lt_size e) I.ok.above)
 have neC:∀ b o,X.s₀.heap.get? b=some o->b∉X.ex->b∉ch:=λb o e hx hb=>by
  rcases (hch b hb).1 with z | z
  ·exact hx z
  ·exact absurd (Nat.lt_of_lt_of_le (Heap.lt_size e) z) (Nat.lt_irrefl _)
 have cellK:∀ x c,X.env.cells.lookup x=some c->∀ v,s.heap.IsCell c v->h'.IsCell c v:=λx c e v ⟨o,ho,hd⟩=>by
  have nch:c∉ch:=λz=>(hch c z).2.2.1 x c e rfl
  by_cases hc:c∈X.fs
  ·obtain ⟨sl,q⟩:=slot c o (I.cne x c e) hc nch ho (I.freeC x c e)
   exact ⟨_,q,hd⟩
  ·exact ⟨o,keep c o (I.cne x c e) hc nch ho (I.freeC x c e),hd⟩
 refine ⟨I.ok,I.os,hg,⟨λb o e n hb hx=>?_,λb o e n hb hx=>?_,λb o e n hx=>?_,λb o e hx=>?_,λb xs e=>tups b xs (I.base.tups b xs e),λb o xs e=>frzs b o xs (I.base.frzs b o xs e),λb ps e=>?_⟩,?_,λx c e=>?_,?_,λx c e=>?_,λp hp=>?_,hok,I.len⟩
 ·exact keep b o (neL b o e) hb (neC b o e hx) (I.base.keep b o e n hb hx) (I.base.free b o e n hx)
 ·obtain ⟨sl,e1⟩:=I.base.slot b o e n hb hx
  obtain ⟨sl',e2⟩:=slot b _ (neL b o e) hb (neC b o e hx) e1 (I.base.free b o e n hx)
  exact ⟨sl',e2⟩
 ·obtain ⟨o',e1⟩:=I.base.there b o e hx
  exact free b o' (neC b o e hx) e1 (I.base.free b o e n hx)
 ·obtain ⟨o',e1⟩:=I.base.there b o e hx
  exact there b o' (neC b o e hx) e1
 ·obtain ⟨m1,e1⟩:=I.base.tbls b ps e
  obtain ⟨m2,e2⟩:=tbls b _ e1
  exact ⟨m1++m2,by rw [e2,Array.append_assoc]⟩
 ·obtain ⟨m,hn,hl⟩:=I.loc
  refine ⟨m,ns m hn,λi x v e1 e2 e3=>?_⟩
  obtain ⟨u,r,l⟩:=hl i x v e1 e2 e3
  refine ⟨u,r,?_⟩
  rcases l with l | ⟨k,c,e,z⟩
  ·exact .inl l
  ·exact .inr ⟨k,c,e,cellK x c e _ z⟩
 ·obtain ⟨v,z⟩:=I.cell x c e
  exact ⟨v,cellK x c e v z⟩
 ·obtain ⟨m,⟨o,_,_,ho,_⟩,_⟩:=I.loc
  exact free _ o (λz=>(hch _ z).2.1 rfl) ho I.free
 ·obtain ⟨v,o,ho,hd⟩:=I.cell x c e
  exact free c o (λz=>(hch c z).2.2.1 x c e rfl) ho (I.freeC x c e)
 ·obtain ⟨e,n,ne,nf,d⟩:=I.pin p hp
  have nch:p.1∉ch:=λz=>(hch p.1 z).2.2.2 p hp rfl
  exact ⟨keep p.1 p.2 ne nf nch e n,free p.1 p.2 nch e n,ne,nf,d⟩
theorem zB.un {t':Nat} (I:zB X pins σ H s) (u:Un X.fs [] H H' s.heap h') (hok:yD X.prog X.w H' h'):zB X pins σ H' { s with heap:=h',toks:=t' }:=by
 obtain ⟨m,⟨o,es,ep,ho,r⟩,_⟩:=id I.loc
 obtain ⟨sl,hL⟩:=u.any ho I.free (by simp)
 exact I.step (g':=s.gens) (d':=s.drawn) (ch:=[]) (λ_ z=>nomatch z) (λb o _ hb _ e n=>u.keep b o e n hb (by simp)) (λb o _ hb _ e n=>u.slot b o e n hb (by simp)) (λb o _ e n=>u.free b o e n (by simp)) (λb o _ e=>u.there b o e (by simp)) u.tups u.frzs u.tbls (λm' hm=>by
  obtain ⟨o',es',ep',ho',r'⟩:=hm
  rw [ho] at ho'; cases ho'
  exact ⟨_,es',ep',hL,r'⟩) hok I.bare
theorem zB.call {g':Array GenState} {t':Nat} {d':Drawn} {ch:List Addr} (I:zB X pins σ H s) (u:Un (y8 X.stack) ch H H' s.heap h') (hok:yD X.prog X.w H' h') (hg:AllBare g')
  (hch:∀ b∈ch,(b∈X.ex\/X.s₀.heap.objs.size<=b)/\b≠X.env.locals/\(∀ x c,X.env.cells.lookup x=some c->c≠b)/\∀ p∈X.pn++pins,p.1≠b) :
  zB X pins σ H' { s with heap:=h',gens:=g',drawn:=d',toks:=t' }:=by
 obtain ⟨m,⟨o,es,ep,ho,r⟩,_⟩:=id I.loc
 obtain ⟨sl,hL⟩:=u.any ho I.free λz=>(hch _ z).2.1 rfl
 exact I.step (ch:=ch) hch (λb o hL hb hc e n=>u.keep b o e n (λz=>(List.mem_cons.mp (I.stkSub b z)).elim hL hb) hc) (λb o _ _ hc e n=>u.any e n hc) (λb o hc e n=>u.free b o e n hc) (λb o hc e=>u.there b o e hc) u.tups u.frzs u.tbls (λm' hm=>by
  obtain ⟨o',es',ep',ho',r'⟩:=hm
  rw [ho] at ho'; cases ho'
  exact ⟨_,es',ep',hL,r'⟩) hok hg
theorem zB.turned {t':Nat} {it:Addr} (I:zB X pins σ H s) (k:∀ b o,b≠it->s.heap.get? b=some o->h'.get? b=some o) (hn:H it=none) (hL:it≠X.env.locals)
  (h1:it∈X.ex\/X.s₀.heap.objs.size<=it) (h2:∀ x c,X.env.cells.lookup x=some c->c≠it) (h3:∀ p∈X.pn++pins,p.1≠it):zB X pins σ H { s with heap:=h',toks:=t' }:=by
 have nit:∀ b u,H b=some u->b≠it:=λb u e z=>by rw [z,hn] at e; cases e
 refine I.step (g':=s.gens) (d':=s.drawn) (ch:=[it]) (λb hb=>?_) (λb o _ _ hc e _=>k b o (λz=>hc (by simp [z])) e) (λb o _ _ hc e _=>⟨o.slots,k b o (λz=>hc (by simp [z])) e⟩) (λ_ _ _ _ n=>n)
  (λb o hc e=>⟨o,k b o (λz=>hc (by simp [z])) e⟩) (λ_ _ e=>e) (λ_ _ _ e=>e) (λb ps e=>⟨#[],by rw [e]; simp⟩) (λm hm=>?_) (λb u e=>?_) I.bare
 ·have e:b=it:=by simpa using hb
  subst e
  exact ⟨h1,hL,h2,h3⟩
 ·obtain ⟨o,es,ep,ho,r⟩:=hm
  exact ⟨o,es,ep,k _ o (Ne.symm hL) ho,r⟩
 ·refine (I.hok b u e).stay (λc v hc q=>k c v ?_ q) (λ_ q=>q) λ_ _ q=>q
  rcases hc with z | z
  ·rw [z]; exact nit b u e
  ·exact nit c _ z
theorem zB.tok (I:zB X pins σ H s) (t:Nat):zB X pins σ H { s with toks:=t }:=I.un (h':=s.heap) (t':=t) Un.refl I.hok
theorem zB.kept {t':Nat} (I:zB X pins σ H s) (k:∀ b u,s.heap.get? b=some u->h'.get? b=some u):zB X pins σ H { s with heap:=h',toks:=t' }:=I.un (Un.kept k) (I.hok.kept k)
theorem zB.laid {a:Addr} {o:HO} {t':Nat} (I:zB X pins σ H s) (k:∀ b u,s.heap.get? b=some u->h'.get? b=some u) (hp:s.heap.objs.size<=a) (new:yL X.prog X.w (upd H a o) h' a o) :
  zB X pins σ (upd H a o) { s with heap:=h',toks:=t' }:=I.un (Un.laid k hp (I.hok.fresh hp)) (I.hok.laid k hp new)
theorem zB.write {x e:Addr} {o:HO} {t':Nat} (I:zB X pins σ H s) (mu:uX (H x)) (he:e=x\/H e=some (.own x)) (k:∀ b u,b≠e->s.heap.get? b=some u->h'.get? b=some u) (heo:∃ u,h'.get? e=some u)
  (new:yL X.prog X.w (upd H x o) h' x o):zB X pins σ (upd H x o) { s with heap:=h',toks:=t' }:=I.un (Un.write mu he k heo) (I.hok.write mu he k heo new)
theorem zB.pins_of {pins':List (Addr × Obj)} (I:zB X pins σ H s) (h:∀ p∈pins',s.heap.get? p.1=some p.2/\H p.1=none/\p.1≠X.env.locals/\p.1∉X.fs/\∀ v,p.2.data≠.cell v):zB X pins' σ H s:=
 ⟨I.ok,I.os,I.bare,I.base,I.loc,I.cell,I.free,I.freeC,λp hp=>(List.mem_append.mp hp).elim (λz=>I.pin p (List.mem_append_left _ z)) (h p),I.hok,I.len⟩
theorem qu {N:List Str} (hN:N.Nodup) {i j:Nat} {x:Str} (a:N[i]? = some x) (b:N[j]? = some x):i=j:=by
 obtain ⟨h1,e1⟩:=List.getElem?_eq_some_iff.mp a
 obtain ⟨h2,e2⟩:=List.getElem?_eq_some_iff.mp b
 exact (List.getElem_inj hN).mp (e1.trans e2.symm)
theorem qv {M:Model} {A:Around} {E:Value->Shared->Prop} {i:Nat} {x:Str} {v:V} {u:Value} {Q:Unit->Shared->Prop} (I:zB X pins σ H s) (hN:X.N.Nodup) (hi:X.N[i]? = some x) (hx:uZ X.env.scope x) (r:zI v u)
  (h:∀ s',zB X pins (σ.set i (some v)) H s'->(∃ a,Heap.SameBut a s.heap s'.heap/\(a=X.env.locals\/X.env.cells.lookup x=some a))->Q () s') (hf:X.fn x=true\/X.env.scope.names.lookup x=some .local:=by first | exact .inl rfl | exact .inr rfl | assumption):wpAny M A (storeName X.env x u) Q E s:=by
 obtain ⟨m,hn,hl⟩:=id I.loc
 have hcls:(X.env.scope.kind == .class || (X.env.scope.kind == .module && X.env.locals != X.env.globals))=false:=by rw [I.ok.kind]; rfl
 have hiσ:i < σ.length:=by rw [I.len]; exact (List.getElem?_eq_some_iff.mp hi).1
 have cne:=I.cne
 have tracked:∀ {a:Addr} {h':Heap},(∃ o,s.heap.get? a=some o/\H a=none)->Heap.SameBut a s.heap h'->yD X.prog X.w H h':=λ{a h'} ha hs b ob e=>by
  obtain ⟨_,_,hfree⟩:=ha
  refine (I.hok b ob e).stay (λc w' hc q=>(hs.2 c ?_).trans q) (λ_ q=>q) λ_ _ q=>q
  rintro rfl
  rcases hc with rfl | hc
  ·rw [hfree] at e; cases e
  ·rw [hfree] at hc; cases hc
 rcases hx with hk | hk
 ·refine wpAny_storeName_local hk hn (λh' hn' hs=>?_) hcls
  obtain ⟨oL,_,_,hoL,_⟩:=id hn
  refine h _ ⟨I.ok,I.os,I.bare,⟨λb o e n hb hx=>?_,λb o e n hb hx=>?_,I.base.free,λb o e hx=>?_,I.base.tups,I.base.frzs,I.base.tbls⟩,⟨_,hn',λj y v' e1 e2 e3=>?_⟩,λy c e=>?_,I.free,I.freeC,λp hp=>?_,tracked ⟨oL,hoL,I.free⟩ hs,by simpa using I.len⟩ ⟨_,hs,.inl rfl⟩
  ·exact (hs.2 b (Nat.ne_of_lt (Nat.lt_of_lt_of_le (Heap.lt_size e) I.ok.above))).trans (I.base.keep b o e n hb hx)
  ·obtain ⟨sl,e1⟩:=I.base.slot b o e n hb hx
   exact ⟨sl,(hs.2 b (Nat.ne_of_lt (Nat.lt_of_lt_of_le (Heap.lt_size e) I.ok.above))).trans e1⟩
  ·obtain ⟨o',e1⟩:=I.base.there b o e hx
   exact ⟨o',(hs.2 b (Nat.ne_of_lt (Nat.lt_of_lt_of_le (Heap.lt_size e) I.ok.above))).trans e1⟩
  ·by_cases hj:j=i
   ·subst hj
    rw [hi] at e1; cases e1
    rw [List.getElem?_set_self hiσ] at e2
    cases e2
    exact ⟨u,r,.inl ⟨hk,by simp⟩⟩
   ·rw [List.getElem?_set_ne (Ne.symm hj)] at e2
    obtain ⟨u',r',q⟩:=hl j y v' e1 e2 e3
    refine ⟨u',r',?_⟩
    rcases q with ⟨k,e⟩ | ⟨k,c,e,z⟩
    ·refine .inl ⟨k,?_⟩
     have:y≠x:=λe=>hj (qu hN e1 (e ▸ hi))
     simp [this,e]
    ·exact .inr ⟨k,c,e,z.sameBut hs (cne y c e)⟩
  ·obtain ⟨w',z⟩:=I.cell y c e
   exact ⟨w',z.sameBut hs (cne y c e)⟩
  ·obtain ⟨e,n,ne,nf,d⟩:=I.pin p hp
   exact ⟨(hs.2 p.1 ne).trans e,n,ne,nf,d⟩
 ·have hfn:X.fn x=true:=by
   rcases hf with z | z
   ·exact z
   ·rw [z] at hk; cases hk
  obtain ⟨c,hc⟩:=I.ok.has x (.inl hk)
  obtain ⟨w',z⟩:=I.cell x c hc
  refine wpAny_storeName_cell I.ok.kind hk hc z (λh' hc' hs=>?_)
  obtain ⟨oc,hoc,hocd⟩:=id z
  refine h { s with heap:=h' } ⟨I.ok,I.os,I.bare,⟨λb o e n hb hx=>?_,λb o e n hb hx=>?_,I.base.free,λb o e hx=>?_,I.base.tups,I.base.frzs,I.base.tbls⟩,⟨m,hn.sameBut hs (Ne.symm (cne x c hc)),λj y v' e1 e2 e3=>?_⟩,λy c' e=>?_,I.free,I.freeC,λp hp=>?_,tracked ⟨oc,hoc,I.freeC x c hc⟩ hs,by simpa using I.len⟩ ⟨c,hs,.inr hc⟩
  ·exact (hs.2 b (Nat.ne_of_lt (Nat.lt_of_lt_of_le (Heap.lt_size e) (I.ok.cab x c hfn hc)))).trans (I.base.keep b o e n hb hx)
  ·obtain ⟨sl,e1⟩:=I.base.slot b o e n hb hx
   exact ⟨sl,(hs.2 b (Nat.ne_of_lt (Nat.lt_of_lt_of_le (Heap.lt_size e) (I.ok.cab x c hfn hc)))).trans e1⟩
  ·obtain ⟨o',e1⟩:=I.base.there b o e hx
   exact ⟨o',(hs.2 b (Nat.ne_of_lt (Nat.lt_of_lt_of_le (Heap.lt_size e) (I.ok.cab x c hfn hc)))).trans e1⟩
  ·by_cases hj:j=i
   ·subst hj
    rw [hi] at e1; cases e1
    rw [List.getElem?_set_self hiσ] at e2
    cases e2
    exact ⟨u,r,.inr ⟨.inl hk,c,hc,hc'⟩⟩
   ·rw [List.getElem?_set_ne (Ne.symm hj)] at e2
    obtain ⟨u',r',q⟩:=hl j y v' e1 e2 e3
    refine ⟨u',r',?_⟩
    rcases q with q | ⟨k,c',e,z'⟩
    ·exact .inl q
    ·refine .inr ⟨k,c',e,z'.sameBut hs ?_⟩
     rintro rfl
     exact hj (qu hN e1 (I.ok.inj _ _ _ e hc ▸ hi))
  ·by_cases hcc:c'=c
   ·subst hcc; exact ⟨_,hc'⟩
   ·obtain ⟨w2,z2⟩:=I.cell y c' e
    exact ⟨w2,z2.sameBut hs hcc⟩
  ·obtain ⟨e,n,ne,nf,d⟩:=I.pin p hp
   refine ⟨(hs.2 p.1 ?_).trans e,n,ne,nf,d⟩
   intro q
   rw [q,hoc] at e
   have q':oc=p.2:=Option.some.inj e
   exact d w' (by rw [<- q']; exact hocd)
theorem ua {M:Model} {A:Around} {E:Value->Shared->Prop} {i:Nat} {x:Str} {v:V} {u:Value} {Q:Unit->Shared->Prop} (I:zB X pins σ H s) (hN:X.N.Nodup) (hi:X.N[i]? = some x) (hx:uZ X.env.scope x) (r:zI v u)
  (h:∀ s',zB X pins (σ.set i (some v)) H s'->Q () s') (hf:X.fn x=true\/X.env.scope.names.lookup x=some .local:=by first | exact .inl rfl | exact .inr rfl | assumption):wpAny M A (storeName X.env x u) Q E s:=
 qv I hN hi hx r (λs' I' _=>h s' I') hf
theorem zB.call' {s':Shared} {ch:List Addr} (I:zB X pins σ H s) (ho:s'.os=s.os) (u:Un (y8 X.stack) ch H H' s.heap s'.heap) (hok:yD X.prog X.w H' s'.heap) (hg:AllBare s'.gens)
  (hch:∀ b∈ch,(b∈X.ex\/X.s₀.heap.objs.size<=b)/\b≠X.env.locals/\(∀ x c,X.env.cells.lookup x=some c->c≠b)/\∀ p∈X.pn++pins,p.1≠b):zB X pins σ H' s':=by
 obtain ⟨h',g',d',t',o'⟩:=s'
 have e:o'=s.os:=ho
 subst e
 exact I.call (g':=g') (t':=t') (d':=d') u hok hg hch
end
noncomputable abbrev XK:=Value->Option Addr->Hp->Prop
noncomputable abbrev St:=List (Option V)
noncomputable abbrev VK:=V->Hp->Prop
noncomputable abbrev TE:=St->Hp->VK->Prop
noncomputable abbrev TT:=St->Hp->(Bool->Hp->Prop)->Prop
noncomputable abbrev TA:=St->Hp->(List V->Hp->Prop)->Prop
structure yQ where
 nx:St->Hp->Prop
 rt:VK
 bk:St->Hp->Prop:=λ_ _=>False
 ct:St->Hp->Prop:=λ_ _=>False
noncomputable abbrev TS:=yQ->St->Hp->Prop
noncomputable def EP (X:Cx) (pins:List (Addr × Obj)) (σ:St) (Q:VK) (u:Value) (s':Shared):Prop:=∃ v H',zB X pins σ H' s'/\zI v u/\Q v H'
noncomputable def TP (X:Cx) (pins:List (Addr × Obj)) (σ:St) (Q:Bool->Hp->Prop) (b:Bool) (s':Shared):Prop:=∃ H',zB X pins σ H' s'/\Q b H'
noncomputable def AP (X:Cx) (pins:List (Addr × Obj)) (σ:St) (Q:List V->Hp->Prop) (us:List Value) (s':Shared):Prop:=∃ vs H',zB X pins σ H' s'/\zF vs us/\Q vs H'
noncomputable def SP (X:Cx) (pins:List (Addr × Obj)) (D:yQ) (f:Flow) (s':Shared):Prop:=
 match f with
 | .next=>∃ σ' H',zB X pins σ' H' s'/\D.nx σ' H'
 | .brk=>∃ σ' H',zB X pins σ' H' s'/\D.bk σ' H'
 | .cont=>∃ σ' H',zB X pins σ' H' s'/\D.ct σ' H'
 | .ret u=>∃ v σ' H',zB X pins σ' H' s'/\zI v u/\D.rt v H'
noncomputable def PE (X:Cx) (e:Expr) (t:TE):Prop:=
 ∀ (pins:List (Addr × Obj)) (s:Shared) (σ:St) (H:Hp) (Q:VK),zB X pins σ H s->t σ H Q->wpAny (model X.prog X.w) X.A (eval e X.env) (EP X pins σ Q) X.xe s
noncomputable def PT (X:Cx) (e:Expr) (t:TT):Prop:=
 ∀ (pins:List (Addr × Obj)) (s:Shared) (σ:St) (H:Hp) (Q:Bool->Hp->Prop),zB X pins σ H s->t σ H Q->wpAny (model X.prog X.w) X.A (isTrue e X.env (eval e X.env)) (TP X pins σ Q) X.xe s
noncomputable def PW (X:Cx) (e:Expr) (t:TT):Prop:=
 ∀ (whole:Sem Value) (pins:List (Addr × Obj)) (s:Shared) (σ:St) (H:Hp) (Q:Bool->Hp->Prop),zB X pins σ H s->t σ H Q->wpAny (model X.prog X.w) X.A (isTrue e X.env whole) (TP X pins σ Q) X.xe s
theorem PW.pt {X:Cx} {e:Expr} {t:TT} (h:PW X e t):PT X e t:=h _
noncomputable def PA (X:Cx) (es:List Expr) (t:TA):Prop:=
 ∀ (pos:Pos) (pins:List (Addr × Obj)) (s:Shared) (σ:St) (H:Hp) (Q:List V->Hp->Prop),zB X pins σ H s->t σ H Q->wpAny (model X.prog X.w) X.A (spliced (backTo pos (starEach es X.env))) (AP X pins σ Q) X.xe s
noncomputable def PS (X:Cx) (st:Stmt) (t:TS):Prop:=
 ∀ (pins:List (Addr × Obj)) (s:Shared) (σ:St) (H:Hp) (D:yQ),zB X pins σ H s->t D σ H->wpAny (model X.prog X.w) X.A (exec st X.env) (SP X pins D) X.xe s
noncomputable def yU (X:Cx) (st:List Stmt) (t:TS):Prop:=
 ∀ (pins:List (Addr × Obj)) (s:Shared) (σ:St) (H:Hp) (D:yQ),zB X pins σ H s->t D σ H->wpAny (model X.prog X.w) X.A (execs st X.env) (SP X pins D) X.xe s
theorem zS {α:Type} {t:Sem α} {Q Q':α->Shared->Prop} {M:Model} {A:Around} {E:Value->Shared->Prop} {s:Shared} (h:wpAny M A t Q E s) (hQ:∀ a s,Q a s->Q' a s):wpAny M A t Q' E s:=wpAny_mono h hQ λ_ _ x=>x
end L2
namespace L2
open PySem PySem.Spec PyProof.Rows
section
variable {X:Cx}
noncomputable def vZ (i:Nat):TE:=λσ H Q=>∃ v,σ[i]? = some (some v)/\Q v H
noncomputable def tC (v:V):TE:=λ_ H Q=>Q v H
theorem kq {i:Nat} {x:Str} {pos:Pos} (hN:X.N[i]? = some x) (hv:vY X.env.scope x) (hd:(x == ("__debug__" : Str))=false:=by decide) (hcd:(x == ("__classdict__" : Str))=false:=by decide):PE X (.Name x pos) (vZ i):=by
 intro pins s σ H Q I h
 obtain ⟨v,e,h⟩:=h
 obtain ⟨m,hn,hl⟩:=I.loc
 obtain ⟨u,r,l⟩:=hl i x v hN e hv
 have fin:EP X pins σ Q u s:=⟨v,H,I,r,h⟩
 rcases l with ⟨hk,hm⟩ | ⟨hk,c,hc,hcell⟩
 ·exact wpAny_Name (wpAny_loadName_local I.ok.kind hk hn hm fin) hd
 ·rcases hk with hk | hk
  ·exact wpAny_Name (wpAny_loadName_cell I.ok.kind hk hc hcell fin) hd
  ·exact wpAny_Name (wpAny_loadName_free I.ok.kind hk hc hcell fin hcd) hd
theorem zH {i j pos}:PE X (.Constant (.int i) j pos) (tC (.int i)):=λ_ _ _ H _ I h=>wpAny_Constant_int ⟨.int i,H,I.tok _,⟨_,rfl⟩,h⟩
theorem yr {b j pos}:PE X (.Constant (.bool b) j pos) (tC (.bl b)):=λ_ _ _ H _ I h=>Constant_bool ⟨.bl b,H,I,rfl,h⟩
theorem kr {j pos}:PE X (.Constant .none j pos) (tC .non):=λ_ _ _ H _ I h=>Constant_none ⟨.non,H,I,rfl,h⟩
theorem yJ {x j pos}:PE X (.Constant (.str x) j pos) (tC (.str x)):=λ_ _ _ H _ I h=>Calls.Constant_str ⟨.str x,H,I.tok _,⟨_,rfl⟩,h⟩
noncomputable def Gl (X:Cx) (x:Str):Prop:=X.env.kindOf x=some .globalImplicit
theorem qw {E:Value->Shared->Prop} {pins:List (Addr × Obj)} {s:Shared} {σ:St} {H:Hp} {x:Str} {u:Value} {pos:Pos} {Q:Value->Shared->Prop} (I:zB X pins σ H s) (hg:Gl X x) (hm:X.mg x=some u) (h:Q u s)
  (hd:(x == ("__debug__" : Str))=false:=by decide):wpAny (model X.prog X.w) X.A (eval (.Name x pos) X.env) Q E s:=
 Calls.Name_function_global I.ok.kind hg (Calls.loadGlobal_global (by rw [I.ok.glob]; exact I.mod.glob.keeps I.bk) hm h) hd
theorem ub {E:Value->Shared->Prop} {pins:List (Addr × Obj)} {s:Shared} {σ:St} {H:Hp} {x:Str} {u:Value} {pos:Pos} {Q:Value->Shared->Prop} (I:zB X pins σ H s) (hg:Gl X x) (hm:X.mg x=none) (hv:bootBuiltins x=some u) (h:Q u s)
  (hn:x≠"__name__":=by decide) (hd:(x == ("__debug__" : Str))=false:=by decide):wpAny (model X.prog X.w) X.A (eval (.Name x pos) X.env) Q E s:=by
 obtain ⟨mb,h1,h2⟩:=I.mod.blt
 exact Calls.Name_function_global I.ok.kind hg (Calls.loadGlobal_builtin (by rw [I.ok.glob]; exact I.mod.glob.keeps I.bk) hm (by rw [I.ok.blt]; exact h1.keeps I.bk) ((h2 x hn).trans hv) h) hd
theorem qx {x:Str} {v:V} {u:Value} {pos:Pos} (hg:Gl X x) (hm:X.mg x=some u) (r:zI v u) (hd:(x == ("__debug__" : Str))=false:=by decide):PE X (.Name x pos) (tC v):=
 λ_ _ _ H _ I h=>qw I hg hm ⟨v,H,I,r,h⟩ hd
theorem yt {x:Str} {v:V} {u:Value} {pos:Pos} (hg:Gl X x) (hm:X.mg x=none) (hv:bootBuiltins x=some u) (r:zI v u) (hn:x≠"__name__":=by decide) (hd:(x == ("__debug__" : Str))=false:=by decide):PE X (.Name x pos) (tC v):=
 λ_ _ _ H _ I h=>ub I hg hm hv ⟨v,H,I,r,h⟩ hn hd
variable {a b:Expr} {ta tb:TE} {pos:Pos}
noncomputable def tB (t:TE):TT:=λσ H Q=>t σ H λx H1=>∃ c,x=.bl c/\Q c H1
theorem yH {e:Expr} {t:TE} (h:PE X e t) (he:∀ whole,isTrue e X.env whole=(do let v <- whole; standAt e.pos; holding [v] (truthy v)):=by intro _; rfl):PT X e (tB t):=by
 intro pins s σ H Q I hw
 refine isTrue_plain (zS (h pins s σ H _ I hw) λv s1 ⟨x,H1,I1,r1,q1⟩=>?_) (he _)
 obtain ⟨d,rfl,q⟩:=q1
 cases r1
 exact wpAny_truthy_bool ⟨H1,I1,q⟩
variable {tA tB':TT} {yI:List Expr}
noncomputable def ku (t u:TT):TT:=λσ H Q=>t σ H λc H1=>if c=true then Q true H1 else u σ H1 Q
noncomputable def jZ (t:TT):TT:=λσ H Q=>t σ H λc H1=>Q (!c) H1
theorem yu (ha:PT X a tA):PW X (.BoolOp .Or [a] pos) tA:=by
 intro wh pins s σ H Q I h
 refine isTrue_or (zS (ha pins s σ H Q I h) λc s1 e=>?_)
 cases c with
 | false=>exact isTrue_or_nil e
 | true=>exact e
theorem yR (ha:PT X a tA) (hb:PW X (.BoolOp .Or (b :: yI) pos) tB'):PW X (.BoolOp .Or (a :: b :: yI) pos) (ku tA tB'):=by
 intro wh pins s σ H Q I h
 refine isTrue_or (zS (ha pins s σ H _ I h) λc s1 ⟨H1,I1,q1⟩=>?_)
 cases c with
 | true=>exact ⟨H1,I1,q1⟩
 | false=>exact hb wh pins s1 σ H1 Q I1 q1
theorem yM (ha:PT X a tA):PT X (.UnaryOp .Not a pos) (jZ tA):=by
 intro pins s σ H Q I h
 exact isTrue_not (ha pins s σ H (λc H1=>Q (!c) H1) I h)
noncomputable def vb (ta tb:TE):TE:=λσ H Q=>ta σ H λx H1=>∃ c,x=.bl c/\if c=true then tb σ H1 Q else Q (.bl false) H1
noncomputable def ja (ta tb:TE):TE:=λσ H Q=>ta σ H λx H1=>∃ c,x=.bl c/\if c=true then Q (.bl true) H1 else tb σ H1 Q
noncomputable def vc (ta:TE):TE:=λσ H Q=>ta σ H λx H1=>∃ c,x=.bl c/\Q (.bl (!c)) H1
theorem wd {op} {t:TE} (h:PE X a t):PE X (.BoolOp op [a] pos) t:=λpins s σ H Q I hw=>BoolOp_one (h pins s σ H Q I hw)
theorem we (ha:PE X a ta) (hb:PE X (.BoolOp .And (b :: yI) pos) tb):PE X (.BoolOp .And (a :: b :: yI) pos) (vb ta tb):=by
 intro pins s σ H Q I h
 refine BoolOp_and (zS (ha pins s σ H _ I h) λv s1 ⟨x,H1,I1,r1,q1⟩=>?_)
 obtain ⟨c,rfl,q1⟩:=q1
 cases r1
 refine wpAny_truthy_bool ?_
 cases c with
 | true=>exact hb pins s1 σ H1 Q I1 q1
 | false=>exact ⟨.bl false,H1,I1,rfl,q1⟩
theorem vd (ha:PE X a ta) (hb:PE X (.BoolOp .Or (b :: yI) pos) tb):PE X (.BoolOp .Or (a :: b :: yI) pos) (ja ta tb):=by
 intro pins s σ H Q I h
 refine BoolOp_or (zS (ha pins s σ H _ I h) λv s1 ⟨x,H1,I1,r1,q1⟩=>?_)
 obtain ⟨c,rfl,q1⟩:=q1
 cases r1
 refine wpAny_truthy_bool ?_
 cases c with
 | false=>exact hb pins s1 σ H1 Q I1 q1
 | true=>exact ⟨.bl true,H1,I1,rfl,q1⟩
theorem uc (ha:PE X a ta):PE X (.UnaryOp .Not a pos) (vc ta):=by
 intro pins s σ H Q I h
 refine UnaryOp_ (zS (ha pins s σ H _ I h) λv s1 ⟨x,H1,I1,r1,q1⟩=>?_)
 obtain ⟨c,rfl,q1⟩:=q1
 cases r1
 exact not_of (wpAny_truthy_bool ⟨.bl (!c),H1,I1,rfl,q1⟩)
noncomputable def kw (t:TT) (ta tb:TE):TE:=λσ H Q=>t σ H λc H1=>if c=true then ta σ H1 Q else tb σ H1 Q
theorem kx {c:Expr} (hc:PT X c tA) (ha:PE X a ta) (hb:PE X b tb):PE X (.IfExp c a b pos) (kw tA ta tb):=by
 intro pins s σ H Q I h
 refine wpAny_IfExp (zS (hc pins s σ H _ I h) λd s1 ⟨H1,I1,q1⟩=>?_)
 cases d with
 | true=>exact ha pins s1 σ H1 Q I1 q1
 | false=>exact hb pins s1 σ H1 Q I1 q1
end
end L2
namespace L2
open PySem PySem.Spec PyProof.Rows
noncomputable def zE (K:PySem.W.Frag) (H:Hp) (a:Addr) (xs:List V):Prop:=
 Rd H a (.lst xs)∨
  ∃ (o:Obj) (its:Array Value) (n:Nat),K.lookup a=some o/\o.cls=.type "list"/\o.dict=none/\o.data=.seq its n/\its.size<=sizeLine/\zF xs its.toList
noncomputable def zV (K:PySem.W.Frag) (H:Hp) (a:Addr) (xs:List V):Prop:=
 Rd H a (.tup xs)∨
  ∃ (o:Obj) (its:Array Value) (n:Nat),K.lookup a=some o/\o.cls=.type "tuple"/\o.data=.seq its n/\its.size<=sizeLine/\zF xs its.toList
noncomputable def jb:Value->Option V
 | .none=>some .non
 | .bool b=>some (.bl b)
 | .int i _=>some (.int i)
 | .str x _=>some (.str x)
 | .bytes b _=>some (.byt b)
 | .float b _=>some (.flt b)
 | .ref a=>some (.ref a)
 | .type n=>some (.ty n)
 | _=>none
theorem zI.abs {x:V} {u:Value} (r:zI x u):jb u=some x:=by
 cases x with
 | non=>cases r; rfl
 | bl _=>cases r; rfl
 | int _=>obtain ⟨t,rfl⟩:=r; rfl
 | str _=>obtain ⟨t,rfl⟩:=r; rfl
 | byt _=>obtain ⟨t,rfl⟩:=r; rfl
 | flt _=>obtain ⟨t,rfl⟩:=r; rfl
 | ref _=>cases r; rfl
 | ty _=>cases r; rfl
theorem zI.inj {x y:V} {u:Value} (r:zI x u) (q:zI y u):x=y:=Option.some.inj (r.abs.symm.trans q.abs)
theorem zF.inj:∀ {xs ys:List V} {us:List Value},zF xs us->zF ys us->xs=ys
 | _,_,_,.nil,.nil=>rfl
 | _,_,_,.cons r t,.cons r' t'=>by rw [r.inj r',zF.inj t t']
section
variable {X:Cx} {pins:List (Addr × Obj)} {σ:St} {H:Hp} {s:Shared} {a:Addr} {xs ys:List V}
theorem zE.of {K:PySem.W.Frag} (h:H a=some (.lst xs)):zE K H a xs:=.inl (.inl h)
theorem zV.of {K:PySem.W.Frag} (h:H a=some (.tup xs)):zV K H a xs:=.inl (.inl h)
theorem zB.list (I:zB X pins σ H s) (h:zE X.K H a xs):∃ its:List Value,zF xs its/\PlainL s.heap a its.toArray/\xs.length<=sizeLine:=by
 rcases h with h | ⟨o,its,n,hk,hc,hd,hs,hz,r⟩
 ·obtain ⟨z,its,n,r,e⟩:=h.ok I.hok
  exact ⟨its,r,⟨_,n,e,rfl,rfl,rfl⟩,z⟩
 ·refine ⟨its.toList,r,⟨o,n,I.kIn a o hk,hc,hd,by simpa using hs⟩,?_⟩
  have e:=r.length
  simp only [Array.length_toList] at e
  omega
theorem zB.tuple (I:zB X pins σ H s) (h:zV X.K H a xs):∃ its:List Value,zF xs its/\IsTup s.heap a its.toArray/\xs.length<=sizeLine:=by
 rcases h with h | ⟨o,its,n,hk,hc,hs,hz,r⟩
 ·obtain ⟨z,its,r,p⟩:=h.ok I.hok
  exact ⟨its,r,p,z⟩
 ·refine ⟨its.toList,r,⟨o,I.kIn a o hk,hc,n,by simpa using hs⟩,?_⟩
  have e:=r.length
  simp only [Array.length_toList] at e
  omega
theorem zB.list_inj (I:zB X pins σ H s) (h:zE X.K H a xs) (h':zE X.K H a ys):xs=ys:=by
 obtain ⟨its,r,⟨o,n,e,_,_,d⟩,_⟩:=I.list h
 obtain ⟨its',r',⟨o',n',e',_,_,d'⟩,_⟩:=I.list h'
 rw [e] at e'; cases e'
 rw [d] at d'
 injection d' with d1 _
 have:its=its':=by simpa using congrArg Array.toList d1
 subst this
 exact r.inj r'
theorem zB.tuple_inj (I:zB X pins σ H s) (h:zV X.K H a xs) (h':zV X.K H a ys):xs=ys:=by
 obtain ⟨its,r,⟨o,e,_,n,d⟩,_⟩:=I.tuple h
 obtain ⟨its',r',⟨o',e',_,n',d'⟩,_⟩:=I.tuple h'
 rw [e] at e'; cases e'
 rw [d] at d'
 injection d' with d1 _
 have:its=its':=by simpa using congrArg Array.toList d1
 subst this
 exact r.inj r'
end
noncomputable abbrev Cx.wish (X:Cx) (E:Value->Shared->Prop):Cx:={ X with xe:=E }
noncomputable abbrev Cx.nox (X:Cx):Cx:=X.wish λ_ _=>False
theorem Cx.Ok.wish {X:Cx} (ok:X.Ok) (E:Value->Shared->Prop):(X.wish E).Ok:=
 ⟨ok.mod,ok.kind,ok.glob,ok.blt,ok.above,ok.inj,ok.has,ok.cab,ok.hd,ok.frames,ok.stk,ok.exf,ok.bs,ok.bsz,ok.noex,ok.exfs,ok.funs,ok.frf⟩
theorem Cx.Ok.unwish {X:Cx} {E:Value->Shared->Prop} (ok:(X.wish E).Ok):X.Ok:=
 ⟨ok.mod,ok.kind,ok.glob,ok.blt,ok.above,ok.inj,ok.has,ok.cab,ok.hd,ok.frames,ok.stk,ok.exf,ok.bs,ok.bsz,ok.noex,ok.exfs,ok.funs,ok.frf⟩
section
variable {X:Cx} {pins:List (Addr × Obj)} {σ:St} {H:Hp} {s:Shared} {E:Value->Shared->Prop}
theorem zB.wish (I:zB X pins σ H s) (E:Value->Shared->Prop):zB (X.wish E) pins σ H s:=⟨I.ok.wish E,I.os,I.bare,I.base,I.loc,I.cell,I.free,I.freeC,I.pin,I.hok,I.len⟩
theorem zB.unwish (I:zB (X.wish E) pins σ H s):zB X pins σ H s:=⟨I.ok.unwish,I.os,I.bare,I.base,I.loc,I.cell,I.free,I.freeC,I.pin,I.hok,I.len⟩
theorem SP.unwish {D:yQ} {f:Flow} {s':Shared} (h:SP (X.wish E) pins D f s'):SP X pins D f s':=by
 cases f with
 | next=>obtain ⟨σ',H',I,q⟩:=h; exact ⟨σ',H',I.unwish,q⟩
 | brk=>obtain ⟨σ',H',I,q⟩:=h; exact ⟨σ',H',I.unwish,q⟩
 | cont=>obtain ⟨σ',H',I,q⟩:=h; exact ⟨σ',H',I.unwish,q⟩
 | ret u=>obtain ⟨v,σ',H',I,r,q⟩:=h; exact ⟨v,σ',H',I.unwish,r,q⟩
theorem PE.nox {e:Expr} {t:TE} (h:PE X.nox e t):PE X e t:=λpins s σ H Q I hw=>
 wpAny_mono (h pins s σ H Q (I.wish _) hw) (λ_ _ ⟨v,H',I',r,q⟩=>⟨v,H',I'.unwish,r,q⟩) λ_ _ z=>False.elim z
theorem PT.nox {e:Expr} {t:TT} (h:PT X.nox e t):PT X e t:=λpins s σ H Q I hw=>
 wpAny_mono (h pins s σ H Q (I.wish _) hw) (λ_ _ ⟨H',I',q⟩=>⟨H',I'.unwish,q⟩) λ_ _ z=>False.elim z
theorem yU.nox {st:List Stmt} {t:TS} (h:yU X.nox st t):yU X st t:=λpins s σ H D I hw=>
 wpAny_mono (h pins s σ H D (I.wish _) hw) (λ_ _ q=>q.unwish) λ_ _ z=>False.elim z
end
section
variable {X:Cx} {st:Stmt} {yI:List Stmt} {t u:TS} {e:Expr} {te:TE} {pos:Pos}
noncomputable def ve:TS:=λD σ H=>D.nx σ H
noncomputable def jc (t u:TS):TS:=λD σ H=>t { D with nx:=u D } σ H
theorem zl:yU X [] ve:=λ_ _ σ H _ I h=>wpAny_execs_nil ⟨σ,H,I,h⟩
theorem zL (h1:PS X st t) (h2:yU X yI u):yU X (st :: yI) (jc t u):=by
 intro pins s σ H D I h
 refine wpAny_execs_cons (zS (h1 pins s σ H { D with nx:=u D } I h) λf s1 q=>?_)
 cases f with
 | next=>
  obtain ⟨σ',H',I',q⟩:=q
  exact h2 pins s1 σ' H' D I' q
 | ret v=>exact q
 | brk=>exact q
 | cont=>exact q
theorem zN (h1:PS X st t):yU X [st] t:=by
 intro pins s σ H D I h
 refine wpAny_execs_cons (zS (h1 pins s σ H D I h) λf s1 q=>?_)
 cases f with
 | next=>exact wpAny_execs_nil q
 | ret v=>exact q
 | brk=>exact q
 | cont=>exact q
theorem zB.quiet {pins:List (Addr × Obj)} {σ:St} {H:Hp} {s:Shared} (I:zB X pins σ H s):interactive X.env=false:=by simp [interactive,I.ok.kind]
noncomputable def vf (te:TE):TS:=λD σ H=>te σ H λ_ H1=>D.nx σ H1
theorem x8 (he:PE X e te) (hs:swapsWith e none pos.line X.env=pure false:=by rfl):PS X (.Expr e pos) (vf te):=by
 intro pins s σ H D I h
 exact wpAny_Expr_any (zS (he pins s σ H _ I h) λv s1 ⟨x,H1,I1,r1,q1⟩=>⟨σ,H1,I1,q1⟩) I.quiet hs
noncomputable def jd (te:TE):TS:=λD σ H=>te σ H D.rt
theorem zT (he:PE X e te):PS X (.Return (some e) pos) (jd te):=by
 intro pins s σ H D I h
 exact wpAny_Return_some (zS (he pins s σ H _ I h) λv s1 ⟨x,H1,I1,r1,q1⟩=>⟨x,σ,H1,I1,r1,q1⟩)
noncomputable def je (c:TT) (t u:TS):TS:=λD σ H=>c σ H λb H1=>if b=true then t D σ H1 else u D σ H1
theorem zm {c:Expr} {a b:List Stmt} {tc:TT} (hc:PT X c tc) (ha:yU X a t) (hb:yU X b u):PS X (.If c a b pos) (je tc t u):=by
 intro pins s σ H D I h
 refine wpAny_If (zS (hc pins s σ H _ I h) λd s1 ⟨H1,I1,q1⟩=>?_)
 cases d with
 | true=>exact ha pins s1 σ H1 D I1 q1
 | false=>exact hb pins s1 σ H1 D I1 q1
noncomputable def ky:TS:=λ_ _ _=>False
theorem x9:PS X st ky:=λ_ _ _ _ _ _ h=>h.elim
end
noncomputable abbrev TG:=V->St->Hp->(St->Hp->Prop)->Prop
noncomputable abbrev wA:=List V->St->Hp->(St->Hp->Prop)->Prop
noncomputable def PG (X:Cx) (target:Expr) (t:TG):Prop:=
 ∀ (pins:List (Addr × Obj)) (s:Shared) (σ:St) (H:Hp) (v:V) (u:Value) (Q:St->Hp->Prop),zB X pins σ H s->zI v u->t v σ H Q->
  wpAny (model X.prog X.w) X.A (assign target X.env u) (λ_ s'=>∃ σ' H',zB X pins σ' H' s'/\Q σ' H') X.xe s
noncomputable def ud (X:Cx) (ts:List Expr) (t:wA):Prop:=
 ∀ (pins:List (Addr × Obj)) (s:Shared) (σ:St) (H:Hp) (vs:List V) (us:List Value) (Q:St->Hp->Prop),zB X pins σ H s->zF vs us->t vs σ H Q->
  wpAny (model X.prog X.w) X.A (assignInOrder ((assignEach ts X.env).map (·.2)) us) (λ_ s'=>∃ σ' H',zB X pins σ' H' s'/\Q σ' H') X.xe s
section
variable {X:Cx} {pos:Pos}
noncomputable def jf (i:Nat):TG:=λv σ H Q=>Q (σ.set i (some v)) H
theorem zy {i:Nat} {x:Str} (hN:X.N.Nodup) (hi:X.N[i]? = some x) (hx:uZ X.env.scope x) (hf:X.fn x=true\/X.env.scope.names.lookup x=some .local:=by first | exact .inl rfl | exact .inr rfl | assumption):PG X (.Name x pos) (jf i):=by
 intro pins s σ H v u Q I r h
 exact wpAny_assign_Name (ua I hN hi hx r (λs' I'=>⟨_,H,I',h⟩) hf)
noncomputable def jg:wA:=λvs σ H Q=>vs=[]/\Q σ H
noncomputable def vg (t:TG) (u:wA):wA:=λvs σ H Q=>∃ v r,vs=v :: r/\t v σ H λσ' H'=>u r σ' H' Q
theorem kz:ud X [] jg:=by
 intro pins s σ H vs us Q I r h
 obtain ⟨e,h⟩:=h
 subst e
 cases r
 exact assignInOrder_nil ⟨σ,H,I,h⟩
theorem jh {e:Expr} {es:List Expr} {t:TG} {u:wA} (h1:PG X e t) (h2:ud X es u)
  (hs:(assignEach (e :: es) X.env).map (·.2)=assign e X.env :: (assignEach es X.env).map (·.2):=by rfl):ud X (e :: es) (vg t u):=by
 intro pins s σ H vs us Q I r h
 obtain ⟨v,vr,e1,h⟩:=h
 subst e1
 cases r with
 | cons r rr=>
  rw [hs]
  refine assignInOrder_cons (zS (h1 pins s σ H _ _ _ I r h) λ_ s1 ⟨σ1,H1,I1,q1⟩=>?_)
  exact h2 pins s1 σ1 H1 _ _ Q I1 rr q1
noncomputable def ji (K:PySem.W.Frag) (n:Nat) (t:wA):TG:=λv σ H Q=>∃ a xs,v=.ref a/\zV K H a xs/\xs.length=n/\t xs σ H Q
theorem ZA {es:List Expr} {k:Nat} {t:wA} {n:Nat} (hc:X.calm=true) (h:ud X es t)
  (hn:(assignEach es X.env).length=n:=by rfl) (hst:(assignEach es X.env).findIdx? (·.1)=none:=by rfl):PG X (.Tuple es k pos) (ji X.K n t):=by
 intro pins s σ H v u Q I r hw
 obtain ⟨a,xs,e1,hq,hl,hw⟩:=hw
 subst e1
 cases r
 obtain ⟨its,rv,ht,hz⟩:=I.tuple hq
 refine assign_Tuple_tuple (I.ok.hd hc) ht (by simp [hn,<- hl,rv.length]) hst λh' hx=>?_
 have I1:zB X pins σ H { s with heap:=h' }:=I.kept (t':=s.toks) λb o e=>hx b o (Nat.ne_of_lt (Heap.lt_size e)) e
 exact h pins _ σ H xs _ Q I1 (by simpa using rv) hw
noncomputable def vh (te:TE) (g:TG):TS:=λD σ H=>te σ H λx H1=>g x σ H1 D.nx
theorem zb {i:Nat} {x:Str} {e:Expr} {te:TE} {pos':Pos} (hN:X.N.Nodup) (hi:X.N[i]? = some x) (hx:uZ X.env.scope x) (he:PE X e te) (hs:swapsWith e (some (.Name x pos')) pos.line X.env=pure false:=by rfl) (hf:X.fn x=true\/X.env.scope.names.lookup x=some .local:=by first | exact .inl rfl | exact .inr rfl | assumption) :
  PS X (.Assign [.Name x pos'] e pos) (vh te (jf i)):=by
 intro pins s σ H D I h
 refine wpAny_Assign_Name (zS (he pins s σ H _ I h) λv s1 ⟨y,H1,I1,r1,q1⟩=>?_) hs
 exact ua I1 hN hi hx r1 (λs2 I2=>⟨_,H1,I2,q1⟩) hf
noncomputable def jj (i j:Nat) (ta:TA):TS:=λD σ H=>ta σ H λvs H1=>∃ v w,vs=[v,w]/\D.nx ((σ.set i (some v)).set j (some w)) H1
theorem ZB {i j:Nat} {x y:Str} {a b:Expr} {ta:TA} {px py pt:Pos} {kt k2 pt2} (hc:X.calm=true) (hN:X.N.Nodup) (hi:X.N[i]? = some x) (hj:X.N[j]? = some y) (hij:i≠j)
  (hx:X.env.scope.names.lookup x=some .local) (hy:X.env.scope.names.lookup y=some .local) (ha:PA X [a,b] ta)
  (hw:swappedStores [.Tuple [.Name x px,.Name y py] kt pt] (.Tuple [a,b] k2 pt2) X.env=pure (some [x,y]))
  (hs:swapsWithSole [.Tuple [.Name x px,.Name y py] kt pt] (.Tuple [a,b] k2 pt2) pos.line X.env=pure false:=by rfl) :
  PS X (.Assign [.Tuple [.Name x px,.Name y py] kt pt] (.Tuple [a,b] k2 pt2) pos) (jj i j ta):=by
 intro pins s σ H D I h
 rw [exec_Assign_arm]
 refine wpAny_bind (wpAny_standAt ?_)
 rw [hs]
 refine wpAny_bind (wpAny_pure ?_)
 rw [if_neg (by decide)]
 refine wpAny_bind (Tuple_ (zS (ha _ pins s σ H _ I h) λus s1 ⟨vs,H1,I1,r1,q1⟩=>?_))
 obtain ⟨v,w,e1,q1⟩:=q1
 subst e1
 obtain ⟨u1,u2,rfl,rv,rw'⟩:∃ u1 u2,us=[u1,u2]/\zI v u1/\zI w u2:=by
  cases r1 with
  | cons p q=>
   cases q with
   | cons p' q'=>
    cases q'
    exact ⟨_,_,rfl,p,p'⟩
 refine wpAny_newObj_type ?_ (by show 2<=sizeLine; decide)
 have I2:zB X pins σ H1 { s1 with heap:=s1.heap.push { cls:=.type "tuple",data:=.seq [u1,u2].toArray } }:=I1.kept (t':=s1.toks) λb o e=>Heap.get?_push_of_some _ e
 rw [hw]
 refine wpAny_bind (wpAny_pure ?_)
 show wpAny (model X.prog X.w) X.A (do rule "assign.swapped-stores"; let items <- unpackItems (.ref s1.heap.objs.size) 2 none; assignInOrder [λv=>bindName X.env y v,λv=>bindName X.env x v] items.reverse; pure Flow.next) _ _ _
 refine wpAny_bind (wpAny_rule (wpAny_bind (unpackItems_tuple (items:=#[u1,u2]) (I.ok.hd hc) (IsTup.new s1.heap _) λh' hx'=>?_)))
 have I3:=I2.kept (h':=h') (t':=s1.toks) λb o e=>hx' b o (Nat.ne_of_lt (Heap.lt_size e)) e
 show wpAny _ _ (assignInOrder [λv=>bindName X.env y v,λv=>bindName X.env x v] [u2,u1] >>= λ_=>pure Flow.next) _ _ _
 refine wpAny_bind (assignInOrder_cons (wpAny_bindName (ua I3 hN hj (.inl hy) rw' (λs2 I4=>?_) (.inr hy))))
 refine assignInOrder_cons (wpAny_bindName (ua I4 hN hi (.inl hx) rv (λs3 I5=>assignInOrder_nil (wpAny_pure ?_)) (.inr hx)))
 rw [List.set_comm _ _ (Ne.symm hij)] at I5
 exact ⟨_,H1,I5,q1⟩
end
section
variable {X:Cx} {pos:Pos}
noncomputable def qy (c:TT) (tb:TS):TS:=λD σ H=>∃ W:Nat->St->Hp->Prop,(∃ m,W m σ H)/\∀ m σ H,W m σ H->
 c σ H λb H1=>if b=true then ∃ N:St->Hp->Prop,(∀ σ' H',N σ' H'->∃ m',m' < m/\W m' σ' H')/\tb { D with nx:=N,ct:=N,bk:=D.nx } σ H1 else D.nx σ H1
theorem qz {c:Expr} {body:List Stmt} {tc:TT} {tb:TS} (hp:PassesOwn (model X.prog X.w) X.A X.env X.xe) (hc:PT X c tc) (hb:yU X body tb):PS X (.While c body [] pos) (qy tc tb):=by
 intro pins s σ H D I h
 obtain ⟨W,⟨m0,w0⟩,turn⟩:=h
 refine wpAny_While (codeAny_whileLoop (λn s'=>∃ σ' H',zB X pins σ' H' s'/\W n σ' H') ?_ m0 ⟨σ,H,I,w0⟩)
 rintro n s1 ⟨σ1,H1,I1,w1⟩
 refine wpAny_passesOwn hp (zS (hc pins s1 σ1 H1 _ I1 (turn n σ1 H1 w1)) λb s2 ⟨H2,I2,q2⟩=>?_)
 cases b with
 | true=>
  obtain ⟨N,hN,q2⟩:=q2
  rw [if_pos rfl]
  refine wpAny_passesOwn hp (zS (hb pins s2 σ1 H2 _ I2 q2) λf s3 q3=>?_)
  cases f with
  | next=>
   obtain ⟨σ3,H3,I3,n3⟩:=q3
   obtain ⟨m',hm,w3⟩:=hN σ3 H3 n3
   exact ⟨m',hm,σ3,H3,I3,w3⟩
  | cont=>
   obtain ⟨σ3,H3,I3,n3⟩:=q3
   obtain ⟨m',hm,w3⟩:=hN σ3 H3 n3
   exact ⟨m',hm,σ3,H3,I3,w3⟩
  | brk=>exact q3
  | ret v=>exact q3
 | false=>
  rw [if_neg Bool.false_ne_true]
  exact wpAny_execs_nil ⟨σ1,H2,I2,q2⟩
end
structure It where
 go:Nat->Hp->Prop
 yld:Nat->Hp->V->Hp->Prop
 stop:Nat->Hp->Prop
noncomputable def zf (X:Cx) (pins:List (Addr × Obj)) (H:Hp) (b:Addr):Prop:=
 H b=none/\b≠X.env.locals/\b∉X.fs/\(b∈X.ex\/X.s₀.heap.objs.size<=b)/\(∀ x c,X.env.cells.lookup x=some c->c≠b)/\∀ p∈X.pn++pins,p.1≠b
theorem zB.fpOk {X:Cx} {pins:List (Addr × Obj)} {σ:St} {H H':Hp} {s:Shared} {b:Addr} (I:zB X pins σ H s) (hb:s.heap.objs.size<=b) (hn:H' b=none):zf X pins H' b:=by
 refine ⟨hn,Nat.ne_of_gt (Nat.lt_of_lt_of_le I.lt hb),I.nofs hb,.inr (Nat.le_trans I.sz hb),λx c e z=>?_,λp hp z=>?_⟩
 ·obtain ⟨v,q⟩:=I.cell x c e
  exact absurd (Nat.lt_of_lt_of_le q.lt (by rw [z]; exact hb)) (Nat.lt_irrefl _)
 ·exact absurd (Nat.lt_of_lt_of_le (Heap.lt_size (I.pin p hp).1) (by rw [z]; exact hb)) (Nat.lt_irrefl _)
structure yf (P:Program) (w:World) (K:PySem.W.Frag) (tg:Expr) (J:It) (fp:List Addr) (it:Addr) (tn:Nat->Heap->Prop):Prop where
 mem:it∈fp
 obj:∀ i h,tn i h->∀ b∈fp,∃ o,h.get? b=some o/\∀ v,o.data≠.cell v
 keep:∀ i h h',tn i h->(∀ b∈fp,∀ o,h.get? b=some o->h'.get? b=some o)->tn i h'
 item:∀ (X:Cx),X.prog=P->X.w=w->X.K=K->X.calm=true->∀ (i:Nat) (pins:List (Addr × Obj)) (s:Shared) (σ:St) (H:Hp) (E:Value->Shared->Prop),zB X pins σ H s->(∀ b∈fp,zf X pins H b)->tn i s.heap->J.go i H->
  wpAny (model P w) X.A (pyNext (.ref it)) (λr s1=>∃ u,r=some u∧
   wpAny (model P w) X.A (letOwnedTupleGo tg (.ref it) u) (λ_ s2=>∃ x H',zB X pins σ H' s2/\zI x u/\J.yld i H x H'/\tn (i + 1) s2.heap/\∀ b∈fp,H' b=none) E s1) E s
 done:∀ (X:Cx),X.prog=P->X.w=w->X.K=K->X.calm=true->∀ (i:Nat) (pins:List (Addr × Obj)) (s:Shared) (σ:St) (H:Hp) (E:Value->Shared->Prop),zB X pins σ H s->(∀ b∈fp,zf X pins H b)->tn i s.heap->J.stop i H->
  wpAny (model P w) X.A (pyNext (.ref it)) (λr s1=>r=none/\zB X pins σ H s1) E s
 self:∀ (A:Around) (i:Nat) (s:Shared) (Q:Value->Shared->Prop) (E:Value->Shared->Prop),tn i s.heap->Q (.ref it) s->wpAny (model P w) A (pyIter (.ref it)) Q E s
noncomputable abbrev TI:=St->Hp->(It->Hp->Prop)->Prop
noncomputable def q4 (X:Cx) (pins:List (Addr × Obj)) (σ:St) (tg:Expr) (R:It->Hp->Prop) (itv:Value) (s2:Shared):Prop:=
 ∃ (it:Addr) (fp:List Addr) (tn:Nat->Heap->Prop) (J:It) (H':Hp),itv=.ref it/\zB X pins σ H' s2/\yf X.prog X.w X.K tg J fp it tn/\tn 0 s2.heap/\(∀ b∈fp,zf X pins H' b)/\R J H'
noncomputable def PI (X:Cx) (tg iter:Expr) (wi:TI):Prop:=
 ∀ (pins:List (Addr × Obj)) (s:Shared) (σ:St) (H:Hp) (R:It->Hp->Prop),zB X pins σ H s->wi σ H R->
  wpAny (model X.prog X.w) X.A (eval iter X.env) (λv s1=>wpAny (model X.prog X.w) X.A (pyIter v) (q4 X pins σ tg R) X.xe s1) X.xe s
theorem ue {M:Model} {A:Around} {E:Value->Shared->Prop} {s:Shared} {tg:Expr} {it:Addr} {u:Value} {o:Obj} {n:String} {vs:Array Value} {Q:Unit->Shared->Prop} (ho:s.heap.get? it=some o) (hc:o.cls=.type n) (hd:o.data=.fields vs)
  (hn:["enumerate","zip","dict_itemiterator","dict_reverseitemiterator","odict_iterator","itertools.zip_longest","itertools.pairwise"].contains n=false) (hQ:Q () s):wpAny M A (letOwnedTupleGo tg (.ref it) u) Q E s:=by
 unfold letOwnedTupleGo
 cases tg <;> first
  | exact wpAny_pure hQ
  | (cases u <;> first
    | exact wpAny_pure hQ
    | (refine wpAny_bind (wpAny_load ho ?_)
       rw [hc,hd]
       show wpAny M A (if (["enumerate","zip","dict_itemiterator","dict_reverseitemiterator","odict_iterator","itertools.zip_longest","itertools.pairwise"].contains n && vs[0]? == some (rawInt _))=true then _ else _) Q E s
       rw [if_neg (by intro h; rw [hn,Bool.false_and] at h; cases h)]
       exact wpAny_pure hQ))
noncomputable def wf (K:PySem.W.Frag) (a:Addr):It:=
 ⟨λi H=>∃ xs x,zE K H a xs/\xs[i]? = some x,λi H x H'=>H'=H/\∀ xs,zE K H a xs->xs[i]? = some x,λi H=>∃ xs,zE K H a xs/\xs.length<=i⟩
noncomputable def wg (K:PySem.W.Frag) (a:Addr):It:=
 ⟨λi H=>∃ xs x,zV K H a xs/\xs[i]? = some x,λi H x H'=>H'=H/\∀ xs,zV K H a xs->xs[i]? = some x,λi H=>∃ xs,zV K H a xs/\xs.length<=i⟩
noncomputable def wB (lo:Int) (n:Nat):It:=⟨λi _=>i < n,λi H x H'=>H'=H/\x=.int (lo + i),λi _=>n<=i⟩
theorem ZC {P:Program} {w:World} {K:PySem.W.Frag} {tg:Expr} (a it:Addr):yf P w K tg (wf K a) [it] it (λi h=>h.IsListIter it a i) where
 mem:=by simp
 obj:=λi h st b hb=>by
  have e:b=it:=by simpa using hb
  subst e
  obtain ⟨o,e,c,d⟩:=st
  exact ⟨o,e,λv z=>by rw [d] at z; cases z⟩
 keep:=λi h h' st k=>st.at λo e=>k it (by simp) o e
 item:=by
  intro X hP hw hK hc i pins s σ H E I hf st hg
  subst hP hw hK
  obtain ⟨xs,x,hq,hx⟩:=hg
  obtain ⟨its,rv,p,hz⟩:=I.list hq
  obtain ⟨u,hu,ru⟩:=rv.get hx
  obtain ⟨f0,f1,f2,f3,f4,f5⟩:=hf it (by simp)
  refine wpAny_pyNext_list_item st p.isList (x:=u) (by simpa using hu) λh' st' sb=>?_
  have I1:zB X pins σ H { s with heap:=h' }:=I.turned (t':=s.toks) (λb o hb e=>(sb.2 b hb).trans e) f0 f1 f3 f4 f5
  obtain ⟨o,e,c,d⟩:=id st'
  exact ⟨u,rfl,ue (s:={ s with heap:=h' }) e c d (by decide) ⟨x,H,I1,ru,⟨rfl,λys hy=>by rw [I.list_inj hy hq]; exact hx⟩,st',λb hb=>(hf b hb).1⟩⟩
 done:=by
  intro X hP hw hK hc i pins s σ H E I hf st hg
  subst hP hw hK
  obtain ⟨xs,hq,hx⟩:=hg
  obtain ⟨its,rv,p,hz⟩:=I.list hq
  obtain ⟨f0,f1,f2,f3,f4,f5⟩:=hf it (by simp)
  have hl:=rv.length
  exact wpAny_pyNext_list_end (I.ok.hd hc) st p.isList (by simp; omega) λh' eb=>⟨rfl,I.turned (t':=s.toks) (λb o hb e=>eb b o hb e) f0 f1 f3 f4 f5⟩
 self:=λ_ _ _ _ _ st h=>wpAny_pyIter_listiter st h
theorem ZD {P:Program} {w:World} {K:PySem.W.Frag} {tg:Expr} (a it:Addr):yf P w K tg (wg K a) [it] it (λi h=>h.IsTupleIter it a i) where
 mem:=by simp
 obj:=λi h st b hb=>by
  have e:b=it:=by simpa using hb
  subst e
  obtain ⟨o,e,c,d⟩:=st
  exact ⟨o,e,λv z=>by rw [d] at z; cases z⟩
 keep:=λi h h' st k=>st.at λo e=>k it (by simp) o e
 item:=by
  intro X hP hw hK hc i pins s σ H E I hf st hg
  subst hP hw hK
  obtain ⟨xs,x,hq,hx⟩:=hg
  obtain ⟨its,rv,p,hz⟩:=I.tuple hq
  obtain ⟨u,hu,ru⟩:=rv.get hx
  obtain ⟨f0,f1,f2,f3,f4,f5⟩:=hf it (by simp)
  refine wpAny_pyNext_tuple_item st (show s.heap.IsTuple a its.toArray from p) (x:=u) (by simpa using hu) λh' st' sb=>?_
  have I1:zB X pins σ H { s with heap:=h' }:=I.turned (t':=s.toks) (λb o hb e=>(sb.2 b hb).trans e) f0 f1 f3 f4 f5
  obtain ⟨o,e,c,d⟩:=id st'
  exact ⟨u,rfl,ue (s:={ s with heap:=h' }) e c d (by decide) ⟨x,H,I1,ru,⟨rfl,λys hy=>by rw [I.tuple_inj hy hq]; exact hx⟩,st',λb hb=>(hf b hb).1⟩⟩
 done:=by
  intro X hP hw hK hc i pins s σ H E I hf st hg
  subst hP hw hK
  obtain ⟨xs,hq,hx⟩:=hg
  obtain ⟨its,rv,p,hz⟩:=I.tuple hq
  obtain ⟨f0,f1,f2,f3,f4,f5⟩:=hf it (by simp)
  have hl:=rv.length
  exact wpAny_pyNext_tuple_end (I.ok.hd hc) st (show s.heap.IsTuple a its.toArray from p) (by simp; omega) λh' eb=>⟨rfl,I.turned (t':=s.toks) (λb o hb e=>eb b o hb e) f0 f1 f3 f4 f5⟩
 self:=λ_ _ _ _ _ st h=>wpAny_pyIter_tupleiter st h
theorem ZE {P:Program} {w:World} {K:PySem.W.Frag} {tg:Expr} (it:Addr) (lo:Int) (n:Nat):yf P w K tg (wB lo n) [it] it (λi h=>IsRangeIter h it (lo + (i:Nat) * 1) ((n:Int) - (i:Nat)) 1) where
 mem:=by simp
 obj:=λi h st b hb=>by
  have e:b=it:=by simpa using hb
  subst e
  exact ⟨_,st,λv z=>by
   have z':Data.fields _=Data.cell v:=z
   cases z'⟩
 keep:=λi h h' st k=>k it (by simp) _ st
 item:=by
  intro X hP hw hK hc i pins s σ H E I hf st hg
  subst hP hw hK
  obtain ⟨f0,f1,f2,f3,f4,f5⟩:=hf it (by simp)
  have W:=Walks.range (prog:=X.prog) (w:=X.w) (I.ok.hd hc) it lo 1 n
  refine W.item i s _ _ hg st λv h' tk hv st' kk=>?_
  obtain ⟨t,rfl⟩:=hv
  have I1:zB X pins σ H { s with heap:=h',toks:=tk }:=I.turned (λb o hb e=>kk b o (by simpa using hb) e) f0 f1 f3 f4 f5
  refine ⟨_,rfl,ue (s:={ s with heap:=h',toks:=tk }) (n:="range_iterator") st' rfl rfl (by decide) ⟨.int (lo + i),H,I1,⟨t,?_⟩,⟨rfl,rfl⟩,st',λb hb=>(hf b hb).1⟩⟩
  rw [Int.mul_one]
 done:=by
  intro X hP hw hK hc i pins s σ H E I hf st hg
  subst hP hw hK
  obtain ⟨f0,f1,f2,f3,f4,f5⟩:=hf it (by simp)
  exact wpAny_pyNext_range_end (I.ok.hd hc) st (by have:n<=i:=hg; omega) λh' eb=>⟨rfl,I.turned (t':=s.toks) (λb o hb e=>eb b o hb e) f0 f1 f3 f4 f5⟩
 self:=λ_ _ _ _ _ st h=>wpAny_pyIter_rangeiter st h
end L2
namespace L2
open PySem PySem.Spec PyProof.Rows
section
variable {X:Cx} {tg:Expr}
noncomputable def vi (K:PySem.W.Frag) (tl:TE):TI:=λσ H R=>tl σ H λx H1=>∃ a,x=.ref a/\(∃ xs,zE K H1 a xs)/\R (wf K a) H1
noncomputable def vj (K:PySem.W.Frag) (tl:TE):TI:=λσ H R=>tl σ H λx H1=>∃ a,x=.ref a/\(∃ xs,zV K H1 a xs)/\R (wg K a) H1
theorem yS {l:Expr} {tl:TE} (hl:PE X l tl):PI X tg l (vi X.K tl):=by
 intro pins s σ H R I h
 refine zS (hl pins s σ H _ I h) λv s1 ⟨x,H1,I1,r1,q1⟩=>?_
 obtain ⟨a,e,⟨xs,hq⟩,q⟩:=q1
 subst e
 cases r1
 obtain ⟨its,rv,p,hz⟩:=I1.list hq
 refine wpAny_pyIter_list p.isList ?_
 refine ⟨s1.heap.objs.size,[s1.heap.objs.size],_,_,H1,rfl,I1.kept (t':=s1.toks) λb o e=>Heap.get?_push_of_some _ e,ZC a _,⟨_,Heap.get?_push_size _ rfl,rfl,rfl⟩,λb hb=>?_,q⟩
 have e:b=s1.heap.objs.size:=by simpa using hb
 subst e
 exact I1.fpOk (Nat.le_refl _) (I1.hok.fresh (Nat.le_refl _))
theorem jk {l:Expr} {tl:TE} (hl:PE X l tl):PI X tg l (vj X.K tl):=by
 intro pins s σ H R I h
 refine zS (hl pins s σ H _ I h) λv s1 ⟨x,H1,I1,r1,q1⟩=>?_
 obtain ⟨a,e,⟨xs,hq⟩,q⟩:=q1
 subst e
 cases r1
 obtain ⟨its,rv,p,hz⟩:=I1.tuple hq
 refine wpAny_pyIter_tuple (show s1.heap.IsTuple a its.toArray from p) ?_
 refine ⟨s1.heap.objs.size,[s1.heap.objs.size],_,_,H1,rfl,I1.kept (t':=s1.toks) λb o e=>Heap.get?_push_of_some _ e,ZD a _,⟨_,Heap.get?_push_size _ rfl,rfl,rfl⟩,λb hb=>?_,q⟩
 have e:b=s1.heap.objs.size:=by simpa using hb
 subst e
 exact I1.fpOk (Nat.le_refl _) (I1.hok.fresh (Nat.le_refl _))
theorem ZF {pins:List (Addr × Obj)} {σ:St} {H:Hp} {s:Shared} {R:It->Hp->Prop} {E:Value->Shared->Prop} {lo hi:Int} {t u v:Tok} {tk:Nat} (I:zB X pins σ H s) (h1 : -(2 ^ 62)<=lo) (h2:lo < 2 ^ 62) (h3 : -(2 ^ 62)<=hi) (h4:hi < 2 ^ 62)
  (q:R (wB lo (hi - lo).toNat) H):wpAny (model X.prog X.w) X.A (pyIter (.ref s.heap.objs.size)) (q4 X pins σ tg R) E { s with heap:=s.heap.push { cls:=.type "range",data:=.fields #[.int lo t,.int hi u,.int 1 v] },toks:=tk }:=by
 refine wpAny_pyIter_range (IsRange.new ..) (small_one h1 h2 h3 h4) ?_
 have I1:zB X pins σ H { s with heap:=s.heap.push { cls:=.type "range",data:=.fields #[.int lo t,.int hi u,.int 1 v] },toks:=tk }:=I.kept λb o e=>Heap.get?_push_of_some _ e
 refine ⟨(s.heap.push { cls:=.type "range",data:=.fields #[.int lo t,.int hi u,.int 1 v] }).objs.size,[(s.heap.push { cls:=.type "range",data:=.fields #[.int lo t,.int hi u,.int 1 v] }).objs.size],_,_,H,rfl,
  I1.kept (t':=tk) λb o e=>Heap.get?_push_of_some _ e,ZE _ lo (hi - lo).toNat,?_,λb hb=>?_,q⟩
 ·have e1:lo + ((0:Nat):Int) * 1=lo:=by simp
  have e2:(((hi - lo).toNat:Nat):Int) - ((0:Nat):Int)=Builtin.Range.rangeSize lo hi 1:=by rw [rangeSize_one]; split <;> omega
  show IsRangeIter _ _ (lo + ((0:Nat):Int) * 1) ((((hi - lo).toNat:Nat):Int) - ((0:Nat):Int)) 1
  rw [e1,e2]
  exact Heap.get?_push_size _ rfl
 ·have e:b=(s.heap.push { cls:=.type "range",data:=.fields #[.int lo t,.int hi u,.int 1 v] }).objs.size:=by simpa using hb
  subst e
  exact I1.fpOk (Nat.le_refl _) (I1.hok.fresh (Nat.le_refl _))
noncomputable def vk (ta:TA):TI:=λσ H R=>ta σ H λvs H1=>∃ j:Int,vs=[.int j]/\-(2 ^ 62)<=j/\j < 2 ^ 62/\R (wB 0 j.toNat) H1
theorem wj {a:Expr} {ta:TA} {p pos:Pos} (hg:Gl X "range") (hm:X.mg "range" = none) (ha:PA X [a] ta) (hs:starEach [a] X.env=[(false,eval a X.env)]:=by rfl):PI X tg (.Call (.Name "range" p) [a] [] pos) (vk ta):=by
 intro pins s σ H R I h
 refine Call_ (ub I hg hm boot_range (PyProof.Rows.callWith_type1 (zS (ha pos pins s σ H _ I h) λus s1 ⟨vs,H1,I1,r1,q1⟩=>?_) hs rfl))
 obtain ⟨j,e,q1,q2,q⟩:=q1
 subst e
 cases r1 with
 | cons r rr=>
  cases rr
  obtain ⟨t,rfl⟩:=r
  exact call_range_1 (ZF I1 (by omega) (by omega) q1 q2 (by simpa using q))
noncomputable def jl (wi:TI) (g:TG) (tb:TS):TS:=λD σ H=>wi σ H λJ H1=>∃ W:Nat->Nat->St->Hp->Prop,(∃ m,W 0 m σ H1)/\∀ i m σ H,W i m σ H->
 (J.stop i H/\D.nx σ H)\/(J.go i H/\∃ N:St->Hp->Prop,(∀ σ' H',N σ' H'->∃ m',m' < m/\W (i + 1) m' σ' H')/\∀ x H',J.yld i H x H'->g x σ H' λσ2 H2=>tb { D with nx:=N,ct:=N,bk:=D.nx } σ2 H2)
noncomputable def wk (fp:List Addr) (h:Heap):List (Addr × Obj):=fp.filterMap λb=>(h.get? b).map λo=>(b,o)
theorem wl {fp:List Addr} {h:Heap} {b:Addr} {o:Obj} (hb:b∈fp) (e:h.get? b=some o):(b,o)∈wk fp h:=List.mem_filterMap.mpr ⟨b,hb,by rw [e]; rfl⟩
theorem ZG {fp:List Addr} {h:Heap} {p:Addr × Obj} (hp:p∈wk fp h):p.1∈fp/\h.get? p.1=some p.2:=by
 obtain ⟨b,hb,e⟩:=List.mem_filterMap.mp hp
 cases q:h.get? b with
 | none=>rw [q] at e; cases e
 | some o=>
  rw [q] at e
  have e':(b,o)=p:=Option.some.inj e
  subst e'
  exact ⟨hb,q⟩
theorem zB.pinned {pins:List (Addr × Obj)} {σ:St} {H:Hp} {s:Shared} {fp:List Addr} (I:zB X pins σ H s) (hf:∀ b∈fp,zf X pins H b) (ho:∀ b∈fp,∃ o,s.heap.get? b=some o/\∀ v,o.data≠.cell v):zB X (pins++wk fp s.heap) σ H s:=
 I.pins_of λp hp=>(List.mem_append.mp hp).elim (λz=>I.pin p (List.mem_append_right _ z)) λz=>by
  obtain ⟨hb,e⟩:=ZG z
  obtain ⟨f0,f1,f2,_⟩:=hf p.1 hb
  obtain ⟨o,e',d⟩:=ho p.1 hb
  rw [e] at e'; cases e'
  exact ⟨e,f0,f1,f2,d⟩
theorem zB.unpinned {pins pl:List (Addr × Obj)} {σ:St} {H:Hp} {s:Shared} (I:zB X (pins++pl) σ H s):zB X pins σ H s:=I.pins_of λp hp=>I.pin p (List.mem_append_right _ (List.mem_append_left _ hp))
theorem xn {iter:Expr} {body:List Stmt} {wi:TI} {g:TG} {tb:TS} {pos:Pos} (hp:PassesOwn (model X.prog X.w) X.A X.env X.xe) (hc:X.calm=true) (hi:PI X tg iter wi) (hg:PG X tg g) (hb:yU X body tb)
  (hs:∀ x,foldedSetIterable iter X.env x=pure x:=by intro _; rfl):PS X (.For tg iter body [] pos) (jl wi g tb):=by
 intro pins s σ H D I h
 refine wpAny_For (zS (hi pins s σ H _ I h) λv s1 h1=>zS h1 λitv s2 h2=>?_) hs
 obtain ⟨it,fp,tn,J,H2,e,I2,T,st2,f2,W,⟨m0,w0⟩,turn⟩:=h2
 subst e
 have stat:∀ {H':Hp},(∀ b∈fp,H' b=none)->∀ b∈fp,zf X pins H' b:=λhn b hb=>⟨hn b hb,(f2 b hb).2⟩
 refine codeAny_forLoop_any (λn s'=>∃ i σ' H',zB X pins σ' H' s'/\tn i s'.heap/\(∀ b∈fp,H' b=none)/\W i n σ' H') ?_ m0 ⟨0,σ,H2,I2,st2,λb hb=>(f2 b hb).1,w0⟩
 rintro n s3 ⟨i,σ3,H3,I3,st3,fr3,w3⟩
 rcases turn i n σ3 H3 w3 with ⟨stop,qn⟩ | ⟨go,N,hN,step⟩
 ·refine wpAny_passesOwn hp (zS (T.done X rfl rfl rfl hc i pins s3 σ3 H3 X.xe I3 (stat fr3) st3 stop) λr s4 ⟨hr,I4⟩=>?_)
  subst hr
  exact wpAny_execs_nil ⟨σ3,H3,I4,qn⟩
 ·refine wpAny_passesOwn hp (zS (T.item X rfl rfl rfl hc i pins s3 σ3 H3 X.xe I3 (stat fr3) st3 go) λr s4 ⟨u,hr,h4⟩=>?_)
  subst hr
  refine wpAny_passesOwn hp (zS h4 λ_ s5 ⟨x,H5,I5,r5,y5,st5,fr5⟩=>?_)
  have I5':=I5.pinned (stat fr5) (T.obj _ _ st5)
  refine wpAny_passesOwn hp (zS (hg _ s5 σ3 H5 x u _ I5' r5 (step x H5 y5)) λ_ s6 ⟨σ6,H6,I6,q6⟩=>?_)
  refine wpAny_passesOwn hp (zS (hb _ s6 σ6 H6 _ I6 q6) λf s7 q7=>?_)
  have again:∀ {σ7:St} {H7:Hp},zB X (pins++wk fp s5.heap) σ7 H7 s7->N σ7 H7->∃ m,m < n/\∃ i σ' H',zB X pins σ' H' s7/\tn i s7.heap/\(∀ b∈fp,H' b=none)/\W i m σ' H':=λ{σ7 H7} I7 n7=>by
   obtain ⟨m',hm,w7⟩:=hN σ7 H7 n7
   refine ⟨m',hm,i + 1,σ7,H7,I7.unpinned,T.keep _ _ _ st5 λb hb o e=>(I7.pin (b,o) (List.mem_append_right _ (List.mem_append_right _ (wl hb e)))).1,λb hb=>?_,w7⟩
   obtain ⟨o,e,d⟩:=T.obj _ _ st5 b hb
   exact (I7.pin (b,o) (List.mem_append_right _ (List.mem_append_right _ (wl hb e)))).2.1
  cases f with
  | next=>obtain ⟨σ7,H7,I7,n7⟩:=q7; exact again I7 n7
  | cont=>obtain ⟨σ7,H7,I7,n7⟩:=q7; exact again I7 n7
  | brk=>obtain ⟨σ7,H7,I7,q7⟩:=q7; exact ⟨σ7,H7,I7.unpinned,q7⟩
  | ret v=>obtain ⟨x7,σ7,H7,I7,r7,q7⟩:=q7; exact ⟨x7,σ7,H7,I7.unpinned,r7,q7⟩
end
theorem jm {K:PySem.W.Frag} {a:Addr} {xs:List V} {g:TG} {tb:TS} {D:yQ} {σ:St} {H:Hp} (Pv:Nat->St->Hp->Prop) (h0:Pv 0 σ H) (hl:∀ i σ H,i<=xs.length->Pv i σ H->zE K H a xs)
  (hs:∀ i x σ H,xs[i]? = some x->Pv i σ H->g x σ H λσ2 H2=>tb { D with nx:=Pv (i + 1),ct:=Pv (i + 1),bk:=D.nx } σ2 H2) (hd:∀ σ H,Pv xs.length σ H->D.nx σ H) :
  ∃ W:Nat->Nat->St->Hp->Prop,(∃ m,W 0 m σ H)/\∀ i m σ H,W i m σ H->
   ((wf K a).stop i H/\D.nx σ H)\/((wf K a).go i H/\∃ N:St->Hp->Prop,(∀ σ' H',N σ' H'->∃ m',m' < m/\W (i + 1) m' σ' H')/\∀ x H',(wf K a).yld i H x H'->g x σ H' λσ2 H2=>tb { D with nx:=N,ct:=N,bk:=D.nx } σ2 H2):=by
 refine ⟨λi m σ H=>m=xs.length - i/\i<=xs.length/\Pv i σ H,⟨xs.length,by simp,Nat.zero_le _,h0⟩,?_⟩
 rintro i m σ H ⟨rfl,hi,p⟩
 have q:=hl i σ H hi p
 by_cases hlt:i < xs.length
 ·refine .inr ⟨⟨xs,xs[i],q,by simp [hlt]⟩,Pv (i + 1),λσ' H' p'=>⟨xs.length - (i + 1),by omega,rfl,hlt,p'⟩,λx H' y=>?_⟩
  obtain ⟨e,y⟩:=y
  subst e
  exact hs i x σ _ (y xs q) p
 ·have e:i=xs.length:=by omega
  subst e
  exact .inl ⟨⟨xs,q,Nat.le_refl _⟩,hd σ H p⟩
theorem ZH {K:PySem.W.Frag} {a:Addr} {xs:List V} {g:TG} {tb:TS} {D:yQ} {σ:St} {H:Hp} (Pv:Nat->St->Hp->Prop) (h0:Pv 0 σ H) (hl:∀ i σ H,i<=xs.length->Pv i σ H->zV K H a xs)
  (hs:∀ i x σ H,xs[i]? = some x->Pv i σ H->g x σ H λσ2 H2=>tb { D with nx:=Pv (i + 1),ct:=Pv (i + 1),bk:=D.nx } σ2 H2) (hd:∀ σ H,Pv xs.length σ H->D.nx σ H) :
  ∃ W:Nat->Nat->St->Hp->Prop,(∃ m,W 0 m σ H)/\∀ i m σ H,W i m σ H->
   ((wg K a).stop i H/\D.nx σ H)\/((wg K a).go i H/\∃ N:St->Hp->Prop,(∀ σ' H',N σ' H'->∃ m',m' < m/\W (i + 1) m' σ' H')/\∀ x H',(wg K a).yld i H x H'->g x σ H' λσ2 H2=>tb { D with nx:=N,ct:=N,bk:=D.nx } σ2 H2):=by
 refine ⟨λi m σ H=>m=xs.length - i/\i<=xs.length/\Pv i σ H,⟨xs.length,by simp,Nat.zero_le _,h0⟩,?_⟩
 rintro i m σ H ⟨rfl,hi,p⟩
 have q:=hl i σ H hi p
 by_cases hlt:i < xs.length
 ·refine .inr ⟨⟨xs,xs[i],q,by simp [hlt]⟩,Pv (i + 1),λσ' H' p'=>⟨xs.length - (i + 1),by omega,rfl,hlt,p'⟩,λx H' y=>?_⟩
  obtain ⟨e,y⟩:=y
  subst e
  exact hs i x σ _ (y xs q) p
 ·have e:i=xs.length:=by omega
  subst e
  exact .inl ⟨⟨xs,q,Nat.le_refl _⟩,hd σ H p⟩
theorem uf {lo:Int} {n:Nat} {g:TG} {tb:TS} {D:yQ} {σ:St} {H:Hp} (Pv:Nat->St->Hp->Prop) (h0:Pv 0 σ H)
  (hs:∀ i σ H,i < n->Pv i σ H->g (.int (lo + i)) σ H λσ2 H2=>tb { D with nx:=Pv (i + 1),ct:=Pv (i + 1),bk:=D.nx } σ2 H2) (hd:∀ σ H,Pv n σ H->D.nx σ H) :
  ∃ W:Nat->Nat->St->Hp->Prop,(∃ m,W 0 m σ H)/\∀ i m σ H,W i m σ H->
   ((wB lo n).stop i H/\D.nx σ H)\/((wB lo n).go i H/\∃ N:St->Hp->Prop,(∀ σ' H',N σ' H'->∃ m',m' < m/\W (i + 1) m' σ' H')/\∀ x H',(wB lo n).yld i H x H'->g x σ H' λσ2 H2=>tb { D with nx:=N,ct:=N,bk:=D.nx } σ2 H2):=by
 refine ⟨λi m σ H=>m=n - i/\i<=n/\Pv i σ H,⟨n,by simp,Nat.zero_le _,h0⟩,?_⟩
 rintro i m σ H ⟨rfl,hi,p⟩
 by_cases hlt:i < n
 ·refine .inr ⟨hlt,Pv (i + 1),λσ' H' p'=>⟨n - (i + 1),by omega,rfl,hlt,p'⟩,λx H' y=>?_⟩
  obtain ⟨e,y⟩:=y
  subst e y
  exact hs i σ _ hlt p
 ·have e:i=n:=by omega
  subst e
  exact .inl ⟨Nat.le_refl _,hd σ H p⟩
theorem q5 {c:TT} {tb:TS} {D:yQ} {σ:St} {H:Hp} (Pv:St->Hp->Prop) (μ:St->Hp->Nat) (h0:Pv σ H)
  (hs:∀ σ H,Pv σ H->c σ H λb H1=>if b=true then tb { D with nx:=λσ' H'=>Pv σ' H'/\μ σ' H' < μ σ H,ct:=λσ' H'=>Pv σ' H'/\μ σ' H' < μ σ H,bk:=D.nx } σ H1 else D.nx σ H1)
  (mono:∀ σ H Q Q',(∀ b H1,Q b H1->Q' b H1)->c σ H Q->c σ H Q'):qy c tb D σ H:=by
 refine ⟨λm σ H=>m=μ σ H/\Pv σ H,⟨_,rfl,h0⟩,?_⟩
 rintro m σ H ⟨rfl,p⟩
 refine mono σ H _ _ (λb H1 q=>?_) (hs σ H p)
 cases b with
 | true=>exact ⟨_,λσ' H' ⟨p',l⟩=>⟨_,l,rfl,p'⟩,q⟩
 | false=>exact q
end L2
namespace L2
open PySem PySem.Spec PyProof.Rows
noncomputable abbrev R2:=V->V->Hp->VK->Prop
noncomputable def yF (X:Cx) (f:Value->Value->Sem Value) (r:R2):Prop:=
 ∀ (pins:List (Addr × Obj)) (s:Shared) (σ:St) (H:Hp) (x y:V) (v u:Value) (Q:VK),zB X pins σ H s->zI x v->zI y u->r x y H Q->
  wpAny (model X.prog X.w) X.A (f v u) (EP X pins σ Q) X.xe s
noncomputable def jn (X:Cx) (f:Value->Sem Value) (r:V->Hp->VK->Prop):Prop:=
 ∀ (pins:List (Addr × Obj)) (s:Shared) (σ:St) (H:Hp) (x:V) (v:Value) (Q:VK),zB X pins σ H s->zI x v->r x H Q->
  wpAny (model X.prog X.w) X.A (f v) (EP X pins σ Q) X.xe s
noncomputable def yw (X:Cx) (f:Value) (r:List V->Hp->VK->Prop):Prop:=
 ∀ (pins:List (Addr × Obj)) (s:Shared) (σ:St) (H:Hp) (xs:List V) (us:List Value) (Q:VK),zB X pins σ H s->zF xs us->r xs H Q->
  wpAny (model X.prog X.w) X.A (call f us) (EP X pins σ Q) X.xe s
noncomputable def ug (r:R2) (ta tb:TE):TE:=λσ H Q=>ta σ H λx H1=>tb σ H1 λy H2=>r x y H2 Q
noncomputable def ZI (r:V->Hp->VK->Prop) (ta:TE):TE:=λσ H Q=>ta σ H λx H1=>r x H1 Q
noncomputable def rI (C:Int->Int->Prop) (g:Int->Int->V):R2:=λx y H Q=>∃ i j,x=.int i/\y=.int j/\C i j/\Q (g i j) H
noncomputable def wC (g:Int->Int->V):R2:=λx y H Q=>∃ i j,x=.int i/\y=.int j/\Q (g i j) H
noncomputable def rU (g:Int->V):V->Hp->VK->Prop:=λx H Q=>∃ i,x=.int i/\Q (g i) H
section
variable {X:Cx} {a b c:Expr} {ta tb tc:TE} {pos:Pos}
theorem wD (ha:PE X a ta) (hb:PE X b tb) {pins:List (Addr × Obj)} {s:Shared} {σ:St} {H:Hp} {R:V->V->Hp->Prop} (I:zB X pins σ H s)
  (h:ta σ H λx H1=>tb σ H1 λy H2=>R x y H2) {Q:Value->Shared->Prop} {f:Value->Value->Sem Value}
  (hf:∀ v u s2 x y H2,zB X pins σ H2 s2->zI x v->zI y u->R x y H2->wpAny (model X.prog X.w) X.A (f v u) Q X.xe s2) :
  wpAny (model X.prog X.w) X.A (eval a X.env) (λv s₁=>wpAny (model X.prog X.w) X.A (eval b X.env) (λu s₂=>wpAny (model X.prog X.w) X.A (f v u) Q X.xe s₂) X.xe s₁) X.xe s:=by
 refine zS (ha pins s σ H _ I h) λv s1 ⟨x,H1,I1,r1,q1⟩=>?_
 refine zS (hb pins s1 σ H1 _ I1 q1) λu s2 ⟨y,H2,I2,r2,q2⟩=>?_
 exact hf v u s2 x y H2 I2 r1 r2 q2
theorem zQ {op:Operator} {r:R2} (ho:yF X (binaryOp op) r) (ha:PE X a ta) (hb:PE X b tb):PE X (.BinOp a op b pos) (ug r ta tb):=by
 intro pins s σ H Q I h
 exact wpAny_BinOp (wD ha hb I h λv u s2 x y H2 I2 rx ry q=>ho pins s2 σ H2 x y v u Q I2 rx ry q)
theorem vm {op:UnaryOp} {r:V->Hp->VK->Prop} (ho:jn X (unaryOp op) r) (ha:PE X a ta):PE X (.UnaryOp op a pos) (ZI r ta):=by
 intro pins s σ H Q I h
 exact UnaryOp_ (zS (ha pins s σ H _ I h) λv s1 ⟨x,H1,I1,r1,q1⟩=>ho pins s1 σ H1 x v Q I1 r1 q1)
theorem uh {f:Value->Value->Sem Value} {C:Int->Int->Prop} {g:Int->Int->Int}
  (rule:∀ (i j:Int) (t u:Tok) (s:Shared) (Q:Value->Shared->Prop) (E:Value->Shared->Prop),C i j->Q (.int (g i j) s.toks) { s with toks:=s.toks + 1 }->wpAny (model X.prog X.w) X.A (f (.int i t) (.int j u)) Q E s) :
  yF X f (rI C λi j=>.int (g i j)):=by
 intro pins s σ H x y v u Q I rx ry h
 obtain ⟨i,j,rfl,rfl,hc,q⟩:=h
 obtain ⟨t,rfl⟩:=rx
 obtain ⟨t',rfl⟩:=ry
 exact rule i j t t' s _ _ hc ⟨.int (g i j),H,I.tok _,⟨_,rfl⟩,q⟩
theorem vn {f:Value->Value->Sem Value} {g:Int->Int->Int}
  (rule:∀ (i j:Int) (t u:Tok) (s:Shared) (Q:Value->Shared->Prop) (E:Value->Shared->Prop),Q (.int (g i j) s.toks) { s with toks:=s.toks + 1 }->wpAny (model X.prog X.w) X.A (f (.int i t) (.int j u)) Q E s) :
  yF X f (wC λi j=>.int (g i j)):=by
 intro pins s σ H x y v u Q I rx ry h
 obtain ⟨i,j,rfl,rfl,q⟩:=h
 obtain ⟨t,rfl⟩:=rx
 obtain ⟨t',rfl⟩:=ry
 exact rule i j t t' s _ _ ⟨.int (g i j),H,I.tok _,⟨_,rfl⟩,q⟩
theorem wE {f:Value->Value->Sem Value} {g:Int->Int->Bool}
  (rule:∀ (i j:Int) (t u:Tok) (s:Shared) (Q:Value->Shared->Prop) (E:Value->Shared->Prop),Q (.bool (g i j)) s->wpAny (model X.prog X.w) X.A (f (.int i t) (.int j u)) Q E s) :
  yF X f (wC λi j=>.bl (g i j)):=by
 intro pins s σ H x y v u Q I rx ry h
 obtain ⟨i,j,rfl,rfl,q⟩:=h
 obtain ⟨t,rfl⟩:=rx
 obtain ⟨t',rfl⟩:=ry
 exact rule i j t t' s _ _ ⟨.bl (g i j),H,I,rfl,q⟩
noncomputable def jp (i j:Int):Prop:=0<=j/\j<=1000000/\i.natAbs < 2 ^ 64
noncomputable def vo (i j:Int):Prop:=(-(2 ^ 64) < i/\i < 2 ^ 64)\/(-(2 ^ 64) < j/\j < 2 ^ 64)
theorem vo.ok {i j:Int} (h:vo i j):IntMulOk i j:=by
 rcases h with ⟨h1,h2⟩ | ⟨h1,h2⟩
 ·exact .of_left (intBits_le_64 h1 h2)
 ·exact .of_right (intBits_le_64 h1 h2)
theorem yg:yF X (binaryOp .Add) (wC λi j=>.int (i + j)):=vn λ_ _ _ _ _ _ _ q=>add_int q
theorem q9:yF X (binaryOp .Sub) (wC λi j=>.int (i - j)):=vn λ_ _ _ _ _ _ _ q=>sub_int q
theorem yc:yF X (binaryOp .Mod) (rI (λ_ j=>j≠0) λi j=>.int (i.fmod j)):=uh λ_ _ _ _ _ _ _ hc q=>mod_int' hc q
theorem wF:yF X (binaryOp .Pow) (rI jp λi j=>.int (i ^ j.toNat)):=uh λ_ _ _ _ _ _ _ hc q=>pow_int_small hc.1 hc.2.1 hc.2.2 q
theorem ZJ {f:Value->Sem Value} {g:Int->Int}
  (rule:∀ (i:Int) (t:Tok) (s:Shared) (Q:Value->Shared->Prop) (E:Value->Shared->Prop),Q (.int (g i) s.toks) { s with toks:=s.toks + 1 }->wpAny (model X.prog X.w) X.A (f (.int i t)) Q E s) :
  jn X f (rU λi=>.int (g i)):=by
 intro pins s σ H x v Q I rx h
 obtain ⟨i,rfl,q⟩:=h
 obtain ⟨t,rfl⟩:=rx
 exact rule i t s _ _ ⟨.int (g i),H,I.tok _,⟨_,rfl⟩,q⟩
theorem ZK:jn X (unaryOp .USub) (rU λi=>.int (-i)):=ZJ λ_ _ _ _ _ q=>neg_int q
end
noncomputable def vp:V->V->Bool
 | .non,.non=>true | .non,.int _=>true | .int _,.non=>true | .non,.bl _=>true | .bl _,.non=>true | .non,.str _=>true | .str _,.non=>true
 | .int _,.int _=>true | .bl _,.bl _=>true | .str _,.str _=>true | .byt _,.byt _=>true
 | .int _,.str _=>true | .str _,.int _=>true | .bl _,.str _=>true | .str _,.bl _=>true
 | _,_=>false
noncomputable def ZL:R2:=λx y H Q=>vp x y=true/\Q (.bl (decide (x=y))) H
noncomputable def ZM:R2:=λx y H Q=>vp x y=true/\Q (.bl (!decide (x=y))) H
theorem gA {i j:Int}:decide (V.int i=V.int j)=(i == j):=by
 rw [Bool.eq_iff_iff]
 simp
theorem gB {i j:Bool}:decide (V.bl i=V.bl j)=(i == j):=by
 rw [Bool.eq_iff_iff]
 simp
theorem gC {i j:Str}:decide (V.str i=V.str j)=(i == j):=by
 rw [Bool.eq_iff_iff]
 simp
theorem gD {i j:Array UInt8}:decide (V.byt i=V.byt j)=(i.toList == j.toList):=by
 rw [Bool.eq_iff_iff]
 cases i
 cases j
 simp
section
variable {X:Cx} {a b c:Expr} {ta tb tc:TE} {pos:Pos}
theorem zu {pins:List (Addr × Obj)} {σ:St} {H:Hp} {s:Shared} {Q:VK} {k k':Bool} (I:zB X pins σ H s) (q:Q (.bl k) H) (e:k=k'):EP X pins σ Q (.bool k') s:=by
 subst e
 exact ⟨.bl k,H,I,rfl,q⟩
theorem yh:yF X (compareOp .Eq) ZL:=by
 intro pins s σ H x y v u Q I rx ry h
 obtain ⟨hs,q⟩:=h
 cases x with
 | non=>
  cases rx
  cases y with
  | non=>cases ry; exact PySem.EqNone.eq_none_none (zu I q (by simp))
  | bl j=>cases ry; exact PySem.EqNone.eq_none_bool (zu I q (by simp))
  | int j=>obtain ⟨t',rfl⟩:=ry; exact PySem.EqNone.eq_none_int (zu I q (by simp))
  | str j=>obtain ⟨t',rfl⟩:=ry; exact PySem.EqNone.eq_none_str (zu I q (by simp))
  | _=>exact absurd (show false=true from hs) Bool.false_ne_true
 | bl i=>
  cases rx
  cases y with
  | non=>cases ry; exact PySem.EqNone.eq_bool_none (zu I q (by simp))
  | bl j=>cases ry; exact eq_bool (zu I q gB)
  | str j=>obtain ⟨t',rfl⟩:=ry; exact PySem.EqMixed.eq_bool_str (zu I q (by simp))
  | _=>exact absurd (show false=true from hs) Bool.false_ne_true
 | int i=>
  obtain ⟨t,rfl⟩:=rx
  cases y with
  | non=>cases ry; exact PySem.EqNone.eq_int_none (zu I q (by simp))
  | int j=>obtain ⟨t',rfl⟩:=ry; exact eq_int (zu I q gA)
  | str j=>obtain ⟨t',rfl⟩:=ry; exact PySem.EqMixed.eq_int_str (zu I q (by simp))
  | _=>exact absurd (show false=true from hs) Bool.false_ne_true
 | str i=>
  obtain ⟨t,rfl⟩:=rx
  cases y with
  | non=>cases ry; exact PySem.EqNone.eq_str_none (zu I q (by simp))
  | bl j=>cases ry; exact PySem.EqMixed.eq_str_bool (zu I q (by simp))
  | int j=>obtain ⟨t',rfl⟩:=ry; exact PySem.EqMixed.eq_str_int (zu I q (by simp))
  | str j=>obtain ⟨t',rfl⟩:=ry; exact eq_str (zu I q gC)
  | _=>exact absurd (show false=true from hs) Bool.false_ne_true
 | byt i=>
  obtain ⟨t,rfl⟩:=rx
  cases y with
  | byt j=>obtain ⟨t',rfl⟩:=ry; exact PySem.W.eq_bytes (zu I q gD)
  | _=>exact absurd (show false=true from hs) Bool.false_ne_true
 | _=>cases y <;> exact absurd (show false=true from hs) Bool.false_ne_true
theorem xL:yF X (compareOp .NotEq) ZM:=by
 intro pins s σ H x y v u Q I rx ry h
 obtain ⟨hs,q⟩:=h
 cases x with
 | non=>
  cases rx
  cases y with
  | non=>cases ry; exact PySem.EqNone.ne_none_none (zu I q (by simp))
  | bl j=>cases ry; exact PySem.EqNone.ne_none_bool (zu I q (by simp))
  | int j=>obtain ⟨t',rfl⟩:=ry; exact PySem.EqNone.ne_none_int (zu I q (by simp))
  | str j=>obtain ⟨t',rfl⟩:=ry; exact PySem.EqNone.ne_none_str (zu I q (by simp))
  | _=>exact absurd (show false=true from hs) Bool.false_ne_true
 | bl i=>
  cases rx
  cases y with
  | non=>cases ry; exact PySem.EqNone.ne_bool_none (zu I q (by simp))
  | bl j=>cases ry; exact ne_bool (zu I q (congrArg not gB))
  | str j=>obtain ⟨t',rfl⟩:=ry; exact PySem.EqMixed.ne_bool_str (zu I q (by simp))
  | _=>exact absurd (show false=true from hs) Bool.false_ne_true
 | int i=>
  obtain ⟨t,rfl⟩:=rx
  cases y with
  | non=>cases ry; exact PySem.EqNone.ne_int_none (zu I q (by simp))
  | int j=>obtain ⟨t',rfl⟩:=ry; exact ne_int (zu I q (congrArg not gA))
  | str j=>obtain ⟨t',rfl⟩:=ry; exact PySem.EqMixed.ne_int_str (zu I q (by simp))
  | _=>exact absurd (show false=true from hs) Bool.false_ne_true
 | str i=>
  obtain ⟨t,rfl⟩:=rx
  cases y with
  | non=>cases ry; exact PySem.EqNone.ne_str_none (zu I q (by simp))
  | bl j=>cases ry; exact PySem.EqMixed.ne_str_bool (zu I q (by simp))
  | int j=>obtain ⟨t',rfl⟩:=ry; exact PySem.EqMixed.ne_str_int (zu I q (by simp))
  | str j=>obtain ⟨t',rfl⟩:=ry; exact ne_str (zu I q (congrArg not gC))
  | _=>exact absurd (show false=true from hs) Bool.false_ne_true
 | byt i=>
  obtain ⟨t,rfl⟩:=rx
  cases y with
  | byt j=>obtain ⟨t',rfl⟩:=ry; exact PySem.W.ne_bytes (zu I q (congrArg not gD))
  | _=>exact absurd (show false=true from hs) Bool.false_ne_true
 | _=>cases y <;> exact absurd (show false=true from hs) Bool.false_ne_true
theorem jq:yF X (compareOp .Lt) (wC λi j=>.bl (decide (i < j))):=wE λ_ _ _ _ _ _ _ q=>lt_int q
theorem vq:yF X (compareOp .Gt) (wC λi j=>.bl (decide (j < i))):=wE λ_ _ _ _ _ _ _ q=>gt_int q
theorem jr:yF X (compareOp .GtE) (wC λi j=>.bl (decide (j<=i))):=wE λ_ _ _ _ _ _ _ q=>ge_int q
theorem ZN:yF X (compareOp .In) (λx y H Q=>∃ i j,x=.str i/\y=.str j/\Q (.bl (!(Builtin.Str.occurrences j i 0 j.length 1).isEmpty)) H):=by
 intro pins s σ H x y v u Q I rx ry h
 obtain ⟨i,j,rfl,rfl,q⟩:=h
 obtain ⟨t,rfl⟩:=rx
 obtain ⟨t',rfl⟩:=ry
 exact in_str (zu I q rfl)
theorem zc (b:Expr) {op:CmpOp} (h:op≠.In:=by decide) (h2:op≠.NotIn:=by decide):behindInMarks op b=false:=by
 have e1:(op == CmpOp.In)=false:=by cases op <;> first | rfl | exact absurd rfl h
 have e2:(op == CmpOp.NotIn)=false:=by cases op <;> first | rfl | exact absurd rfl h2
 cases b <;> simp [behindInMarks,e1,e2]
theorem xo {op:CmpOp} {r:R2} (ho:yF X (compareOp op) r) (ha:PE X a ta) (hb:PE X b tb) (hm:behindInMarks op b=false):PE X (.Compare a [op] [b] pos) (ug r ta tb):=by
 intro pins s σ H Q I h
 exact wpAny_Compare1 (wD ha hb I h λv u s2 x y H2 I2 rx ry q=>ho pins s2 σ H2 x y v u Q I2 rx ry q) hm
noncomputable def vt (t:TE):TT:=λσ H Q=>t σ H λx H'=>∃ k,x=.bl k/\Q k H'
theorem zn {op:CmpOp} {r:R2} (ho:yF X (compareOp op) r) (ha:PE X a ta) (hb:PE X b tb) (hm:behindInMarks op b=false):PT X (.Compare a [op] [b] pos) (vt (ug r ta tb)):=by
 intro pins s σ H Q I h
 refine wpAny_isTrue_Compare1 (zS (ha pins s σ H _ I h) λv s1 ⟨x,H1,I1,r1,q1⟩=>zS (hb pins s1 σ H1 _ I1 q1) λu s2 ⟨y,H2,I2,r2,q2⟩=>
  zS (ho pins s2 σ H2 x y v u _ I2 r1 r2 q2) λc s3 ⟨z,H3,I3,r3,k,e,q3⟩=>?_) hm
 subst e
 cases r3
 exact wpAny_truthy_bool ⟨H3,I3,q3⟩
theorem ui:(sizeLine:Nat) < 2 ^ 63:=by rw [sizeLine_eq]; decide
theorem xS {x:V} {us:List Value} (r:zF [x] us):∃ u,us=[u]/\zI x u:=by
 cases r with
 | cons r1 r2=>cases r2; exact ⟨_,rfl,r1⟩
theorem gE {x y:V} {us:List Value} (r:zF [x,y] us):∃ u w',us=[u,w']/\zI x u/\zI y w':=by
 cases r with
 | cons r1 r2=>
  cases r2 with
  | cons r3 r4=>cases r4; exact ⟨_,_,rfl,r1,r3⟩
theorem uj:yw X (.builtin "abs") (λxs H Q=>∃ i,xs=[.int i]/\Q (.int (if i < 0 then -i else i)) H):=by
 intro pins s σ H xs us Q I r h
 obtain ⟨i,rfl,q⟩:=h
 obtain ⟨u,rfl,t,rfl⟩:=xS r
 exact call_abs_int λu tk=>⟨.int (if i < 0 then -i else i),H,I.tok _,⟨_,rfl⟩,q⟩
theorem ZO (hc:X.calm=true):yw X (.builtin "max") (λxs H Q=>∃ i j,xs=[.int i,.int j]/\Q (.int (if j > i then j else i)) H):=by
 intro pins s σ H xs us Q I r h
 obtain ⟨i,j,rfl,q⟩:=h
 obtain ⟨u,w',rfl,⟨t,rfl⟩,⟨t',rfl⟩⟩:=gE r
 refine max_two_ints (I.ok.hd hc) λh' tk k=>⟨_,H,I.kept k,?_,q⟩
 by_cases hj:j > i
 ·rw [if_pos hj,if_pos hj]; exact ⟨_,rfl⟩
 ·rw [if_neg hj,if_neg hj]; exact ⟨_,rfl⟩
end
end L2
namespace L2
open PySem PySem.Spec PyProof.Rows
structure wG (h:Heap) (x dx C:Addr) (mA:Str->Option Value):Prop where
 obj:h.get? x=some (PySem.W.instObj C dx)
 ns:h.Ns1 dx mA
 ne:dx≠x
theorem ZP {h:Heap} {dx:Addr} {mA:Str->Option Value} (n:h.Ns1 dx mA):∃ od,h.get? dx=some od/\∀ name,PySem.W.lookIn name od=some (mA name):=by
 obtain ⟨o,es,ep,ho,hd,hk,_,hm⟩:=n
 refine ⟨o,ho,λname=>?_⟩
 have e:=hm name
 unfold nsFind findBy at e
 rw [<- Array.find?_toList] at e
 unfold PySem.W.lookIn
 rw [hd]
 dsimp only
 split
 ·rename_i y q
  rw [q] at e
  exact congrArg some e
 ·rename_i q
  rw [q] at e
  have a:es.toList.any (·.refKey)=false:=by
   rw [List.any_eq_false]
   intro y hy
   obtain ⟨z,t,hkey⟩:=hk y (Array.mem_toList_iff.mp hy)
   simp [DictEntry.refKey,hkey]
  have a':¬ es.toList.any (·.refKey)=true:=by rw [a]; exact Bool.false_ne_true
  rw [if_neg a']
  exact congrArg some e
theorem wG.look {h:Heap} {x dx C:Addr} {mA:Str->Option Value} (I:wG h x dx C mA):∃ od,PySem.W.InstAt h x (PySem.W.instObj C dx) C (some od)/\∀ name,PySem.W.lookIn name od=some (mA name):=
 let ⟨od,ho,hl⟩:=ZP I.ns
 ⟨od,⟨I.obj,rfl,rfl,ho⟩,hl⟩
section
variable {prog:Program} {w:World} {A:Around} {E:Value->Shared->Prop} {s:Shared} {K:PySem.W.Frag} {x dx C f:Addr} {mA:Str->Option Value} {name:Str} {v:Value}
end
section
variable {P:Program} {w:World} {H H':Hp} {h h':Heap} {a C dx:Addr} {fs fs':List (Str × V)}
theorem ZQ (hok:yD P w H h) (e:H a=some (.ins C dx fs)):∃ mA,wG h a dx C mA/\(∀ f,ye (fs.lookup f) (mA f))/\PySem.Within mA (fs.map (·.1))/\fs.length<=1000/\H dx=some (.own a):=by
 obtain ⟨d,z,ne,ob,mA,n,r,q⟩:=(show yL P w H h a (.ins C dx fs) from hok a _ e)
 exact ⟨mA,⟨ob,n,ne⟩,r,q,z,d⟩
end
structure uk (K:PySem.W.Frag) (C:Addr):Prop where
 pg:PySem.W.plainGet K C Str.empty=true
 hd:PySem.W.hasDictIn K C=true
 po:PySem.W.plainOver K C=true
 sa:PySem.W.findIn K (.ref C) "__setattr__" = some (some (.builtin "object.__setattr__"))
theorem uk.get {K:PySem.W.Frag} {C:Addr} (c:uk K C) (f:Str):PySem.W.plainGet K C f=true:=c.pg
structure js (K:PySem.W.Frag) (C:Addr) (m:Str) (f:Addr):Prop where
 at_:PySem.W.findIn K (.ref C) m=some (some (.ref f))
 fn:PySem.W.isFn K (.ref f)=true
 kp:PySem.W.keepIn K (.ref f)=true
section
variable {X:Cx} {pins:List (Addr × Obj)} {σ:St} {H:Hp} {s:Shared} {a C dx:Addr} {fs:List (Str × V)} {f:Str} {v:V} {A:Around} {E:Value->Shared->Prop}
end
section
variable {X:Cx} {o e value:Expr} {f:Str} {pos pos' tpos:Pos} {ta tv:TE}
end
section
variable {X:Cx} {pins:List (Addr × Obj)} {σ:St} {H:Hp} {s:Shared} {A:Around} {E:Value->Shared->Prop} {Q:Value->Shared->Prop} {c:Value} {b:Bool}
inductive zv (K:PySem.W.Frag) (H:Hp):V->Value->Prop where
 | non:zv K H .non (.type "NoneType")
 | bl (x:Bool):zv K H (.bl x) (.type "bool")
 | int (i:Int):zv K H (.int i) (.type "int")
 | str (x:Str):zv K H (.str x) (.type "str")
 | flt (x:UInt64):zv K H (.flt x) (.type "float")
 | lst {a:Addr} {xs:List V} (e:H a=some (.lst xs)):zv K H (.ref a) (.type "list")
 | frz {a:Addr} {o:Obj} {xs:List V} (e:H a=some (.frz o (.lst xs))):zv K H (.ref a) (.type "list")
 | tup {a:Addr} {xs:List V} (e:H a=some (.tup xs)):zv K H (.ref a) (.type "tuple")
 | dK {a:Addr} {kvs:List (zj × V)} (e:H a=some (.dK kvs)):zv K H (.ref a) (.type "dict")
 | dT {a:Addr} {kvs:List (List zj × V)} (e:H a=some (.dT kvs)):zv K H (.ref a) (.type "dict")
 | ins {a C dx:Addr} {fs:List (Str × V)} (e:H a=some (.ins C dx fs)) (cl:uk K C) (ha:PySem.W.findIn K (.ref C) "__class__" = some (some (.builtin "object.__class__")))
   (hn:PySem.W.specialIn K (.builtin "object.__class__") "__get__" = some (some (.builtin "getset_descriptor.__get__"))) (htk:PySem.W.takesIn K (.builtin "object.__class__")=some true)
   (hm:PySem.W.mroIn K C (.type "object")=some true):zv K H (.ref a) (.ref C)
theorem ZR {x:V} {u t:Value} (I:zB X pins σ H s) (rx:zI x u) (ty:zv X.K H x t) (e:PySem.W.kitOne X.K t c=some b) (h:∀ tk,Q (.bool b) { s with toks:=tk }) :
  wpAny (model X.prog X.w) A (call (.builtin "isinstance") [u,c]) Q E s:=by
 cases ty with
 | non=>cases (show u=Value.none from rx); exact PySem.W.kia_one PySem.W.kitx_none I.kIn True.intro e (λz=>nomatch z) h
 | bl y=>cases (show u=Value.bool y from rx); exact PySem.W.kia_one PySem.W.kitx_bool I.kIn True.intro e (λz=>nomatch z) h
 | int i=>obtain ⟨t,q⟩:=(show ∃ t,u=Value.int i t from rx); cases q; exact PySem.W.kia_one PySem.W.kitx_int I.kIn True.intro e (λz=>nomatch z) h
 | str y=>obtain ⟨t,q⟩:=(show ∃ t,u=Value.str y t from rx); cases q; exact PySem.W.kia_one PySem.W.kitx_str I.kIn True.intro e (λz=>nomatch z) h
 | flt y=>obtain ⟨t,q⟩:=(show ∃ t,u=Value.float y t from rx); cases q; exact PySem.W.kia_one PySem.W.kitx_float I.kIn True.intro e (λz=>nomatch z) h
 | @lst a xs ea=>
  cases (show u=Value.ref a from rx)
  obtain ⟨_,_,n,_,h1⟩:=(show yL X.prog X.w H s.heap a (.lst xs) from I.hok a _ ea)
  exact PySem.W.kia_one PySem.W.kitx_list I.kIn ⟨_,h1,rfl⟩ e (λz=>nomatch z) h
 | @frz a ob xs ea=>
  cases (show u=Value.ref a from rx)
  obtain ⟨_,_,_,n,_,h1⟩:=(show yL X.prog X.w H s.heap a (.frz ob (.lst xs)) from I.hok a _ ea)
  exact PySem.W.kia_one PySem.W.kitx_list I.kIn ⟨_,h1,rfl⟩ e (λz=>nomatch z) h
 | @tup a xs ea=>
  cases (show u=Value.ref a from rx)
  obtain ⟨_,_,_,p⟩:=(show yL X.prog X.w H s.heap a (.tup xs) from I.hok a _ ea)
  obtain ⟨o,h1,h2,_⟩:=p
  exact PySem.W.kia_one PySem.W.kitx_tuple I.kIn ⟨o,h1,h2⟩ e (λz=>nomatch z) h
 | @dK a kvs ea=>
  cases (show u=Value.ref a from rx)
  obtain ⟨_,_,vs,_,p⟩:=(show yL X.prog X.w H s.heap a (.dK kvs) from I.hok a _ ea)
  obtain ⟨o,es,ep,h1,h2,_⟩:=p
  exact PySem.W.kia_one PySem.W.kitx_dict I.kIn ⟨o,h1,h2.1⟩ e (λz=>nomatch z) h
 | @dT a kvs ea=>
  cases (show u=Value.ref a from rx)
  obtain ⟨_,_,xs,_,o,es,ep,h1,h2,_⟩:=(show yL X.prog X.w H s.heap a (.dT kvs) from I.hok a _ ea)
  exact PySem.W.kia_one PySem.W.kitx_dict I.kIn ⟨o,h1,h2.1⟩ e (λz=>nomatch z) h
 | @ins a C dx fs ea cl ha hn htk hm=>
  cases (show u=Value.ref a from rx)
  obtain ⟨mA,O,_⟩:=ZQ I.hok ea
  obtain ⟨od,J,_⟩:=O.look
  exact PySem.W.kia_one (PySem.W.kitx_own (cl.get _) cl.hd ha hn htk hm) I.kIn J e (λz=>nomatch z) h
end
end L2
namespace L2
open PySem PySem.Spec PyProof.Rows
structure zY (k:Nat) (A:Around):Prop where
 hd:A.handled=none
 dp:A.depth + 3 * k + 5 < recursionLimit
 un:A.units + 16 * k + 200 < cLine
theorem zY.mono {j k:Nat} {A:Around} (r:zY k A) (h:j<=k):zY j A:=⟨r.hd,by have:=r.dp; omega,by have:=r.un; omega⟩
theorem zY.deeper {k:Nat} {A:Around} (r:zY (k + 1) A) (env:Env):zY k (A.deeper env):=
 ⟨r.hd,by have:=r.dp; show A.depth + 1 + 3 * k + 5 < _; omega,by have:=r.un; show A.units + 3 + 16 * k + 200 < _; omega⟩
theorem zY.in1 {k:Nat} {A:Around} (r:zY (k + 1) A):zY k A.in1:=
 ⟨r.hd,by have:=r.dp; show A.depth + 3 * k + 5 < _; omega,by have:=r.un; show A.units + 1 + 16 * k + 200 < _; omega⟩
theorem zY.depth {k:Nat} {A:Around} (r:zY k A):A.depth < recursionLimit:=by have:=r.dp; omega
theorem zY.units {k:Nat} {A:Around} (r:zY k A):A.units + 64 < cLine:=by have:=r.un; omega
noncomputable def jt:TA:=λ_ H Q=>Q [] H
noncomputable def vv (ta:TE) (tr:TA):TA:=λσ H Q=>ta σ H λx H1=>tr σ H1 λxs H2=>Q (x :: xs) H2
section
variable {X:Cx} {e:Expr} {es:List Expr} {te:TE} {t:TA} {pos:Pos}
theorem zD:PA X [] jt:=λ_ _ _ _ H Q I h=>Calls.spliced_nil ⟨[],H,I,.nil,h⟩
theorem zA (ha:PE X e te) (hr:PA X es t) (hs:starEach (e :: es) X.env=(false,eval e X.env) :: starEach es X.env:=by rfl):PA X (e :: es) (vv te t):=by
 intro pos pins s σ H Q I h
 rw [hs]
 show wpAny _ _ (spliced ((false,eval e X.env) :: backTo pos (starEach es X.env))) _ _ s
 refine Calls.spliced_cons (zS (ha pins s σ H _ I h) λu s1 ⟨x,H1,I1,r1,q1⟩=>?_)
 exact zS (hr pos pins s1 σ H1 _ I1 q1) λus s2 ⟨xs,H2,I2,r2,q2⟩=>⟨x :: xs,H2,I2,.cons r1 r2,q2⟩
noncomputable def ju (t:TA):TE:=λσ H Q=>t σ H λxs H1=>xs.length<=sizeLine/\∀ p,H1 p=none->Q (.ref p) (upd H1 p (.tup xs))
noncomputable def jv (t:TA):TE:=λσ H Q=>t σ H λxs H1=>xs.length<=sizeLine/\∀ p,H1 p=none->Q (.ref p) (upd H1 p (.lst xs))
theorem wH {x1} (h:PA X es t):PE X (.Tuple es x1 pos) (ju t):=by
 intro pins s σ H Q I hq
 refine wpAny_Tuple_spliced (zS (h pos pins s σ H _ I hq) λus s1 ⟨xs,H1,I1,r,z,q⟩=>⟨by rw [<- r.length]; exact z,?_⟩)
 have hf:H1 s1.heap.objs.size=none:=I1.hok.fresh (Nat.le_refl _)
 refine ⟨.ref s1.heap.objs.size,upd H1 s1.heap.objs.size (.tup xs),I1.laid (t':=s1.toks) (λb u e=>Heap.get?_push_of_some _ e) (Nat.le_refl _) ?_,rfl,q _ hf⟩
 exact ⟨z,us,r,⟨_,Heap.get?_push_size _ rfl,rfl,_,rfl⟩⟩
theorem y9 (h:PA X es t):PE X (.List es pos) (jv t):=by
 intro pins s σ H Q I hq
 refine wpAny_List_spliced (zS (h pos pins s σ H _ I hq) λus s1 ⟨xs,H1,I1,r,z,q⟩=>⟨by rw [<- r.length]; exact z,?_⟩)
 have hf:H1 s1.heap.objs.size=none:=I1.hok.fresh (Nat.le_refl _)
 refine ⟨.ref s1.heap.objs.size,upd H1 s1.heap.objs.size (.lst xs),I1.laid (t':=s1.toks) (λb u e=>Heap.get?_push_of_some _ e) (Nat.le_refl _) ?_,rfl,q _ hf⟩
 exact ⟨z,us,0,r,Heap.get?_push_size _ rfl⟩
end
noncomputable abbrev Sp:=List V->Hp->VK->XK->Prop
noncomputable abbrev yi:=List Env->Hp->Shared->XK->Value->Shared->Prop
structure yj (P:Program) (w:World) (K:PySem.W.Frag) (mg:Str->Option Value) (base:Heap) (A:Around) (outer:List Env) (s:Shared) (H:Hp):Prop where
 frames:A.frames=some outer
 mod:Mod K mg base
 bs:∀ b o,base.get? b=some o->s.heap.get? b=some o/\H b=none
 bsz:base.objs.size<=s.heap.objs.size
 funs:s.heap.FunFrames base outer
 frf:∀ b∈y8 outer,H b=none
 hok:yD P w H s.heap
 bare:AllBare s.gens
noncomputable def CE (outer:List Env) (P:Program) (w:World) (H:Hp) (s:Shared) (Q:VK) (u:Value) (s':Shared):Prop:=
 ∃ v H',s'.os=s.os/\AllBare s'.gens/\Un (y8 outer) [] H H' s.heap s'.heap/\yD P w H' s'.heap/\zI v u/\Q v H'
noncomputable def CR (CX:yi) (outer:List Env) (P:Program) (w:World) (H:Hp) (s:Shared) (Q:VK) (E:XK) (r:Result) (s':Shared):Prop:=
 match r with
 | .ok (.ret u)=>CE outer P w H s Q u s'
 | .ok _=>False
 | .error e=>CX outer H s E e s'
structure zG (P:Program) (w:World) (K:PySem.W.Frag) (mg:Str->Option Value) (base:Heap) (CX:yi) (k:Nat) (f:Addr) (fd:FuncData) (ps:List Str) (sp:Sp):Prop where
 len:∀ vs H Q E,sp vs H Q E->vs.length=ps.length
 run:∀ (A:Around) (outer:List Env) (s:Shared) (H:Hp) (args:Args) (us:List Value) (vs:List V) (Q:VK) (E:XK),zY k A->yj P w K mg base A outer s H->BindsTo s fd args (ps.zip us)->zF vs us->sp vs H Q E->
  codeAny (model P w) A (.call (.ref f) args) (CR CX outer P w H s Q E) s
theorem zG.mono {P:Program} {w:World} {K:PySem.W.Frag} {mg:Str->Option Value} {base:Heap} {CX:yi} {j k:Nat} {f:Addr} {fd:FuncData} {ps:List Str} {sp:Sp} (F:zG P w K mg base CX j f fd ps sp) (h:j<=k) :
  zG P w K mg base CX k f fd ps sp:=⟨F.len,λA outer s H args us vs Q E hr=>F.run A outer s H args us vs Q E (hr.mono h)⟩
theorem zG.imp {P:Program} {w:World} {K:PySem.W.Frag} {mg:Str->Option Value} {base:Heap} {CX:yi} {k:Nat} {f:Addr} {fd:FuncData} {ps:List Str} {sp sp':Sp} (F:zG P w K mg base CX k f fd ps sp)
  (h:∀ vs H Q E,sp' vs H Q E->sp vs H Q E):zG P w K mg base CX k f fd ps sp':=
 ⟨λvs H Q E q=>F.len vs H Q E (h _ _ _ _ q),λA outer s H args us vs Q E hr he hb hv hs=>F.run A outer s H args us vs Q E hr he hb hv (h _ _ _ _ hs)⟩
theorem yj.in1 {P:Program} {w:World} {K:PySem.W.Frag} {mg:Str->Option Value} {base:Heap} {A:Around} {outer:List Env} {s:Shared} {H:Hp} (e:yj P w K mg base A outer s H) :
  yj P w K mg base A.in1 outer s H:=⟨e.frames,e.mod,e.bs,e.bsz,e.funs,e.frf,e.hok,e.bare⟩
section
variable {X:Cx} {pins:List (Addr × Obj)} {σ:St} {H:Hp} {s s':Shared}
theorem zB.env0 (I:zB X pins σ H s):yj X.prog X.w X.K X.mg X.base X.A X.stack s H:=
 ⟨I.ok.frames,I.ok.mod,I.bs,Nat.le_trans I.ok.bsz I.sz,I.stack,I.stkFree,I.hok,I.bare⟩
theorem zB.after {Q:VK} {u:Value} (I:zB X pins σ H s) (h:CE X.stack X.prog X.w H s Q u s'):EP X pins σ Q u s':=by
 obtain ⟨v,H',os,bare,un,hok,r,q⟩:=h
 obtain ⟨hh,g,d,t,os'⟩:=s'
 obtain rfl:os'=s.os:=os
 exact ⟨v,H',I.call (h':=hh) (g':=g) (d':=d) (t':=t) (ch:=[]) un hok bare (λb z=>absurd z (by simp)),r,q⟩
end
noncomputable def jw (sp:Sp) (dvs:List V) (E:XK) (t:TA):TE:=λσ H Q=>t σ H λvs H1=>sp (vs++dvs) H1 Q E
noncomputable def yx (K:PySem.W.Frag) (fd:FuncData) (ps:List Str) (ds:List Value):Prop:=
 ∀ (s:Shared) (us:List Value),K.In s.heap->(us++ds).length=ps.length->BindsTo s fd ⟨us,[]⟩ (ps.zip (us++ds))
theorem yx.all {K:PySem.W.Frag} {fd:FuncData} {ps:List Str} (h:∀ us:List Value,us.length=ps.length->bindArgs fd ⟨us,[]⟩=pure (ps.zip us)):yx K fd ps []:=λs us _ hl=>by
 rw [List.append_nil] at hl |-
 exact .of_eq (h us hl)
noncomputable def jx (CX:yi) (X:Cx) (E:XK):Prop:=∀ (pins:List (Addr × Obj)) (σ:St) (H:Hp) (s:Shared) (e:Value) (s':Shared),zB X pins σ H s->CX X.stack H s E e s'->X.xe e s'
section
variable {X:Cx} {CX:yi} {k:Nat} {f C:Addr} {fd:FuncData} {ps:List Str} {sp:Sp} {dvs:List V} {ds:List Value} {E:XK} {x m:Str} {p pos apos:Pos} {e o:Expr} {es:List Expr} {ta:TE} {t:TA}
theorem ZS {pins:List (Addr × Obj)} {σ:St} {H:Hp} {s:Shared} {Q:VK} {us:List Value} {vs:List V} (F:zG X.prog X.w X.K X.mg X.base CX k f fd ps sp) (hr:zY k X.A) (hb:yx X.K fd ps ds) (hd:zF dvs ds) (hx:jx CX X E)
  (I:zB X pins σ H s) (r:zF vs us) (h:sp (vs++dvs) H Q E):wpAny (model X.prog X.w) X.A (call (.ref f) us) (EP X pins σ Q) X.xe s:=by
 have r2:zF (vs++dvs) (us++ds):=r.append hd
 have hl:(us++ds).length=ps.length:=by rw [<- r2.length]; exact F.len _ _ _ _ h
 refine wpAny_call (codeAny_mono (F.run X.A X.stack s H ⟨us,[]⟩ (us++ds) (vs++dvs) Q E hr I.env0 (hb s us I.kIn hl) r2 h) λr s' hq=>?_)
 cases r with
 | error e=>exact hx pins σ H s e s' I hq
 | ok fl=>
  cases fl with
  | ret u=>exact I.after hq
  | next=>exact False.elim hq
  | brk=>exact False.elim hq
  | cont=>exact False.elim hq
theorem gF (F:zG X.prog X.w X.K X.mg X.base CX k f fd ps sp) (hr:zY k X.A) (hg:Gl X x) (hm:X.mg x=some (.ref f)) (hk:PySem.W.keepIn X.K (.ref f)=true) (hb:yx X.K fd ps ds) (hd:zF dvs ds) (hx:jx CX X E)
  (ha:PA X (e :: es) t) (hdb:(x == ("__debug__" : Str))=false:=by decide) (he:starEach (e :: es) X.env=(false,eval e X.env) :: starEach es X.env:=by rfl) (hpl:(backTo pos (starEach es X.env)).any (·.1)=false:=by rfl) :
  PE X (.Call (.Name x p) (e :: es) [] pos) (jw sp dvs E t):=by
 intro pins s σ H Q I h
 refine wpAny_Call_Name_kw (qw I hg hm ?_ hdb)
 refine PySem.W.callWith_K (h₀:=X.base) I.ok.mod.kin hk (zS (ha pos pins s σ H _ I h) λus s1 ⟨vs,H1,I1,r,q⟩=>⟨I1.kIn,?_⟩) he hpl
 exact ZS F hr hb hd hx I1 r q
structure Mk (K:PySem.W.Frag) (C f:Addr):Prop where
 makes:PySem.W.makesIn K C=true
 init:PySem.W.findIn K (.ref C) "__init__" = some (some (.ref f))
 fn:PySem.W.isFn K (.ref f)=true
 kp:PySem.W.keepIn K (.ref C)=true
end
section
variable {X:Cx} {CX:yi} {k:Nat} {f C:Addr} {fd:FuncData} {ps ks:List Str} {sp:Sp} {E:XK} {x m:Str} {p pos apos kpos:Pos} {e o:Expr} {es:List Expr} {kws:List Keyword} {te ta:TE} {t tk:TA} {nm:Option Str}
variable {g:List Value->List Value->List Value} {gV:List V->List V->List V}
end
structure ze (N P:List Str) (sc:Scope):Prop where
 kind:sc.kind=.function
 co:sc.isCoroutine=false
 gen:sc.isGenerator=false
 nd:N.Nodup
 pre:N.take P.length=P
 par:∀ x∈P,sc.names.lookup x=some .local\/sc.names.lookup x=some .cell
 nofree:∀ y∈sc.names,y.2≠.free
theorem ze.a {N P:List Str} {s:Scope} (a:s.kind=.function:=by rfl) (b:s.isCoroutine=false:=by rfl) (c:s.isGenerator=false:=by rfl) (d:N.Nodup:=by decide +kernel) (e:N.take P.length=P:=by rfl) (f:∀ x∈P,s.names.lookup x=some .local\/s.names.lookup x=some .cell:=by decide +kernel) (g:∀ y∈s.names,y.2≠.free:=by decide +kernel):ze N P s:=⟨a,b,c,d,e,f,g⟩
theorem gG {kindOf:Str->Option NameKind} {x:Str}:∀ {binds:List (Str × Value)} {m:Str->Option Value},(∀ v,(x,v)∉binds)->bindL kindOf binds m x=m x
 | [],_,_=>rfl
 | (n,v) :: r,m,h=>by
  unfold bindL
  rw [gG λw hw=>h w (List.mem_cons_of_mem _ hw)]
  split
  ·have:x≠n:=by rintro rfl; exact h v List.mem_cons_self
   simp [this]
  ·rfl
theorem gH {kindOf:Str->Option NameKind} {x:Str}:∀ {binds:List (Str × Value)} {m:Str->Option Value},(∀ v,(x,v)∉binds)->bindC kindOf binds m x=m x
 | [],_,_=>rfl
 | (n,v) :: r,m,h=>by
  unfold bindC
  rw [gH λw hw=>h w (List.mem_cons_of_mem _ hw)]
  split
  ·rfl
  ·have:x≠n:=by rintro rfl; exact h v List.mem_cons_self
   simp [this]
theorem gI {kindOf:Str->Option NameKind} {x:Str} {v:Value}:∀ {P:List Str} {vs:List Value} {i:Nat} {m:Str->Option Value},P.Nodup->P[i]? = some x->vs[i]? = some v->kindOf x=some .local->
  bindL kindOf (P.zip vs) m x=some v
 | [],_,_,_,_,h,_,_=>by simp at h
 | _ :: _,[],_,_,_,_,h,_=>by simp at h
 | p :: P,w :: vs,0,m,nd,h1,h2,hk=>by
  simp at h1 h2; subst h1; subst h2
  show bindL kindOf ((p,w) :: P.zip vs) m p=_
  unfold bindL
  rw [gG λv hv=>(List.nodup_cons.mp nd).1 (List.of_mem_zip hv).1,if_pos hk]
  simp
 | p :: P,w :: vs,i + 1,m,nd,h1,h2,hk=>by
  show bindL kindOf ((p,w) :: P.zip vs) m x=_
  unfold bindL
  exact gI (i:=i) (List.nodup_cons.mp nd).2 (by simpa using h1) (by simpa using h2) hk
theorem gJ {kindOf:Str->Option NameKind} {x:Str} {v:Value}:∀ {P:List Str} {vs:List Value} {i:Nat} {m:Str->Option Value},P.Nodup->P[i]? = some x->vs[i]? = some v->kindOf x≠some .local->
  bindC kindOf (P.zip vs) m x=some v
 | [],_,_,_,_,h,_,_=>by simp at h
 | _ :: _,[],_,_,_,_,h,_=>by simp at h
 | p :: P,w :: vs,0,m,nd,h1,h2,hk=>by
  simp at h1 h2; subst h1; subst h2
  show bindC kindOf ((p,w) :: P.zip vs) m p=_
  unfold bindC
  rw [gH λv hv=>(List.nodup_cons.mp nd).1 (List.of_mem_zip hv).1,if_neg hk]
  simp
 | p :: P,w :: vs,i + 1,m,nd,h1,h2,hk=>by
  show bindC kindOf ((p,w) :: P.zip vs) m x=_
  unfold bindC
  exact gJ (i:=i) (List.nodup_cons.mp nd).2 (by simpa using h1) (by simpa using h2) hk
noncomputable def xT (N:List Str) (vs:List V):St:=vs.map some++List.replicate (N.length - vs.length) none
noncomputable def zJ (CX:yi) (P:Program) (w:World) (K:PySem.W.Frag) (mg:Str->Option Value) (base:Heap) (N:List Str) (qual:Str) (scope:Scope) (f:Addr) (cd:Value) (A:Around) (outer:List Env) (s:Shared) (H:Hp) (E:XK):Cx where
 prog:=P
 w:=w
 K:=K
 mg:=mg
 base:=base
 A:=A.deeper (envOfC qual scope s.heap.objs.size f cd)
 N:=N
 s₀:=s
 H₀:=H
 env:=envOfC qual scope s.heap.objs.size f cd
 outer:=outer
 stack:=envOfC qual scope s.heap.objs.size f cd :: outer
 ex:=[]
 calm:=true
 fn:=λ_=>true
 pn:=[]
 xe:=λe s'=>wpAny (model P w) (A.deeper (envOfC qual scope s.heap.objs.size f cd)) (leaving (envOfC qual scope s.heap.objs.size f cd) e) (λ_ s''=>CX outer H s E e s'') (λe' s''=>CX outer H s E e' s'') s'
theorem gK {sc:Scope} {n:Nat} {x:Str} (h:sc.names.lookup x=some .cell):∃ c,(cellsFrom n sc.names []).lookup x=some c:=by
 have q:=PySem.W.cellsFrom_some sc.names n [] (.inl h)
 exact Option.isSome_iff_exists.mp q
theorem ZT {CX:yi} {P:Program} {w:World} {K:PySem.W.Frag} {mg:Str->Option Value} {base:Heap} {N ps:List Str} {qual:Str} {scope:Scope} {f:Addr} {cd:Value} {A:Around} {outer:List Env} {s s1:Shared} {H:Hp} {E:XK} {us:List Value} {vs:List V}
  (S:ze N ps scope) (hd:A.handled=none) (e0:yj P w K mg base A outer s H) (hl:vs.length=ps.length) (r:zF vs us)
  (x:InCallC s s.heap.objs.size (bindL (envOfC qual scope s.heap.objs.size f cd).kindOf (ps.zip us) λ_=>none) (cellsFrom (s.heap.objs.size + 1) scope.names []) (bindC (envOfC qual scope s.heap.objs.size f cd).kindOf (ps.zip us) λ_=>none) s1) :
  zB (zJ CX P w K mg base N qual scope f cd A outer s H E) [] (xT N vs) H s1:=by
 have hpl:ps.length<=N.length:=by have:=congrArg List.length S.pre; rw [List.length_take] at this; omega
 obtain ⟨h1,tk,rfl,hk⟩:=x.done
 have noA:∀ b:Addr,b∉(zJ CX P w K mg base N qual scope f cd A outer s H E).ex:=λb z=>absurd (show b∈([]:List Addr) from z) (by simp)
 refine ⟨⟨e0.mod,S.kind,rfl,rfl,Nat.le_refl _,λy z c h1 h2=>?_,λy hy=>?_,λy c _ h=>?_,λ_=>hd,Around.frames_deeper e0.frames,.inr ⟨rfl,rfl⟩,λb z=>absurd z (noA b),e0.bs,e0.bsz,λb _ _=>noA b,λb z=>absurd z (noA b),e0.funs,e0.frf⟩,
  rfl,e0.bare,Un.kept hk,⟨_,x.toInCall.ns,λi y v h1 h2 h3=>?_⟩,λy c h=>⟨_,x.cell y c h⟩,e0.hok.fresh (Nat.le_refl _),λy c h=>?_,λp hp=>absurd (show p∈([]:List (Addr × Obj)) from hp) (by simp),e0.hok.kept hk,?_⟩
 ·exact name_of_addr x.apart (PySem.mem_of_lookup h1) (PySem.mem_of_lookup h2)
 ·have hy:scope.names.lookup y=some .cell\/scope.names.lookup y=some .free:=hy
  rcases hy with hy | hy
  ·exact gK hy
  ·exact absurd rfl (S.nofree _ (PySem.mem_of_lookup hy))
 ·exact Nat.le_of_lt (x.above y c (PySem.mem_of_lookup h))
 ·have hi:i < vs.length:=by
   unfold xT at h2
   by_cases hi:i < vs.length
   ·exact hi
   ·rw [List.getElem?_append_right (by simpa using hi)] at h2
    rw [List.getElem?_replicate] at h2
    split at h2 <;> cases h2
  have ha:vs[i]? = some v:=by
   unfold xT at h2
   rw [List.getElem?_append_left (by simpa using hi),List.getElem?_map] at h2
   cases e:vs[i]? with
   | none=>rw [e] at h2; cases h2
   | some a=>rw [e] at h2; cases h2; rfl
  obtain ⟨u,hu,rv⟩:=r.get ha
  have hp:ps[i]? = some y:=by
   rw [<- S.pre,List.getElem?_take_of_lt (by omega)]; exact h1
  have ndP:ps.Nodup:=by rw [<- S.pre]; exact S.nd.sublist (List.take_sublist _ _)
  refine ⟨u,rv,?_⟩
  rcases S.par y (List.mem_of_getElem? hp) with k | k
  ·exact .inl ⟨k,gI ndP hp hu k⟩
  ·obtain ⟨c,e⟩:=gK (n:=s.heap.objs.size + 1) k
   refine .inr ⟨.inl k,c,e,?_⟩
   have q:=x.cell y c e
   rw [gJ ndP hp hu (by show scope.names.lookup y≠_; rw [k]; decide)] at q
   exact q
 ·exact e0.hok.fresh (Nat.le_of_lt (x.above y c (PySem.mem_of_lookup h)))
 ·unfold xT
  show _=N.length
  rw [List.length_append,List.length_map,List.length_replicate]
  omega
theorem gL {CX:yi} {P:Program} {w:World} {K:PySem.W.Frag} {mg:Str->Option Value} {base:Heap} {k:Nat} {f:Addr} {name qual:Str} {params:Arguments} {body:List Stmt} {scope:Scope} {dV kV doc pm cdv ct oc:Value} {an od:Option Addr}
  {osl:Array (Option Value)} {N ps:List Str} {sp:Sp} (lk:K.lookup f=some ⟨oc,od,.func (PySem.W.fnOf name qual params body scope dV kV doc pm an cdv ct),osl⟩) (hcd:PySem.W.codeIn K cdv qual=true) (S:ze N ps scope)
  (len:∀ vs H Q E,sp vs H Q E->vs.length=ps.length)
  (hbody:∀ (A:Around) (outer:List Env) (s:Shared) (H:Hp) (vs:List V) (Q:VK) (E:XK),zY k (A.deeper (envOfC qual scope s.heap.objs.size f cdv))->sp vs H Q E->
   ∃ t,yU (zJ CX P w K mg base N qual scope f cdv A outer s H E) body t/\t { nx:=λ_ H'=>Q .non H',rt:=Q } (xT N vs) H) :
  zG P w K mg base CX (k + 1) f (PySem.W.fnOf name qual params body scope dV kV doc pm an cdv ct) ps sp:=by
 refine ⟨len,λA outer s H args us vs Q E hr e0 hb r hsp=>?_⟩
 have hl:=len _ _ _ _ hsp
 have KX:K.In s.heap:=e0.mod.kin.keeps λb o e=>(e0.bs b o e).1
 have lim:s.heap.NoLimit:=e0.mod.nolimit.keeps λb o e=>(e0.bs b o e).1
 have hkind:∀ y∈ps.zip us,scope.names.lookup y.1=some .local\/(scope.names.lookup y.1=some .cell/\((cellsFrom (s.heap.objs.size + 1) scope.names []).lookup y.1).isSome=true):=λ⟨n,v⟩ hy=>by
  rcases S.par n (List.of_mem_zip hy).1 with q | q
  ·exact .inl q
  ·exact .inr ⟨q,PySem.W.cellsFrom_some _ _ _ (.inl q)⟩
 refine codeAny_call_function hr.depth (KX _ _ lk) rfl S.co S.gen rfl (PySem.W.codeRec_of KX hcd) (hb _ _ _ _ ?_)
 refine wpAny_newFunctionEnv_cells S.kind hkind λenv he s1 x=>?_
 subst he
 refine ⟨lim.keeps x.toInCall.keep,codeAny_func ?_⟩
 obtain ⟨t,ht,hq⟩:=hbody A outer s H vs Q E (hr.deeper _) hsp
 have I:zB (zJ CX P w K mg base N qual scope f cdv A outer s H E) [] (xT N vs) H s1:=ZT S hr.hd e0 hl r x
 refine wpAny_mono (ht [] s1 (xT N vs) H _ I hq) (λfl s' hs=>?_) λe s' hs=>hs
 have fin:∀ {σ':St} {H':Hp} {v:V} {u:Value},zB (zJ CX P w K mg base N qual scope f cdv A outer s H E) [] σ' H' s'->zI v u->Q v H'->CE outer P w H s Q u s':=
  λ{σ' H' v u} J rv q=>⟨v,H',J.os,J.bare,J.base,J.hok,rv,q⟩
 cases fl with
 | ret u=>
  obtain ⟨v,σ',H',J,rv,q⟩:=hs
  exact fin J rv q
 | next=>
  obtain ⟨σ',H',J,q⟩:=hs
  exact fin (v:=V.non) (u:=Value.none) J rfl q
 | brk=>
  obtain ⟨_,_,_,q⟩:=hs
  exact False.elim q
 | cont=>
  obtain ⟨_,_,_,q⟩:=hs
  exact False.elim q
end L2
namespace L2
open PySem PySem.Spec PyProof.Rows
section
variable {X:Cx} {x:Str} {p pos:Pos} {e:Expr} {es:List Expr} {t:TA} {id T:String} {r:List V->Hp->VK->Prop}
noncomputable def gM (r:List V->Hp->VK->Prop) (t:TA):TE:=λσ H Q=>t σ H λvs H1=>r vs H1 Q
theorem zt (hc:yw X (.builtin id) r) (hg:Gl X x) (hm:X.mg x=none) (hv:bootBuiltins x=some (.builtin id)) (ha:PA X (e :: es) t) (hn:x≠"__name__":=by decide) (hdb:(x == ("__debug__" : Str))=false:=by decide)
  (he:starEach (e :: es) X.env=(false,eval e X.env) :: starEach es X.env:=by rfl) (hpl:(backTo pos (starEach es X.env)).any (·.1)=false:=by rfl):PE X (.Call (.Name x p) (e :: es) [] pos) (gM r t):=by
 intro pins s σ H Q I h
 refine wpAny_Call_Name_kw (ub I hg hm hv ?_ hn hdb)
 exact PyProof.Rows.callWith_builtin1 (zS (ha pos pins s σ H _ I h) λus s1 ⟨vs,H1,I1,r1,q1⟩=>hc pins s1 σ H1 vs us Q I1 r1 q1) he hpl
theorem yk (hc:yw X (.type T) r) (hg:Gl X x) (hm:X.mg x=none) (hv:bootBuiltins x=some (.type T)) (ha:PA X (e :: es) t) (hn:x≠"__name__":=by decide) (hdb:(x == ("__debug__" : Str))=false:=by decide)
  (he:starEach (e :: es) X.env=(false,eval e X.env) :: starEach es X.env:=by rfl) (hpl:(backTo pos (starEach es X.env)).any (·.1)=false:=by rfl):PE X (.Call (.Name x p) (e :: es) [] pos) (gM r t):=by
 intro pins s σ H Q I h
 refine wpAny_Call_Name_kw (ub I hg hm hv ?_ hn hdb)
 exact PyProof.Rows.callWith_type1 (zS (ha pos pins s σ H _ I h) λus s1 ⟨vs,H1,I1,r1,q1⟩=>hc pins s1 σ H1 vs us Q I1 r1 q1) he hpl
end
end L2
namespace HT
open PySem PyProof.Rows
section
open PySem.SeqAt
open PySem.AutoSeq1 (wpAny_loadPart')
open PySem.MeetsSeq PySem.MeetsSeq2 PySem.MeetsSeq3
end
section
variable {prog:Program} {w:World} {A:Around} {E:Value->Shared->Prop} {s:Shared}
noncomputable def sIx (n d:Nat):Option Int->Nat
 | none=>d
 | some v=>if v < 0 then (v + (n:Int)).toNat else min v.toNat n
theorem sIx_none (n d:Nat):sIx n d none=d:=rfl
theorem sIx_nat (n d k:Nat):sIx n d (some (k:Int))=min k n:=by
 show (if (k:Int) < 0 then ((k:Int) + (n:Int)).toNat else min (k:Int).toNat n)=min k n
 rw [if_neg (by omega),Int.toNat_natCast]
end
end HT
namespace L2
open PySem PySem.Spec PyProof.Rows
noncomputable abbrev TO:=St->Hp->(Option Int->Hp->Prop)->Prop
noncomputable def PO (X:Cx) (e:Option Expr) (t:TO):Prop:=
 ∀ (pins:List (Addr × Obj)) (s:Shared) (σ:St) (H:Hp) (Q:Option Int->Hp->Prop),zB X pins σ H s->t σ H Q->
  wpAny (model X.prog X.w) X.A (evalPart e X.env) (λu s'=>∃ o H',zB X pins σ H' s'/\IsPart u o/\Q o H') X.xe s
noncomputable def ZU:TO:=λ_ H Q=>Q none H
noncomputable def vx (t:TE):TO:=λσ H Q=>t σ H λx H1=>∃ i,x=.int i/\Q (some i) H1
section
variable {X:Cx} {e:Expr} {te:TE} {lo hi:Option Expr} {tl th:TO} {pos p2:Pos}
theorem vy:PO X none ZU:=by
 intro pins s σ H Q I h
 rw [evalPart_none]
 exact wpAny_pure ⟨none,H,I,.none,h⟩
theorem vz (h:PE X e te):PO X (some e) (vx te):=by
 intro pins s σ H Q I hw
 rw [evalPart_some]
 refine zS (h pins s σ H _ I hw) λu s1 ⟨x,H1,I1,r1,q1⟩=>?_
 obtain ⟨i,rfl,q⟩:=q1
 obtain ⟨t,rfl⟩:=r1
 exact ⟨some i,H1,I1,.int i t,q⟩
noncomputable def jy (X:Cx) (r:V->Option Int->Option Int->Hp->VK->Prop):Prop:=
 ∀ (pins:List (Addr × Obj)) (s:Shared) (σ:St) (H:Hp) (x:V) (v vl vu:Value) (lo hi:Option Int) (sl:Addr) (Q:VK),zB X pins σ H s->zI x v->s.heap.IsSliceOf sl vl vu .none->IsPart vl lo->IsPart vu hi->r x lo hi H Q->
  ∃ T id,typeLookup (.type T) "__getitem__" = pure (some (.builtin id))/\s.TypeIs v T/\wpAny (model X.prog X.w) X.A (getItem v (.ref sl)) (EP X pins σ Q) X.xe s
noncomputable def ZV (r:V->Option Int->Option Int->Hp->VK->Prop) (te:TE) (tl th:TO):TE:=λσ H Q=>te σ H λx H1=>tl σ H1 λl H2=>th σ H2 λu H3=>r x l u H3 Q
theorem v2 {r:V->Option Int->Option Int->Hp->VK->Prop} (hr:jy X r) (he:PE X e te) (hl:PO X lo tl) (hu:PO X hi th):PE X (.Subscript e (.Slice lo hi none p2) pos) (ZV r te tl th):=by
 intro pins s σ H Q I h
 refine Subscript_ (zS (he pins s σ H _ I h) λv s1 ⟨x,H1,I1,r1,q1⟩=>?_)
 refine wpAny_Slice (zS (hl pins s1 σ H1 _ I1 q1) λvl s2 ⟨l,H2,I2,pl,q2⟩=>zS (hu pins s2 σ H2 _ I2 q2) λvu s3 ⟨u,H3,I3,pu,q3⟩=>?_)
 rw [evalPart_none]
 refine wpAny_pure ?_
 have I4:zB X pins σ H3 { s3 with heap:=s3.heap.push { cls:=.type "slice",data:=.fields #[vl,vu,.none] } }:=I3.kept (t':=s3.toks) λb ob q=>Heap.get?_push_of_some _ q
 obtain ⟨T,id,hT,ht,hg⟩:=hr pins { s3 with heap:=s3.heap.push { cls:=.type "slice",data:=.fields #[vl,vu,.none] } } σ H3 x v vl vu l u s3.heap.objs.size Q I4 r1 (Heap.IsSliceOf.new ..) pl pu q3
 show wpAny (model X.prog X.w) X.A (subscriptTail e (.Slice lo hi none p2) v (.ref s3.heap.objs.size)) (EP X pins σ Q) X.xe { s3 with heap:=s3.heap.push { cls:=.type "slice",data:=.fields #[vl,vu,.none] } }
 exact tail_any (ops:=[.ref s3.heap.objs.size,v]) ht hT hg (by with_unfolding_all rfl)
noncomputable def zq (xs:List V) (lo hi:Option Int):List V:=(xs.drop (HT.sIx xs.length 0 lo)).take (HT.sIx xs.length xs.length hi - HT.sIx xs.length 0 lo)
theorem ZW (xs:List V) (lo hi:Option Int):(zq xs lo hi).length<=xs.length:=by
 unfold zq
 rw [List.length_take,List.length_drop]
 omega
end
end L2
namespace L2
open PySem PySem.Spec PyProof.Rows
noncomputable def wm (n:Nat) (i:Int):Option Nat:=if 0<=i then (if i < n then some i.toNat else none) else if -(n:Int)<=i then some (i + n).toNat else none
noncomputable def yy {α:Type} (xs:List α) (i:Int):Option α:=(wm xs.length i).bind λj=>xs[j]?
theorem ZX {n:Nat} {i:Int} {j:Nat} (h:wm n i=some j):seqIndex? i n=some j/\j < n/\-(n:Int)<=i/\i < n:=by
 unfold wm at h
 by_cases h0:0<=i
 ·rw [if_pos h0] at h
  by_cases h1:i < n
  ·rw [if_pos h1] at h
   have e:i.toNat=j:=Option.some.inj h
   exact ⟨by rw [seqIndex_of h0 h1,e],by omega,by omega,h1⟩
  ·rw [if_neg h1] at h; cases h
 ·rw [if_neg h0] at h
  by_cases h1 : -(n:Int)<=i
  ·rw [if_pos h1] at h
   have e:(i + n).toNat=j:=Option.some.inj h
   exact ⟨by rw [seqIndex_neg (by omega) h1,e],by omega,h1,by omega⟩
  ·rw [if_neg h1] at h; cases h
theorem gN {α:Type} {xs:List α} {i:Int} {v:α} (h:yy xs i=some v):∃ j,seqIndex? i xs.length=some j/\xs[j]? = some v/\j < xs.length/\-(xs.length:Int)<=i/\i < xs.length:=by
 unfold yy at h
 cases e:wm xs.length i with
 | none=>rw [e] at h; cases h
 | some j=>
  rw [e] at h
  obtain ⟨h1,h2,h3,h4⟩:=ZX e
  exact ⟨j,h1,h,h2,h3,h4⟩
theorem ul {α:Type} {xs:List α} {j:Nat} {v:α} (h:xs[j]? = some v):yy xs (j:Int)=some v:=by
 have hj:j < xs.length:=(List.getElem?_eq_some_iff.mp h).1
 have e:wm xs.length (j:Int)=some j:=by
  unfold wm
  rw [if_pos (by omega),if_pos (by omega)]; simp
 unfold yy; rw [e]; exact h
noncomputable def ZY (b:Expr):Prop:=∀ o i,subscripted b false o i=operate [o,i] (getItem o i)
noncomputable def wI (X:Cx) (r:R2):Prop:=
 ∀ (value slice:Expr) (pins:List (Addr × Obj)) (s:Shared) (σ:St) (H:Hp) (x y:V) (v u:Value) (Q:VK),zB X pins σ H s->zI x v->zI y u->r x y H Q->
  subscripted slice false v u=operate [v,u] (getItem v u)->wpAny (model X.prog X.w) X.A (subscriptTail value slice v u) (EP X pins σ Q) X.xe s
noncomputable def gO (X:Cx) (id:String) (r:V->List V->Hp->VK->Prop):Prop:=
 ∀ (pins:List (Addr × Obj)) (s:Shared) (σ:St) (H:Hp) (x:V) (xs:List V) (v:Value) (us:List Value) (Q:VK),zB X pins σ H s->zI x v->zF xs us->r x xs H Q->
  wpAny (model X.prog X.w) X.A (call (.builtin id) (v :: us)) (EP X pins σ Q) X.xe s
section
variable {X:Cx} {a b:Expr} {ta tb:TE} {pos:Pos}
theorem zo {r:R2} (hr:wI X r) (ha:PE X a ta) (hb:PE X b tb) (hs:ZY b):PE X (.Subscript a b pos) (ug r ta tb):=by
 intro pins s σ H Q I h
 exact Subscript_ (wD ha hb I h λv u s2 x y H2 I2 rx ry q=>hr a b pins s2 σ H2 x y v u Q I2 rx ry q (hs _ _))
noncomputable def xI (K:PySem.W.Frag):R2:=λx y H Q=>∃ p xs i v,x=.ref p/\y=.int i/\zE K H p xs/\yy xs i=some v/\Q v H
noncomputable def jz (K:PySem.W.Frag):R2:=λx y H Q=>∃ p xs i v,x=.ref p/\y=.int i/\zV K H p xs/\yy xs i=some v/\Q v H
theorem yz:wI X (xI X.K):=by
 intro value slice pins s σ H x y v u Q I rx ry h hs
 obtain ⟨p,xs,i,z,rfl,rfl,hq,he,q⟩:=h
 cases rx
 obtain ⟨t,rfl⟩:=ry
 obtain ⟨its,r,pl,hz⟩:=I.list hq
 obtain ⟨j,h1,h2,h3,h4,h5⟩:=gN he
 obtain ⟨w,ew,rw'⟩:=r.get h2
 have hl:=r.length
 have hn:=ui
 have fin:EP X pins σ Q w s:=⟨z,H,I,rw',q⟩
 by_cases h0:0<=i
 ·have hj:i.toNat=j:=by
   rw [seqIndex_of h0 h5] at h1
   exact Option.some.inj h1
  exact item_listR pl.isList h0 (by omega) (by rw [hj]; simpa using ew) fin hs
 ·have hj:(i + (its.toArray.size:Int)).toNat=j:=by
   rw [seqIndex_neg (by omega) h4] at h1
   rw [List.size_toArray,<- hl]
   exact Option.some.inj h1
  exact subscriptTail_builtinR (x:=w) pl.isList.typeIs slot_list_getitem.lookup
   (wpAny_getItem_list_neg (Q:=λr s'=>r=w/\EP X pins σ Q r s') pl.isList (by omega) (by rw [List.size_toArray] <;> omega) (by omega) (by rw [hj]; simpa using ew) ⟨rfl,fin⟩) hs
theorem yN:wI X (jz X.K):=by
 intro value slice pins s σ H x y v u Q I rx ry h hs
 obtain ⟨p,xs,i,z,rfl,rfl,hq,he,q⟩:=h
 cases rx
 obtain ⟨t,rfl⟩:=ry
 obtain ⟨its,r,pl,hz⟩:=I.tuple hq
 obtain ⟨j,h1,h2,h3,h4,h5⟩:=gN he
 obtain ⟨w,ew,rw'⟩:=r.get h2
 have hl:=r.length
 have hn:=ui
 have fin:EP X pins σ Q w s:=⟨z,H,I,rw',q⟩
 exact subscriptTail_builtinR (x:=w) pl.typeIs slot_tuple_getitem.lookup
  (getItem_tuple (j:=j) (Q:=λr s'=>r=w/\EP X pins σ Q r s') pl (by omega) (by omega) (by rw [List.size_toArray,<- hl]; exact h1) (by simpa using ew) ⟨rfl,fin⟩) hs
theorem zB.lst {pins:List (Addr × Obj)} {σ:St} {H:Hp} {s:Shared} {p:Addr} {xs:List V} (I:zB X pins σ H s) (h:H p=some (.lst xs)) :
  ∃ (its:List Value) (n:Nat),zF xs its/\s.heap.get? p=some { cls:=.type "list",data:=.seq its.toArray n }/\xs.length<=sizeLine:=by
 obtain ⟨z,its,n,r,e⟩:=I.hok p _ h
 exact ⟨its,n,r,e,z⟩
theorem ZZ (lo hi:Option Int) (n:Nat):(sliceBounds lo hi none n).1=((HT.sIx n 0 lo:Nat):Int)/\(sliceBounds lo hi none n).2.1=((HT.sIx n n hi:Nat):Int)/\(sliceBounds lo hi none n).2.2=1:=by
 refine ⟨?_,?_,rfl⟩
 ·cases lo with
  | none=>simp [sliceBounds,HT.sIx]
  | some i=>
   simp only [sliceBounds,HT.sIx,Option.getD_none,show (1:Int) > 0 by decide,if_true]
   by_cases h:i < 0
   ·simp only [h,if_true] <;> omega
   ·simp only [h,if_false] <;> omega
 ·cases hi with
  | none=>simp [sliceBounds,HT.sIx]
  | some i=>
   simp only [sliceBounds,HT.sIx,Option.getD_none,show (1:Int) > 0 by decide,if_true]
   by_cases h:i < 0
   ·simp only [h,if_true] <;> omega
   ·simp only [h,if_false] <;> omega
theorem Za (its:List Value) (lo hi:Option Int):slicePick its.toArray lo hi none=((its.drop (HT.sIx its.length 0 lo)).take (HT.sIx its.length its.length hi - HT.sIx its.length 0 lo)).toArray:=by
 obtain ⟨h1,h2,h3⟩:=ZZ lo hi its.toArray.size
 unfold slicePick
 rw [h1,h2,h3]
 simp only [sliceRange_one,pick_run,List.size_toArray] <;> rfl
noncomputable def j0 (K:PySem.W.Frag):V->Option Int->Option Int->Hp->VK->Prop:=λx lo hi H Q=>∃ a xs,x=.ref a/\zE K H a xs/\∀ p,H p=none->Q (.ref p) (upd H p (.lst (zq xs lo hi)))
theorem um:jy X (j0 X.K):=by
 intro pins s σ H x v vl vu lo hi sl Q I rx hs pl pu h
 obtain ⟨a,xs,rfl,hx,q⟩:=h
 cases rx
 obtain ⟨its,r,ht,hz⟩:=I.list hx
 have hlen:=r.length
 refine ⟨"list",_,slot_list_getitem.lookup,ht.isList.typeIs,?_⟩
 refine wpAny_getItem_list_slice ht.isList hs pl pu .none (by simp) ?_ (by rw [List.size_toArray] <;> omega)
 rw [Za,<- hlen]
 refine ⟨.ref s.heap.objs.size,_,I.laid (t':=s.toks) (o:=.lst (zq xs lo hi)) (λb ob q=>Heap.get?_push_of_some _ q) (Nat.le_refl _) ?_,rfl,q _ (I.hok.fresh (Nat.le_refl _))⟩
 exact ⟨Nat.le_trans (ZW xs lo hi) hz,_,0,(r.drop (HT.sIx xs.length 0 lo)).take (HT.sIx xs.length xs.length hi - HT.sIx xs.length 0 lo),Heap.get?_push_size _ rfl⟩
theorem wJ:yw X (.builtin "len") (λxs H Q=>∃ p ys,xs=[.ref p]/\(zE X.K H p ys\/zV X.K H p ys)/\Q (.int ys.length) H):=by
 intro pins s σ H xs us Q I r h
 obtain ⟨p,ys,rfl,hq,q⟩:=h
 obtain ⟨u,rfl,rx⟩:=xS r
 cases rx
 have hn:=ui
 rcases hq with hq | hq
 ·obtain ⟨its,r',pl,hz⟩:=I.list hq
  have hlen:=r'.length
  exact Calls.call_len_list pl.isList (by simp only [List.size_toArray] <;> omega) ⟨.int ys.length,H,I.tok _,⟨s.toks + 1,by rw [List.size_toArray,hlen]⟩,q⟩
 ·obtain ⟨its,r',pl,hz⟩:=I.tuple hq
  have hlen:=r'.length
  exact len_tuple pl (by simp only [List.size_toArray] <;> omega) ⟨.int ys.length,H,I.tok _,⟨s.toks + 1,by rw [List.size_toArray,hlen]⟩,q⟩
theorem gP:yw X (.builtin "len") (λxs H Q=>∃ z,xs=[.str z]/\z.length<=sizeLine/\Q (.int z.length) H):=by
 intro pins s σ H xs us Q I r h
 obtain ⟨z,rfl,hz,q⟩:=h
 obtain ⟨u,rfl,t,rfl⟩:=xS r
 have hn:=ui
 exact len_str (by omega) ⟨.int z.length,H,I.tok _,⟨_,rfl⟩,q⟩
theorem j1:yw X (.type "list") (λxs H Q=>∃ p ys,xs=[.ref p]/\(zE X.K H p ys\/zV X.K H p ys)/\∀ l,H l=none->Q (.ref l) (upd H l (.lst ys))):=by
 intro pins s σ H xs us Q I r h
 obtain ⟨p,ys,rfl,hq,q⟩:=h
 obtain ⟨u,rfl,rx⟩:=xS r
 cases rx
 have fin:∀ (its:List Value),zF ys its->ys.length<=sizeLine->∀ (h':Heap) (c':Nat),(∀ b o',s.heap.get? b=some o'->h'.get? b=some o')->
   h'.get? s.heap.objs.size=some { cls:=.type "list",dict:=none,data:=.seq its.toArray c',slots:=#[] }->EP X pins σ Q (.ref s.heap.objs.size) { s with heap:=h' }:=λits r' hz h' c' kp e=>
  ⟨.ref s.heap.objs.size,_,I.laid (t':=s.toks) kp (Nat.le_refl _) (show yL X.prog X.w _ h' _ (.lst ys) from ⟨hz,its,c',r',e⟩),rfl,q _ (I.hok.fresh (Nat.le_refl _))⟩
 rcases hq with hq | hq
 ·obtain ⟨its,r',pl,hz⟩:=I.list hq
  have hlen:=r'.length
  obtain ⟨o,ho,hc,n,hd⟩:=pl.isList
  exact call_list_seq p (.inl rfl) ho hc hd (λh' c' kp e=>fin its r' hz h' c' kp e) (by simp only [List.size_toArray] <;> omega)
 ·obtain ⟨its,r',pl,hz⟩:=I.tuple hq
  have hlen:=r'.length
  obtain ⟨o,ho,hc,n,hd⟩:=pl
  exact call_list_seq p (.inr rfl) ho hc hd (λh' c' kp e=>fin its r' hz h' c' kp e) (by simp only [List.size_toArray] <;> omega)
theorem gQ:yw X (.type "tuple") (λxs H Q=>∃ p ys,xs=[.ref p]/\((zE X.K H p ys/\∀ l,H l=none->Q (.ref l) (upd H l (.tup ys)))\/(zV X.K H p ys/\Q (.ref p) H))):=by
 intro pins s σ H xs us Q I r h
 obtain ⟨p,ys,rfl,h⟩:=h
 obtain ⟨u,rfl,rx⟩:=xS r
 cases rx
 rcases h with ⟨hq,q⟩ | ⟨hq,q⟩
 ·obtain ⟨its,r',pl,hz⟩:=I.list hq
  have hlen:=r'.length
  refine call_tuple_list pl.isList (λh' kp=>?_) (by simp only [List.size_toArray] <;> omega)
  have I1:zB X pins σ H { s with heap:=h' }:=I.kept (t':=s.toks) kp
  have I2:zB X pins σ (upd H h'.objs.size (.tup ys)) { s with heap:=h'.push { cls:=.type "tuple",data:=.seq its.toArray } }:=
   I1.laid (t':=s.toks) (λb o e=>Heap.get?_push_of_some _ e) (Nat.le_refl _) (show yL X.prog X.w _ _ _ (.tup ys) from ⟨hz,its,r',IsTup.new _ _⟩)
  exact ⟨.ref h'.objs.size,_,I2,rfl,q _ (I1.hok.fresh (Nat.le_refl _))⟩
 ·obtain ⟨its,r',pl,hz⟩:=I.tuple hq
  exact call_tuple_same pl ⟨.ref p,H,I,rfl,q⟩
noncomputable def gR (K:PySem.W.Frag) (T:String) (x:V) (H:Hp):Prop:=match x with
 | .str _=>T = "str"
 | .int _=>T = "int"
 | .ref p=>(T = "list"/\∃ xs,zE K H p xs)\/(T = "tuple"/\∃ o,K.lookup p=some o/\o.cls=.type "tuple"/\o.dict=none)∨
   (T = "dict"/\((∃ kvs,H p=some (.dK kvs))\/∃ kvs,H p=some (.dT kvs)))\/(T = "set"/\∃ S n,H p=some (.set S n))
 | _=>False
theorem Zb {pins:List (Addr × Obj)} {σ:St} {H:Hp} {s:Shared} {T:String} {x:V} {v:Value} (I:zB X pins σ H s) (r:zI x v) (ty:gR X.K T x H) :
  s.TypeIs v T/\∀ a,v=.ref a->∃ ob,s.heap.get? a=some ob/\ob.dict=none:=by
 cases x with
 | str z=>
  obtain ⟨t,rfl⟩:=r
  cases (show T = "str" from ty)
  exact ⟨typeIs_str s z t,λ_ e=>nomatch e⟩
 | int i=>
  obtain ⟨t,rfl⟩:=r
  cases (show T = "int" from ty)
  exact ⟨typeIs_int s i t,λ_ e=>nomatch e⟩
 | ref p=>
  cases r
  rcases ty with ⟨rfl,xs,hq⟩ | ⟨rfl,o,hk,hc,hd⟩ | ⟨rfl,hk⟩ | ⟨rfl,S,n,hk⟩
  ·obtain ⟨its,_,pl,_⟩:=I.list hq
   refine ⟨pl.isList.typeIs,λa e=>?_⟩
   cases e
   obtain ⟨o,n,e,c,hd,_⟩:=pl
   exact ⟨o,e,hd⟩
  ·refine ⟨⟨o,I.kIn p o hk,hc⟩,λa e=>?_⟩
   cases e
   exact ⟨o,I.kIn _ o hk,hd⟩
  ·have z:∃ o,s.heap.get? p=some o/\o.ExactDict:=by
    rcases hk with ⟨kvs,hk⟩ | ⟨kvs,hk⟩
    ·obtain ⟨_,_,_,_,o,_,_,e,ex,_⟩:=I.hok p _ hk
     exact ⟨o,e,ex⟩
    ·obtain ⟨_,_,_,_,o,_,_,e,ex,_⟩:=I.hok p _ hk
     exact ⟨o,e,ex⟩
   obtain ⟨o,e,ex⟩:=z
   refine ⟨⟨o,e,ex.1⟩,λa e2=>?_⟩
   cases e2
   exact ⟨o,e,ex.2.1⟩
  ·obtain ⟨o,_,_,_,e,ex,_⟩:=I.hok p _ hk
   refine ⟨⟨o,e,ex.1⟩,λa e2=>?_⟩
   cases e2
   exact ⟨o,e,ex.2.1⟩
 | _=>exact False.elim ty
noncomputable def uo (K:PySem.W.Frag) (T:String) (r:V->List V->Hp->VK->Prop) (to:TE) (t:TA):TE:=λσ H Q=>to σ H λx H1=>gR K T x H1/\t σ H1 λxs H2=>r x xs H2 Q
variable {o e:Expr} {es:List Expr} {to:TE} {t:TA} {name:Str} {apos cpos:Pos} {T id:String} {r:V->List V->Hp->VK->Prop}
theorem yK (pa:PlainAttrs T) (slot:Slot T name id) (hty:typeOf (.builtin id)=pure (.type "method_descriptor")) (hm:gO X id r) (ho:PE X o to) (ha:PA X (e :: es) t)
  (hbase:attributeBase o name X.env (eval o X.env)=eval o X.env:=by rfl)
  (hfew:((backTo cpos (starEach (e :: es) X.env)).all (λx=>!x.1) && (backToKw cpos (keywordEach [] X.env)).all (λx=>x.1.isSome)
   && decide ((e :: es).length + ([]:List Keyword).length + (if ([]:List Keyword).isEmpty then 0 else 1) < 30))=true:=by rfl)
  (hline:(apos.endLine == cpos.line)=true:=by rfl) (hs:starEach (e :: es) X.env=(false,eval e X.env) :: starEach es X.env:=by rfl) (hplain:(backTo cpos (starEach es X.env)).any (·.1)=false:=by rfl) :
  PE X (.Call (.Attribute o name apos) (e :: es) [] cpos) (uo X.K T r to t):=by
 intro pins s σ H Q I h
 refine wpAny_Call_method_late hbase hfew hline rfl (zS (ho pins s σ H _ I h) λv s1 ⟨x,H1,I1,r1,ty,q1⟩=>?_)
 obtain ⟨h1,h2⟩:=Zb I1 r1 ty
 refine ⟨T,id,pa,slot,hty,h1,h2,?_⟩
 have hA:=ha cpos pins s1 σ H1 _ I1 q1
 rw [hs] at hA |-
 refine Calls.callWith_builtin (by show (false || (backTo cpos (starEach es X.env)).any (·.1))=false; rw [hplain] <;> rfl) (Calls.evalArgs_plain ?_)
 exact zS hA λus s2 ⟨vs,H2,I2,r2,q2⟩=>hm pins s2 σ H2 x vs v us Q I2 r1 r2 q2
/- xs.append(e),list.index on a module's tuple .. are gO facts of 06m -/
end
end L2
namespace L2
open PySem PySem.Spec PyProof.Rows
noncomputable def v3 (X:Cx) (id:String) (r:V->List V->Hp->VK->Prop):Prop:=
 ∀ (pins:List (Addr × Obj)) (s:Shared) (σ:St) (H:Hp) (x:V) (xs:List V) (v:Value) (us:List Value) (Q:VK),zB X pins σ H s->zI x v->zF xs us->r x xs H Q->
  wpAny (model X.prog X.w) X.A (call (.builtin id) (v :: us)) (EP X pins σ Q) X.xe s
theorem zF.one:∀ {x:V} {us:List Value},zF [x] us->∃ u,us=[u]/\zI x u
 | _,_,.cons r .nil=>⟨_,rfl,r⟩
theorem zF.two:∀ {x y:V} {us:List Value},zF [x,y] us->∃ u v,us=[u,v]/\zI x u/\zI y v
 | _,_,_,.cons r (.cons q .nil)=>⟨_,_,rfl,r,q⟩
theorem zF.reverse {xs:List V} {us:List Value} (h:zF xs us):zF xs.reverse us.reverse:=by
 induction h with
 | nil=>exact .nil
 | cons r t ih=>rw [List.reverse_cons,List.reverse_cons]; exact zF.append ih (.cons r .nil)
section
variable {X:Cx} {pins:List (Addr × Obj)} {σ:St} {H:Hp} {s:Shared} {l b:Addr} {xs ys zs:List V}
theorem zB.lset {its its':List Value} {n:Nat} {f:Array Value->Array Value} {t':Nat} (I:zB X pins σ H s) (hH:H l=some (.lst xs))
  (e:s.heap.get? l=some { cls:=.type "list",data:=.seq its.toArray n }) (hf:f its.toArray=its'.toArray) (hv:zF ys its') (hz:ys.length<=sizeLine) :
  zB X pins σ (upd H l (.lst ys)) { s with heap:=s.heap.update l (Obj.mapSeq f),toks:=t' }:=by
 have q:=PySem.IsL.update e f
 rw [hf] at q
 refine I.write (x:=l) (e:=l) (by rw [hH]; exact trivial) (.inl rfl) (λb' u hb hu=>(Heap.get?_update_other s.heap (Obj.mapSeq f) (Ne.symm hb)).trans hu) ⟨_,q⟩ ?_
 exact ⟨hz,its',_,hv,q⟩
theorem zB.lnew {its:List Value} {t':Nat} (I:zB X pins σ H s) (hv:zF ys its) (hz:ys.length<=sizeLine) :
  zB X pins σ (upd H s.heap.objs.size (.lst ys)) { s with heap:=s.heap.push { cls:=.type "list",data:=.seq its.toArray },toks:=t' }:=
 I.laid (λ_ _ q=>Heap.get?_push_of_some _ q) (Nat.le_refl _) ⟨hz,its,0,hv,Heap.get?_push_size _ rfl⟩
theorem zB.fresh (I:zB X pins σ H s):H s.heap.objs.size=none:=I.hok.fresh (Nat.le_refl _)
theorem zB.lstM (I:zB X pins σ H s) (hH:H l=some (.lst xs)):xs.length<=sizeLine/\∃ (its:List Value) (n:Nat),zF xs its/\xs.length=its.length/\s.heap.get? l=some { cls:=.type "list",data:=.seq its.toArray n }:=by
 obtain ⟨z,its,n,r,e⟩:=I.hok l _ hH
 exact ⟨z,its,n,r,r.length,e⟩
end
section
variable {X:Cx}
noncomputable def Zc:V->List V->Hp->VK->Prop:=λx vs H Q=>∃ l xs y,x=.ref l/\vs=[y]/\H l=some (.lst xs)/\xs.length < sizeLine/\Q .non (upd H l (.lst (xs++[y])))
theorem wK:v3 X "list.append" Zc:=by
 intro pins s σ H x vs v us Q I rx rv h
 obtain ⟨l,xs,y,rfl,rfl,hH,hz,q⟩:=h
 cases rx
 obtain ⟨u,rfl,ru⟩:=rv.one
 obtain ⟨z,its,n,r,hl,e⟩:=I.lstM hH
 refine call_meets F.slot_list_append ⟨_,e,rfl⟩ F.entry_list_append (F.args_list_append_2 _ _) (PySem.list_append l its.toArray n u (by rw [List.size_toArray]; omega)) ⟨e,?_⟩
 refine ⟨.non,_,I.lset (its':=its++[u]) hH e (by simp) (r.append (.cons ru .nil)) ?_,rfl,q⟩
 rw [List.length_append,List.length_singleton]
 omega
noncomputable def j2:R2:=λx y H Q=>∃ l b xs zs,x=.ref l/\y=.ref b/\H l=some (.lst xs)/\H b=some (.lst zs)/\xs.length + zs.length<=sizeLine/\∀ p,H p=none->Q (.ref p) (upd H p (.lst (xs++zs)))
theorem gS:yF X (binaryOp .Add) j2:=by
 intro pins s σ H x y v u Q I rx ry h
 obtain ⟨l,b,xs,zs,rfl,rfl,hH,hB,hz,q⟩:=h
 cases rx
 cases ry
 obtain ⟨z,its,n,r,hl,e⟩:=I.lstM hH
 obtain ⟨z2,its2,n2,r2,hl2,e2⟩:=I.lstM hB
 refine PySem.P.add_list e e2 ?_ (by rw [List.size_toArray,List.size_toArray]; omega)
 have ea:its.toArray++its2.toArray=(its++its2).toArray:=by simp
 rw [ea]
 exact ⟨.ref _,_,I.lnew (t':=s.toks) (r.append r2) (by rw [List.length_append]; omega),rfl,q _ I.fresh⟩
end
section
variable {prog:Program} {w:World} {A:Around} {E:Value->Shared->Prop} {s:Shared}
end
section
variable {X:Cx}
end
end L2
namespace Att
open PySem PySem.W PySem.Calls PyProof.Rows
theorem Zd {P:Params} {h:Heap}:∀ (ns:List Int) (vs:List Value),WellAll P h vs (ns.map WData.int)->IntsAre vs ns:=by
 intro ns
 induction ns with
 | nil=>
  intro vs w
  rw [List.map_nil] at w
  cases w
  exact .nil
 | cons n ns ih=>
  intro vs w
  rw [List.map_cons] at w
  cases w with
  | cons a b=>
   cases a
   exact .cons _ _ (ih _ b)
theorem Ze {l:OpenLaw} {n:Nat} (hn:l.most=some n) {P:Params} {h:Heap} {args:List WData} {vals:List Value}
  (hpre:l.row.toRowW.claim.pre args=true) (hwl:WellAll P h vals args) :
  ∃ a vs ns,vals=[Value.ref a]/\args=[WData.list (ns.map WData.int)]/\h.get? a=some { cls:=.type "list",data:=.seq vs.toArray }/\IntsAre vs ns/\ns.length<=n:=by
 have hsh:WShape.hasAll [] args [.list .int]=true:=(pre_splitW hpre).1
 have hc:l.pre.holds [] { args:=args }=true:=(pre_splitW hpre).2
 obtain ⟨d,r,rfl,h1,h2⟩:=hasAllW_cons hsh
 obtain rfl:=hasAllW_nil h2
 obtain ⟨xs,rfl,h3⟩:=hasW_list h1
 obtain ⟨ns,rfl⟩:=items_int h3
 have hlen:ns.length<=n:=by
  unfold OpenLaw.pre at hc
  have h4:(WTm.not (.lt (.lit (.int (n:Int))) (.len (.arg 0)))).holds [] { args:=[.list (ns.map .int)] }=true:=by
   have h4:=(holds_andW hc).1
   rw [hn] at h4
   exact h4
  have h5:=condW_of h4 (w_not (w_lt w_lit (w_len_list (w_arg rfl))))
  rw [List.length_map] at h5
  refine Nat.le_of_not_lt λq=>?_
  have q':(n:Int) < ((ns.length:Nat):Int):=by omega
  first
   | (rw [decide_eq_true q'] at h5; exact absurd h5 (by decide))
   | (simp at h5; omega)
 cases hwl with
 | cons w1 w2=>
  cases w2
  cases w1 with
  | list ho hall=>exact ⟨_,_,ns,rfl,rfl,ho,Zd ns _ hall,hlen⟩
theorem Zf (l:OpenLaw) (args:List WData):l.row.toRowW.claim.post args (.bool true) args=true:=
 postW_of (r:=l.row.toRowW) (X:=(true == true))
  (show WShape.has [] (.bool true) .bool=true by first | rfl | decide | simp [WShape.has,WShape.arms,WShape.armsAll])
  (show (WTm.eq .res (.lit (.bool true))).value [] { args:=args,res:=some (.bool true),after:=args }=some (.bool (true == true)) from w_eq_bool (w_res rfl) w_lit) rfl
theorem attach_call {l:OpenLaw} {n:Nat} {q:Program} {loose:List Str} {XP:(Str->Option Value)->Heap->Prop} {YP:World->Heap->Prop} {d:DefRec}
  (hn:l.most=some n) (hdf:d.params.defaults=[])
  (call:∀ (w:World) (s₀ s₁:Shared) (mg mb:Str->Option Value) (fa:Addr) (o:Obj) (pm cd doc:Value) (a:Addr) (vs:List Value) (ns:List Int),
   Ground q loose [] XP w s₀ mg mb s₁.heap->YP w s₁.heap->
   s₁.heap.get? fa=some o->o.data=.func (docDef d.name d.params d.body d.scope pm cd doc)->s₁.heap.CodeRec cd d.name->mg d.name=some (.ref fa)->
   s₁.heap.get? a=some { cls:=.type "list",data:=.seq vs.toArray }->IntsAre vs ns->ns.length<=n->s₁.gens=#[]->
   codeAny (model l.prog w) callerA (.call (.ref fa) ⟨[.ref a],[]⟩) (λr s'=>r=.ok (.ret (.bool true))/\OldK s₁.heap s'.heap/\s'.os=s₁.os/\AllBare s'.gens) s₁) :
  WalkO q loose XP YP l.row.toRowW d [] (λf vs=>PySem.call f vs):=by
 intro w s₀ s₁ mg mb G Y fa o pm cd doc dV kV ho hd hcd hD hmg hg args vals as hpre hlay hrd hwl hlo
 obtain rfl:dV=.none:=Dflts.none hD hdf
 obtain rfl:kV=.none:=Dflts.noKw hD
 obtain ⟨a,vs,ns,rfl,rfl,hobj,hints,hlen⟩:=Ze hn hpre hwl
 refine enter_call (codeAny_mono (call w s₀ s₁ mg mb fa o pm cd doc a vs ns G Y ho (fd_plain hd) hcd hmg hobj hints hlen hg) λr s' hq=>?_)
 obtain ⟨rfl,h2,h3,h4⟩:=hq
 exact ⟨.inl ⟨.bool true,.bool true,[],rfl,λ_=>rfl,.bool true,Zf l _,λ_=>⟨List.Pairwise.nil,λ_ hm=>(nomatch hm)⟩⟩,h2,h3,h4⟩
section
variable {prog:Program} {w:World} {A:Around} {E:Value->Shared->Prop} {s:Shared} {K:Frag}
end
end Att
namespace L2
open PySem PySem.Spec PyProof.Rows
theorem gT:∀ {vs:List Value} {ns:List Int},IntsAre vs ns->zF (ns.map V.int) vs
 | _,_,.nil=>.nil
 | _,_,.cons n t h=>.cons ⟨t,rfl⟩ (gT h)
noncomputable def wL (H:Hp):Prop:=∀ b,H b=none\/∃ o xs,H b=some (.frz o (.lst xs))
theorem law_call {P:Program} {w:World} {K:PySem.W.Frag} {mg mb:Str->Option Value} {CX:yi} {k:Nat} {fa a:Addr} {fd:FuncData} {x:Str} {sp:Sp} {s₁:Shared} {vs:List Value} {ns:List Int}
  (KX:K.In s₁.heap) (hns:s₁.heap.Ns mainGlobals mg) (hb:s₁.heap.Ns builtinsNs mb) (hbb:∀ x:Str,x≠"__name__"->mb x=bootBuiltins x) (hlim:s₁.heap.NoLimit) (hg:s₁.gens=#[])
  (ha:s₁.heap.get? a=some { cls:=.type "list",data:=.seq vs.toArray }) (hi:IntsAre vs ns) (hl:ns.length<=sizeLine) (hr:zY k callerA)
  (F:∀ base:Heap,K.In base->base.Ns mainGlobals mg->zG P w K mg base CX k fa fd [x] sp) (hbind:∀ (s:Shared) (u:Value),BindsTo s fd ⟨[u],[]⟩ [(x,u)])
  (hsp:∀ H:Hp,wL H->zE K H a (ns.map V.int)->sp [.ref a] H (λv _=>v=.bl true) λ_ _ _=>False)
  (hCX:∀ H e s',CX [] H s₁ (λ_ _ _=>False) e s'->False) :
  codeAny (model P w) callerA (.call (.ref fa) ⟨[.ref a],[]⟩) (λr s'=>r=.ok (.ret (.bool true))/\OldK s₁.heap s'.heap/\s'.os=s₁.os/\AllBare s'.gens) s₁:=by
 have rv:=gT hi
 have lenV:=hi.length
 have core:∀ H:Hp,wL H->zE K H a (ns.map V.int)->yD P w H s₁.heap->(∀ b,H b≠none->b=a)->(H a≠none->K.lookup a=none)->
   codeAny (model P w) callerA (.call (.ref fa) ⟨[.ref a],[]⟩) (λr s'=>r=.ok (.ret (.bool true))/\OldK s₁.heap s'.heap/\s'.os=s₁.os/\AllBare s'.gens) s₁:=by
  intro H hO hS hok hA hK
  have base_of:∀ {b:Addr} {o:Obj},s₁.heap.get? b=some o->H b=none->(yP s₁.heap H).get? b=some o:=λe n=>kl e n
  have noA:∀ {b:Addr} {o:Obj} {es:Array DictEntry} {ep:Nat},s₁.heap.get? b=some o->o.data=.dict es ep->H b=none:=λ{b o es ep} e d=>by
   cases q:H b with
   | none=>rfl
   | some u=>
    have e':b=a:=hA b (by rw [q]; simp)
    subst e'
    rw [ha] at e; cases e
    have d':Data.seq vs.toArray _=Data.dict es ep:=d
    cases d'
  have nsK:∀ {b:Addr} {m:Str->Option Value},s₁.heap.Ns b m->(yP s₁.heap H).Ns b m:=λ{b m} ⟨o,es,ep,e,d,r⟩=>⟨o,es,ep,base_of e (noA e d),d,r⟩
  have hKb:K.In (yP s₁.heap H):=λb o e=>base_of (KX b o e) (by
   cases q:H b with
   | none=>rfl
   | some u=>
    have e':b=a:=hA b (by rw [q]; simp)
    subst e'
    rw [hK (by rw [q]; simp)] at e; cases e)
  have hM:Mod K mg (yP s₁.heap H):=⟨hKb,nsK hns,⟨mb,nsK hb,hbb⟩,let ⟨mc,h1,h2⟩:=hlim; ⟨mc,nsK h1,h2⟩⟩
  have e0:yj P w K mg (yP s₁.heap H) callerA [] s₁ H:=⟨rfl,hM,λb o e=>kn e,Nat.le_of_eq (kj _ _),trivial,λb hb=>absurd (show b∈([]:List Addr) from hb) (by simp),hok,.of_eq hg⟩
  refine codeAny_mono ((F _ hKb (nsK hns)).run callerA [] s₁ H ⟨[.ref a],[]⟩ [.ref a] [.ref a] _ _ hr e0 (hbind s₁ (.ref a)) (.cons rfl .nil) (hsp H hO hS)) λr s' h=>?_
  cases r with
  | error e=>exact (hCX H e s' h).elim
  | ok fl=>
   cases fl with
   | next=>exact False.elim h
   | brk=>exact False.elim h
   | cont=>exact False.elim h
   | ret u=>
    obtain ⟨v,H',os,bare,un,hok',r',q⟩:=h
    have q':v=.bl true:=q
    subst q'
    obtain rfl:u=Value.bool true:=r'
    refine ⟨rfl,OldK.of_keep λb o e=>?_,os,bare⟩
    cases q:H b with
    | none=>exact un.keep b o e q (by intro z; exact absurd (show b∈([]:List Addr) from z) (by simp)) (by simp)
    | some u=>
     rcases hO b with z | ⟨ob,xs,z⟩
     ·rw [q] at z; cases z
     ·have z2:=un.frzs b ob _ z
      obtain ⟨e1,_⟩:=hok b _ z
      obtain ⟨e2,_⟩:=hok' b _ z2
      rw [e] at e1; cases e1
      exact e2
 cases hk:K.lookup a with
 | some o=>
  have e:=KX a o hk
  rw [ha] at e
  cases e
  refine core (λ_=>none) (λ_=>.inl rfl) (.inr ⟨_,vs.toArray,_,hk,rfl,rfl,rfl,by rw [List.size_toArray,lenV]; exact hl,by simpa using rv⟩) (λb u z=>by have z':(none:Option HO)=some u:=z; cases z') (λb z=>absurd rfl z) λz=>absurd rfl z
 | none=>
  refine core (λb=>if b=a then some (.frz { cls:=.type "list",data:=.seq vs.toArray } (.lst (ns.map V.int))) else none) (λb=>?_) (.inl (.inr ⟨{ cls:=.type "list",data:=.seq vs.toArray },if_pos rfl⟩)) (λb u z=>?_) (λb z=>?_) λ_=>hk
  ·by_cases hb:b=a
   ·exact .inr ⟨_,_,if_pos hb⟩
   ·exact .inl (if_neg hb)
  ·by_cases hb:b=a
   ·have z':=(if_pos hb).symm.trans z
    cases z'
    subst hb
    exact ⟨ha,by rw [List.length_map]; exact hl,vs,_,rv,ha⟩
   ·have z':=(if_neg hb).symm.trans z
    cases z'
  ·by_cases hb:b=a
   ·exact hb
   ·exact absurd (if_neg hb) z
end L2
namespace L2
open PySem PySem.Spec PyProof.Rows
theorem Zg {l:PySem.W.OpenLaw} {n k:Nat} {q:Program} {loose:List Str} {XP:(Str->Option Value)->Heap->Prop} {YP:World->Heap->Prop} {d:DefRec} {K:Params->PySem.W.Frag} {CX:World->yi} {sp:World->Sp} {x:Str}
  (hn:l.most=some n) (hn2:n<=sizeLine) (hdf:d.params.defaults=[]) (hr:zY k callerA)
  (hY:∀ (w:World) (h:Heap),YP w h->(K w.params).In h)
  (F:∀ (w:World) (mg:Str->Option Value) (fa:Addr) (h:Heap),(K w.params).In h->h.Ns mainGlobals mg->mg d.name=some (.ref fa)->
   ∃ fd:FuncData,(∀ (s:Shared) (u:Value),BindsTo s fd ⟨[u],[]⟩ [(x,u)])∧
    ∀ base:Heap,(K w.params).In base->base.Ns mainGlobals mg->zG l.prog w (K w.params) mg base (CX w) k fa fd [x] (sp w))
  (hsp:∀ (w:World) (H:Hp) (a:Addr) (ns:List Int),ns.length<=n->wL H->zE (K w.params) H a (ns.map V.int)->sp w [.ref a] H (λv _=>v=.bl true) λ_ _ _=>False)
  (hCX:∀ (w:World) (H:Hp) (s:Shared) (e:Value) (s':Shared),CX w [] H s (λ_ _ _=>False) e s'->False) :
  PySem.W.WalkO q loose XP YP l.row.toRowW d [] (λf vs=>PySem.call f vs):=by
 refine Att.attach_call hn hdf λw s₀ s₁ mg mb fa o pm cd doc a vs ns G Y ho hd hcd hmg hobj hints hlen hg=>?_
 have KX:=hY w _ Y
 obtain ⟨fd,hb,hF⟩:=F w mg fa _ KX G.T.g hmg
 exact law_call KX G.T.g G.T.b G.T.builtins G.T.nolimit hg hobj hints (Nat.le_trans hlen hn2) hr hF hb (λH hO hS=>hsp w H a ns hlen hO hS) λH e s'=>hCX w H s₁ e s'
end L2
namespace L2
open PySem PySem.Spec PyProof.Rows
noncomputable def zZ (s:Stmt):Arguments:=match s with
 | .FunctionDef _ a _ _ _ _ _ _ _ _=>a
 | _=>{ posonlyargs:=[],args:=[],vararg:=none,kwonlyargs:=[],kw_defaults:=[],kwarg:=none,defaults:=[] }
noncomputable def zX (s:Stmt):List Stmt:=match s with
 | .FunctionDef _ _ b _ _ _ _ _ _ _=>b
 | _=>[]
noncomputable def zK (s:Stmt):Scope:=match s with
 | .FunctionDef _ _ _ _ _ _ sc _ _ _=>sc
 | _=>{ kind:=.function,names:=[],isGenerator:=false,isCoroutine:=false }
noncomputable abbrev zW:yi:=λ_ _ _ _ _ _=>False
noncomputable abbrev E0:XK:=λ_ _ _=>False
theorem gU {X:Cx}:jx zW X E0:=λ_ _ _ _ _ _ _ h=>h.elim
structure zg (K:PySem.W.Frag) (x qual:Str) (st:Stmt) (f:Addr) (fd:FuncData):Prop where
 ex:∃ (oc:Value) (od:Option Addr) (kV doc pm:Value) (an:Option Addr) (cdv ct:Value) (osl:Array (Option Value)),
  fd=PySem.W.fnOf x qual (zZ st) (zX st) (zK st) .none kV doc pm an cdv ct/\K.lookup f=some ⟨oc,od,.func fd,osl⟩/\PySem.W.codeIn K cdv qual=true
 kp:PySem.W.keepIn K (.ref f)=true
section
variable {P:Program} {w:World} {K:PySem.W.Frag} {mg:Str->Option Value} {base:Heap}
theorem zg.ok {x qual:Str} {st:Stmt} {f:Addr} {fd:FuncData} {N ps:List Str} {k:Nat} {sp:Sp} (F:zg K x qual st f fd) (S:ze N ps (zK st)) (len:∀ vs H Q E,sp vs H Q E->vs.length=ps.length)
  (hbody:∀ (cdv:Value) (A:Around) (outer:List Env) (s:Shared) (H:Hp) (vs:List V) (Q:VK) (E:XK),zY k (A.deeper (envOfC qual (zK st) s.heap.objs.size f cdv))->sp vs H Q E->
   ∃ t,yU (zJ zW P w K mg base N qual (zK st) f cdv A outer s H E).nox (zX st) t/\t { nx:=λ_ H'=>Q .non H',rt:=Q } (xT N vs) H):zG P w K mg base zW (k + 1) f fd ps sp:=by
 obtain ⟨oc,od,kV,doc,pm,an,cdv,ct,osl,rfl,lk,hcd⟩:=F.ex
 refine gL lk hcd S len λA outer s H vs Q E hr hsp=>?_
 obtain ⟨t,h,q⟩:=hbody cdv A outer s H vs Q E hr hsp
 exact ⟨t,h.nox,q⟩
theorem zg.binds {x qual:Str} {st:Stmt} {f:Addr} {fd:FuncData} {ps:List Str} (F:zg K x qual st f fd)
  (h:∀ (kV doc pm:Value) (an:Option Addr) (cdv ct:Value) (us:List Value),us.length=ps.length->bindArgs (PySem.W.fnOf x qual (zZ st) (zX st) (zK st) .none kV doc pm an cdv ct) ⟨us,[]⟩=pure (ps.zip us)):yx K fd ps []:=by
 obtain ⟨oc,od,kV,doc,pm,an,cdv,ct,osl,rfl,lk,hcd⟩:=F.ex
 exact .all (h kV doc pm an cdv ct)
theorem zr {x qual:Str} {st:Stmt} {f:Addr} {oc:Value} {od an:Option Addr} {osl:Array (Option Value)} {kV doc pm cdv ct:Value} (l:K.lookup f=some ⟨oc,od,.func (PySem.W.fnOf x qual (zZ st) (zX st) (zK st) .none kV doc pm an cdv ct),osl⟩)
  (c:PySem.W.codeIn K cdv qual=true) (k:PySem.W.keepIn K (.ref f)=true):zg K x qual st f (PySem.W.fnOf x qual (zZ st) (zX st) (zK st) .none kV doc pm an cdv ct):=⟨⟨oc,od,kV,doc,pm,an,cdv,ct,osl,rfl,l,c⟩,k⟩
end
theorem zz {n:Nat} (h:n<=1000):n < sizeLine:=Nat.lt_of_le_of_lt h (by decide)
section
variable {X:Cx}
theorem pv (i:Nat) {x:Str} {pos:Pos} (hN:X.N[i]? = some x:=by rfl) (hv:vY X.env.scope x:=by first | exact Or.inl rfl | exact Or.inr (Or.inl rfl) | exact Or.inr (Or.inr rfl)) (hd:(x == ("__debug__" : Str))=false:=by decide)
  (hcd:(x == ("__classdict__" : Str))=false:=by decide):PE X (.Name x pos) (vZ i):=kq hN hv hd hcd
end
theorem zU {A B:Prop} (h:B):if false=true then A else B:=by
 rw [if_neg Bool.false_ne_true]
 exact h
theorem xU {A B:Prop} (h:A):if true=true then A else B:=by
 rw [if_pos rfl]
 exact h
theorem yV {c A B:Prop} [Decidable c] (h1:c->A) (h2:¬ c->B):if c then A else B:=by
 by_cases h:c
 ·rw [if_pos h]
  exact h1 h
 ·rw [if_neg h]
  exact h2 h
theorem xp {c A B:Prop} [Decidable c] (hc:c) (h:B):if (!decide c)=true then A else B:=by
 rw [decide_eq_true hc]
 exact zU h
noncomputable def zC (H H':Hp):Prop:=∀ b o,H b=some o->H' b=some o
theorem zC.refl (H:Hp):zC H H:=λ_ _ h=>h
theorem zC.trans {H H1 H2:Hp} (a:zC H H1) (b:zC H1 H2):zC H H2:=λc o h=>b c o (a c o h)
theorem zC.free {H H':Hp} (e:zC H H') {l:Addr} (h:H' l=Option.none):H l=Option.none:=by
 cases q:H l with
 | none=>rfl
 | some o=>
  rw [e l o q] at h
  cases h
theorem zC.seq {K:PySem.W.Frag} {H H':Hp} {a:Addr} {xs:List V} (e:zC H H') (h:zE K H a xs):zE K H' a xs:=by
 rcases h with (h | ⟨o,h⟩) | h
 ·exact .inl (.inl (e _ _ h))
 ·exact .inl (.inr ⟨o,e _ _ h⟩)
 ·exact .inr h
end L2
set_option maxHeartbeats 4000000
namespace Sh
noncomputable def xE (ns:List Int):Int:=ns.foldl (λc n=>(Int.gcd c n:Int)) 0
theorem gW (a b:Int):xE [a,b]=(Int.gcd a b:Int):=by
 show ((Int.gcd (Int.gcd 0 a:Int) b:Nat):Int)=_
 congr 1
 rw [Int.gcd_zero_left,Int.gcd_eq_natAbs_gcd_natAbs,Int.gcd_eq_natAbs_gcd_natAbs,Int.natAbs_natCast]
theorem gX (ns:List Int) (n:Int):xE (ns++[n])=(Int.gcd (xE ns) n:Int):=by
 unfold xE
 rw [List.foldl_append]
 rfl
theorem Zh (ns:List Int):0<=xE ns:=by
 rcases List.eq_nil_or_concat ns with rfl | ⟨l,a,rfl⟩
 ·exact Int.le_refl 0
 ·rw [List.concat_eq_append,gX]
  exact Int.natCast_nonneg _
theorem gY (c r:Int):Int.gcd r (c.fmod r)=Int.gcd c r:=by
 rw [Int.fmod_def,Int.gcd_sub_mul_left_right,Int.gcd_comm]
theorem Zi {c r:Int} (h:r≠0):(c.fmod r).natAbs < r.natAbs:=by
 rcases Int.lt_or_gt_of_ne h with hr | hr
 ·have e:c.fmod r = -((-c).fmod (-r)):=by rw [Int.neg_fmod_neg,Int.neg_neg]
  have h1:=Int.fmod_nonneg_of_pos (-c) (b:=-r) (by omega)
  have h2:=Int.fmod_lt_of_pos (-c) (b:=-r) (by omega)
  omega
 ·have h1:=Int.fmod_nonneg_of_pos c hr
  have h2:=Int.fmod_lt_of_pos c hr
  omega
theorem Zj (i:Int):(if i < 0 then -i else i)=(i.natAbs:Int):=by
 split <;> omega
theorem Zk (c i:Int):Int.gcd c (if i < 0 then -i else i)=Int.gcd c i:=by
 split
 ·rw [Int.gcd_neg]
 ·rfl
noncomputable def cm (t b:Int):Int:=if b < 0 then -(Int.gcd t b:Int) else (Int.gcd t b:Int)
noncomputable def xV (t b:Int):Int:=t.fdiv (cm t b)
noncomputable def xW (t b:Int):Int:=b.fdiv (cm t b)
theorem Zl {t b:Int} (h:b≠0):0 < (Int.gcd t b:Int):=by
 have:0 < Int.gcd t b:=Int.gcd_pos_of_ne_zero_right _ h
 omega
theorem v4 {t b:Int} (h:b≠0):cm t b≠0:=by
 have:=Zl (t:=t) h
 unfold cm
 split <;> omega
end Sh
namespace Sh
end Sh
namespace L2
open PySem
noncomputable def xJ (env:Env) (cs:List (Str × Addr)) (p:Str × NameKind):List (Str × Addr):=if (p.2 == .free)=true then (p.1,(env.cells.lookup p.1).getD 0) :: cs else cs
noncomputable def yT (scope:Scope) (env:Env):List (Str × Addr):=scope.names.foldl (xJ env) []
theorem Zm {env:Env}:∀ (names:List (Str × NameKind)) (cs:List (Str × Addr)),(∀ p∈names,p.2=.free->(env.cells.lookup p.1).isSome=true)->
  (forIn names cs (λ(p:Str × NameKind) (r:List (Str × Addr))=>(if (p.2 == .free)=true then do let a <- cellOf env p.1; pure (ForInStep.yield ((p.1,a) :: r)) else pure (ForInStep.yield r):Sem (ForInStep (List (Str × Addr))))))=pure (names.foldl (xJ env) cs):=by
 intro names
 induction names with
 | nil=>intro cs _; rfl
 | cons p r ih=>
  intro cs h
  obtain ⟨n,k⟩:=p
  rw [List.forIn_cons]
  by_cases hk:k=.free
  ·subst hk
   obtain ⟨c,hc⟩:=Option.isSome_iff_exists.mp (h (n,.free) List.mem_cons_self rfl)
   have e:cellOf env n=pure c:=by unfold cellOf; dsimp only at hc; rw [hc]
   have z:xJ env cs (n,.free)=(n,c) :: cs:=by unfold xJ; dsimp only at hc |-; rw [hc]; rfl
   simp only [e,beq_self_eq_true,if_true,pure_bind,List.foldl_cons,z]
   exact ih _ λq hq=>h q (List.mem_cons_of_mem _ hq)
  ·have b:(k == NameKind.free)=false:=by simpa using hk
   have z:xJ env cs (n,k)=cs:=by unfold xJ; dsimp only; rw [b]; rfl
   simp only [b,Bool.false_eq_true,if_false,pure_bind,List.foldl_cons,z]
   exact ih _ λq hq=>h q (List.mem_cons_of_mem _ hq)
theorem j3 {scope:Scope} {env:Env} (h:∀ p∈scope.names,p.2=.free->(env.cells.lookup p.1).isSome=true):closureFor scope env=pure (yT scope env):=by
 unfold closureFor yT
 have:=Zm scope.names [] h
 exact (congrArg (λm=>m >>= λr=>pure r) this).trans rfl
theorem Zn {env:Env}:∀ (names:List (Str × NameKind)) (cs:List (Str × Addr)) (x:Str) (c:Addr),(x,c)∈names.foldl (xJ env) cs->(x,c)∈cs\/((x,NameKind.free)∈names/\c=(env.cells.lookup x).getD 0):=by
 intro names
 induction names with
 | nil=>intro cs x c h; exact .inl h
 | cons p r ih=>
  intro cs x c h
  obtain ⟨n,k⟩:=p
  rw [List.foldl_cons] at h
  rcases ih _ x c h with h1 | ⟨h1,h2⟩
  ·unfold xJ at h1
   dsimp only at h1
   by_cases hk:k=.free
   ·subst hk
    simp only [beq_self_eq_true,if_true] at h1
    rcases List.mem_cons.mp h1 with e | h1
    ·injection e with e1 e2
     subst e1; subst e2
     exact .inr ⟨List.mem_cons_self,rfl⟩
    ·exact .inl h1
   ·have b:(k == NameKind.free)=false:=by simpa using hk
    simp only [b,Bool.false_eq_true,if_false] at h1
    exact .inl h1
  ·exact .inr ⟨List.mem_cons_of_mem _ h1,h2⟩
theorem xq {α β:Type} [BEq α] [LawfulBEq α]:∀ {l:List (α × β)} {a:α} {b:β},l.lookup a=some b->(a,b)∈l
 | [],_,_,h=>by simp at h
 | (x,y) :: r,a,b,h=>by
  rw [List.lookup_cons] at h
  by_cases e:a=x
  ·subst e
   simp only [beq_self_eq_true,if_true] at h
   cases h
   exact List.mem_cons_self
  ·have:(a == x)=false:=by simpa using e
   simp only [this] at h
   exact List.mem_cons_of_mem _ (xq h)
theorem gZ {α β:Type} [BEq α] [LawfulBEq α]:∀ {l:List (α × β)} {a:α} {b:β},(a,b)∈l->∃ c,l.lookup a=some c
 | [],_,_,h=>by cases h
 | (x,y) :: r,a,b,h=>by
  rw [List.lookup_cons]
  by_cases e:a=x
  ·subst e
   exact ⟨y,by simp⟩
  ·have z:(a == x)=false:=by simpa using e
   rcases List.mem_cons.mp h with q | q
   ·injection q with q1 _; exact absurd q1 e
   ·obtain ⟨c,hc⟩:=gZ q
    exact ⟨c,by simp only [z]; exact hc⟩
theorem Zo {env:Env}:∀ (names:List (Str × NameKind)) (cs:List (Str × Addr)) (x:Str),((x,NameKind.free)∈names\/∃ c,(x,c)∈cs)->∃ c,(x,c)∈names.foldl (xJ env) cs:=by
 intro names
 induction names with
 | nil=>
  intro cs x h
  rcases h with h | h
  ·cases h
  ·exact h
 | cons p r ih=>
  intro cs x h
  rw [List.foldl_cons]
  refine ih _ x ?_
  rcases h with h | ⟨c,h⟩
  ·rcases List.mem_cons.mp h with e | h
   ·subst e
    exact .inr ⟨_,by unfold xJ; simp only [beq_self_eq_true,if_true]; exact List.mem_cons_self⟩
   ·exact .inl h
  ·refine .inr ⟨c,?_⟩
   unfold xJ
   split
   ·exact List.mem_cons_of_mem _ h
   ·exact h
theorem yl {scope:Scope} {env:Env} (h:∀ p∈scope.names,p.2=.free->(env.cells.lookup p.1).isSome=true) {x:Str} {c:Addr} (e:(yT scope env).lookup x=some c) :
  env.cells.lookup x=some c/\(x,NameKind.free)∈scope.names:=by
 rcases Zn scope.names [] x c (xq e) with z | ⟨z,q⟩
 ·cases z
 ·obtain ⟨d,hd⟩:=Option.isSome_iff_exists.mp (h _ z rfl)
  dsimp only at hd
  rw [hd] at q
  exact ⟨by rw [hd,q]; rfl,z⟩
theorem v5 {scope:Scope} {env:Env} {x:Str} (h:(x,NameKind.free)∈scope.names):∃ c,(yT scope env).lookup x=some c:=by
 obtain ⟨c,hc⟩:=Zo (env:=env) scope.names [] x (.inl h)
 exact gZ hc
theorem ga {scope:Scope} {env:Env} {x:Str} {k:NameKind} (h:(relabel scope env).names.lookup x=some k):(k=.cell/\((x,NameKind.free)∈scope.names\/(x,NameKind.cell)∈scope.names))\/(x,k)∈scope.names:=by
 have m:=xq h
 unfold relabel at m
 obtain ⟨⟨n,j⟩,hm,e⟩:=List.mem_map.mp m
 dsimp only at e
 split at e
 ·rename_i q
  injection e with e1 e2
  subst e1; subst e2
  have q1:j=NameKind.free:=by
   have:=(Bool.and_eq_true_iff.mp (Bool.and_eq_true_iff.mp q).1).1
   exact eq_of_beq this
  subst q1
  exact .inl ⟨rfl,.inl hm⟩
 ·injection e with e1 e2
  subst e1; subst e2
  exact .inr hm
end L2
namespace L2
open PySem
section
variable {prog:Program} {w:World} {A:Around} {R:Result->Shared->Prop} {s:Shared}
theorem gb {elt target iter:Expr} {scope:Scope} {pos:Pos} {it acc:Value} {env:Env} (Wd:Nat->Shared->Prop)
  (turn:∀ n s,Wd n s->wpAny (model prog w) A (pyNext it) (λr s1=>match r with
   | none=>R (.ok .next) s1
   | some v=>wpAny (model prog w) A (letOwnedTupleGo target it v) (λ_ s2=>wpAny (model prog w) A (assign target env v) (λ_ s3=>wpAny (model prog w) A (eval elt env) (λx s4=>
     wpAny (model prog w) A (call (.builtin "list.append") [acc,x]) (λ_ s5=>∃ m,m < n/\Wd m s5) (λ_ _=>False) s4) (λ_ _=>False) s3) (λ_ _=>False) s2) (λ_ _=>False) s1) (λ_ _=>False) s)
  (n:Nat) (h:Wd n s):codeAny (model prog w) A (.compLoop (.ListComp elt [⟨target,iter,[],0⟩] scope pos) 0 it acc env) R s:=by
 refine codeAny_loop rfl Wd (λn s hI=>?_) n h
 show wpAny _ _ (Sem.onRaise (compTurn (.ListComp elt [⟨target,iter,[],0⟩] scope pos) 0 it acc env) _) _ _ s
 refine wpAny_noted ?_
 rw [compTurn_list1]
 refine wpAny_bind (wpAny_standAt (wpAny_bind (wpAny_mono (turn n s hI) (λr s1 h1=>?_) λ_ _ z=>False.elim z)))
 cases r with
 | none=>exact wpAny_pure h1
 | some v=>
  refine wpAny_bind (wpAny_mono h1 (λ_ s2 h2=>?_) λ_ _ z=>False.elim z)
  refine wpAny_bind (wpAny_mono h2 (λ_ s3 h3=>?_) λ_ _ z=>False.elim z)
  refine wpAny_bind (wpAny_bind (wpAny_mono h3 (λx s4 h4=>?_) λ_ _ z=>False.elim z))
  exact wpAny_bind (wpAny_mono h4 (λ_ s5 h5=>wpAny_pure (wpAny_pure ⟨rfl,h5⟩)) λ_ _ z=>False.elim z)
end
end L2
namespace L2
open PySem PySem.Spec PyProof.Rows
noncomputable def Bd (n:Nat) (i:Int):Prop:=i.natAbs < 2 ^ n
theorem Bd.mono {n m:Nat} {i:Int} (h:Bd n i) (k:n<=m:=by decide):Bd m i:=Nat.lt_of_lt_of_le h (Nat.pow_le_pow_right (by decide) k)
theorem Bd.of_le {n:Nat} {i j:Int} (h:Bd n j) (k:i.natAbs<=j.natAbs):Bd n i:=Nat.lt_of_le_of_lt k h
theorem Bd.add {n:Nat} {i j:Int} (h:Bd n i) (k:Bd n j):Bd (n + 1) (i + j):=by
 have h':i.natAbs < 2 ^ n:=h
 have k':j.natAbs < 2 ^ n:=k
 unfold Bd
 rw [Nat.pow_succ]
 have:=Int.natAbs_add_le i j
 omega
theorem Bd.neg {n:Nat} {i:Int} (h:Bd n i):Bd n (-i):=by
 unfold Bd
 rw [Int.natAbs_neg]
 exact h
theorem Bd.lit {n:Nat} {i:Int} (h:i.natAbs < 2 ^ n:=by decide):Bd n i:=h
theorem Bd.bits {n:Nat} {i:Int} (h:Bd n i):Builtin.Int.intBits i<=n:=by
 have h':i.natAbs < 2 ^ n:=h
 unfold Builtin.Int.intBits
 split
 ·exact Nat.zero_le _
 ·rename_i z
  have nz:i.natAbs≠0:=by
   intro q
   apply z
   rw [Int.natAbs_eq_zero.mp q]
   rfl
  exact (Nat.log2_lt nz).mpr h'
theorem Bd.fdiv {n:Nat} {i:Int} (h:Bd n i) (j:Int):Bd n (i.fdiv j):=
 h.of_le (Int.natAbs_fdiv_le_natAbs i j)
noncomputable def j4 (i j:Int):Prop:=Bd 60000 i/\Bd 60000 j
noncomputable def v6 (_ j:Int):Prop:=j≠0/\Bd 8000 j
section
variable {X:Cx}
theorem j4.ok {i j:Int} (h:j4 i j):IntMulOk i j:=by
 have h1:=h.1.bits
 have h2:=h.2.bits
 have hc:Builtin.Int.intTooBig (Builtin.Int.intBits i + Builtin.Int.intBits j)=false:=by
  unfold Builtin.Int.intTooBig
  rw [bitsLine_eq]
  exact decide_eq_false (by omega)
 unfold IntMulOk
 rw [hc]
 simp
theorem xA:yF X (binaryOp .Mult) (rI j4 λi j=>.int (i * j)):=uh λ_ _ _ _ _ _ _ hc q=>mul_int q hc.ok
theorem xr:yF X (binaryOp .FloorDiv) (rI v6 λi j=>.int (i.fdiv j)):=uh λ_ _ _ _ _ _ _ hc q=>by
 refine floordiv_int hc.1 q (.inl (PyProof.noPylong_of_log2 ?_))
 have h':_ < 2 ^ 8000:=hc.2
 have nz:_≠0:=λz=>hc.1 (Int.natAbs_eq_zero.mp z)
 exact Nat.lt_trans ((Nat.log2_lt nz).mpr h') (by decide)
end
section
variable {X:Cx}
noncomputable def gc (K:PySem.W.Frag):List V->Hp->VK->Prop:=λxs H Q=>∃ x c t b,xs=[x,.ty c]/\zv K H x t/\PySem.W.kitOne K t (.type c)=some b/\Q (.bl b) H
theorem y1:yw X (.builtin "isinstance") (gc X.K):=by
 intro pins s σ H xs us Q I r h
 obtain ⟨x,c,t,b,rfl,ty,e,q⟩:=h
 obtain ⟨u,v,rfl,ru,rv⟩:=gE r
 cases (show v=Value.type c from rv)
 exact ZR I ru ty e λtk=>⟨.bl b,H,I.tok tk,rfl,q⟩
end
mutual
inductive Dp (K:PySem.W.Frag) (H:Hp):V->PyData->Prop where
 | non:Dp K H .non .none
 | bl (b:Bool):Dp K H (.bl b) (.bool b)
 | int (i:Int):Dp K H (.int i) (.int i)
 | str (x:Str):Dp K H (.str x) (.str x)
 | lst {a:Addr} {xs:List V} {ds:List PyData} (e:zE K H a xs) (h:y2 K H xs ds):Dp K H (.ref a) (.list ds)
 | tup {a:Addr} {xs:List V} {ds:List PyData} (e:zV K H a xs) (h:y2 K H xs ds):Dp K H (.ref a) (.tuple ds)
inductive y2 (K:PySem.W.Frag) (H:Hp):List V->List PyData->Prop where
 | nil:y2 K H [] []
 | cons {x:V} {xs:List V} {d:PyData} {ds:List PyData} (h:Dp K H x d) (t:y2 K H xs ds):y2 K H (x :: xs) (d :: ds)
end
section
variable {X:Cx} {pins:List (Addr × Obj)} {σ:St} {H:Hp} {s:Shared}
mutual
theorem Dp.reads (I:zB X pins σ H s):∀ {x:V} {d:PyData} {u:Value},Dp X.K H x d->zI x u->∃ as,Reads s.heap u d as
 | _,_,_,.non,r=>by cases r; exact ⟨_,.none⟩
 | _,_,_,.bl b,r=>by cases r; exact ⟨_,.bool b⟩
 | _,_,_,.int i,r=>by obtain ⟨t,rfl⟩:=r; exact ⟨_,.int i t⟩
 | _,_,_,.str x,r=>by obtain ⟨t,rfl⟩:=r; exact ⟨_,.str x t⟩
 | _,_,_,.lst e h,r=>by
  cases r
  obtain ⟨its,rv,⟨o,n,e1,e2,_,e3⟩,_⟩:=I.list e
  obtain ⟨as,q⟩:=y2.reads I h rv
  exact ⟨_,.list e1 e2 e3 (by simpa using q)⟩
 | _,_,_,.tup e h,r=>by
  cases r
  obtain ⟨its,rv,⟨o,e1,e2,n,e3⟩,_⟩:=I.tuple e
  obtain ⟨as,q⟩:=y2.reads I h rv
  exact ⟨_,.tuple e1 e2 e3 (by simpa using q)⟩
theorem y2.reads (I:zB X pins σ H s):∀ {xs:List V} {ds:List PyData} {us:List Value},y2 X.K H xs ds->zF xs us->∃ as,ReadsAll s.heap us ds as
 | _,_,_,.nil,r=>by cases r; exact ⟨_,.nil⟩
 | _,_,_,.cons h t,r=>by
  cases r with
  | cons r1 r2=>
   obtain ⟨_,q1⟩:=Dp.reads I h r1
   obtain ⟨_,q2⟩:=y2.reads I t r2
   exact ⟨_,.cons q1 q2⟩
end
end
section
variable {X:Cx}
noncomputable def gd (K:PySem.W.Frag) (b:Bool):R2:=λx y H Q=>∃ d:PyData,Dp K H x d/\Dp K H y d/\d.canLay0=true/\d.depth<=60/\Q (.bl b) H
theorem j6 (hu:X.A.units + 64 < cLine):yF X (compareOp .Eq) (gd X.K true):=by
 intro pins s σ H x y v u Q I rx ry h
 obtain ⟨d,hx,hy,hc,hd,q⟩:=h
 obtain ⟨_,r1⟩:=hx.reads I rx
 obtain ⟨_,r2⟩:=hy.reads I ry
 refine SeqAt.rcAt_reads r1 r2 hc hc (by rw [Nat.min_self]; omega) _ _ _ _ ⟨.bl true,H,I,?_,q⟩
 rw [SeqAt.eqv_refl d hc]
 rfl
theorem v7 (hu:X.A.units + 64 < cLine):yF X (compareOp .NotEq) (gd X.K false):=by
 intro pins s σ H x y v u Q I rx ry h
 obtain ⟨d,hx,hy,hc,hd,q⟩:=h
 obtain ⟨_,r1⟩:=hx.reads I rx
 obtain ⟨_,r2⟩:=hy.reads I ry
 refine SeqAt.compareNe_reads r1 r2 hc hc (by rw [Nat.min_self]; omega) ⟨.bl false,H,I,?_,q⟩
 rw [SeqAt.eqv_refl d hc]
 rfl
end
section
variable {X:Cx}
theorem up (hc:X.calm=true):yw X (.builtin "all") (λxs H Q=>∃ (p:Addr) (bs:List Bool),xs=[.ref p]/\zE X.K H p (bs.map V.bl)/\Q (.bl (bs.all id)) H):=by
 intro pins s σ H xs us Q I r h
 obtain ⟨p,bs,rfl,hq,q⟩:=h
 obtain ⟨u,rfl,ru⟩:=xS r
 cases ru
 obtain ⟨its,rv,pl,hz⟩:=I.list hq
 have hh:X.A.in1.handled=none:=I.ok.hd hc
 have hlt:p < s.heap.objs.size:=by obtain ⟨o,n,e,_⟩:=pl; exact Heap.lt_size e
 refine call_all_walk (wpAny_pyIter_list pl.isList ?_)
 have hlen:its.length=bs.length:=by rw [<- rv.length,List.length_map]
 refine ⟨s.heap.objs.size,_,_,_,_,_,λi=>bs.getD i true,rfl,Walks.list hh s.heap.objs.size p (Nat.ne_of_lt hlt) its.toArray,⟨⟨_,Heap.get?_push_size _ rfl,rfl,rfl⟩,pl.isList.push _⟩,?_,λh' tk kk=>?_⟩
 ·intro i v s' Q' E' hP hQ'
  have e1:its[i]? = some v:=by simpa using hP
  have hi:i < its.length:=(List.getElem?_eq_some_iff.mp e1).1
  have hb:(bs.map V.bl)[i]? = some (.bl (bs.getD i true)):=by
   rw [List.getElem?_map,List.getElem?_eq_getElem (by omega),List.getD_eq_getElem?_getD,List.getElem?_eq_getElem (by omega)]
   rfl
  obtain ⟨u',e2,r2⟩:=rv.get hb
  rw [e1] at e2
  cases e2
  cases r2
  exact wpAny_truthy_bool hQ'
 ·have e:(List.range its.toArray.size).all (λi=>bs.getD i true)=bs.all id:=by
   rw [List.size_toArray,hlen]
   rw [Bool.eq_iff_iff,List.all_eq_true,List.all_eq_true]
   constructor
   ·intro z b hb
    obtain ⟨i,hi,rfl⟩:=List.mem_iff_getElem.mp hb
    have:=z i (List.mem_range.mpr hi)
    rw [List.getD_eq_getElem?_getD,List.getElem?_eq_getElem hi] at this
    exact this
   ·intro z i hi
    have hi':=List.mem_range.mp hi
    rw [List.getD_eq_getElem?_getD,List.getElem?_eq_getElem hi']
    exact z _ (List.getElem_mem hi')
  refine ⟨.bl (bs.all id),H,I.kept (h':=h') (t':=tk) λb o eb=>kk b o ?_ (Heap.get?_push_of_some _ eb),?_,q⟩
  ·intro hb
   have:b=s.heap.objs.size:=by simpa using hb
   rw [this] at eb
   exact absurd (Heap.lt_size eb) (Nat.lt_irrefl _)
  ·rw [e]
   rfl
end
end L2
namespace L2
open PySem PySem.Spec PyProof.Rows
noncomputable abbrev yW (X:Cx) (scope:Scope) (N:List Str) (C:Addr) (s₀:Shared) (H₀:Hp) (ex:List Addr):Cx:=
 { X with N:=N,s₀:=s₀,H₀:=H₀,env:=compEnvC scope (yT scope X.env) C X.env,outer:=X.stack,ex:=ex,fn:=λ_=>false,pn:=[],xe:=λ_ _=>False }
noncomputable def ym (own:List Str) (caps:List (Nat × Str)) (σ:St):St:=own.map (λ_=>none)++caps.map λp=>(σ[p.1]?).getD none
noncomputable abbrev zM (own:List Str) (caps:List (Nat × Str)):List Str:=own++caps.map (·.2)
structure wM (X:Cx) (scope:Scope) (own:List Str) (caps:List (Nat × Str)):Prop where
 kind:scope.kind=.function
 ncell:∀ y∈scope.names,y.2≠.cell
 locs:∀ y∈scope.names,y.2=.local->scope.names.lookup y.1=some .local
 free:∀ y∈scope.names,y.2=.free->(X.env.cells.lookup y.1).isSome=true
 caps:∀ p∈caps,X.N[p.1]? = some p.2/\scope.names.lookup p.2=some .free/\(X.env.kindOf p.2=some .cell\/X.env.kindOf p.2=some .free)
theorem uq {scope:Scope} {env:Env} {x:Str}:(relabel scope env).names.lookup x=(scope.names.lookup x).map λk=>if (k == .free && env.scope.kind == .function && env.kindOf x == some .cell)=true then .cell else k:=by
 unfold relabel
 generalize scope.names=l
 induction l with
 | nil=>rfl
 | cons p r ih=>
  obtain ⟨n,k⟩:=p
  rw [List.map_cons]
  by_cases e:x=n
  ·subst e
   by_cases c:(k == NameKind.free && env.scope.kind == .function && env.kindOf x == some .cell)=true
   ·simp only [c,if_true,List.lookup_cons,beq_self_eq_true,Option.map_some]
   ·simp only [c,if_false,List.lookup_cons,beq_self_eq_true,Option.map_some,Bool.false_eq_true]
  ·have z:(x == n)=false:=by simpa using e
   dsimp only
   split <;> simp only [List.lookup_cons,z] <;> exact ih
theorem Zp {scope:Scope} {env:Env} {x:Str} (nc:∀ y∈scope.names,y.2≠.cell) (h:(relabel scope env).names.lookup x=some .cell\/(relabel scope env).names.lookup x=some .free):(x,NameKind.free)∈scope.names:=by
 rw [uq] at h
 cases e:scope.names.lookup x with
 | none=>rw [e] at h; rcases h with h | h <;> cases h
 | some k=>
  have m:=xq e
  rw [e] at h
  simp only [Option.map_some,Option.some.injEq] at h
  have kf:k=.free:=by
   rcases h with h | h
   ·split at h
    ·rename_i q
     exact eq_of_beq (Bool.and_eq_true_iff.mp (Bool.and_eq_true_iff.mp q).1).1
    ·exact absurd h (nc _ m)
   ·split at h
    ·cases h
    ·exact h
  rw [<- kf]
  exact m
noncomputable def v8 (J:It) (g:TG) (te:TE) (Q:VK) (σ0:St) (H1:Hp):Prop:=∃ W:Nat->Nat->List V->St->Hp->Prop,(∃ m,W 0 m [] σ0 H1)∧
 ∀ i m ys σ1 H,W i m ys σ1 H->(J.stop i H/\∀ p,H p=none->Q (.ref p) (upd H p (.lst ys)))∨
  (J.go i H/\ys.length < sizeLine/\∃ N:V->St->Hp->Prop,(∀ y σ' H',N y σ' H'->∃ m',m' < m/\W (i + 1) m' (ys++[y]) σ' H')/\∀ x H',J.yld i H x H'->g x σ1 H' λσ2 H2=>te σ2 H2 λy H3=>N y σ2 H3)
noncomputable def j7 (own:List Str) (caps:List (Nat × Str)) (wi:TI) (g:TG) (te:TE):TE:=λσ H Q=>wi σ H λJ H1=>v8 J g te Q (ym own caps σ) H1
section
variable {X:Cx} {scope:Scope} {own:List Str} {caps:List (Nat × Str)} {pins:List (Addr × Obj)} {σ:St} {H:Hp} {s s4:Shared} {C D:Addr} {fp:List Addr}
theorem Zq (B:wM X scope own caps) (I:zB X pins σ H s) (hf:∀ b∈fp,zf X pins H b) (hC:s.heap.objs.size<=C) (hlt:∀ b∈fp,b < s.heap.objs.size):(yW X scope (zM own caps) C s H fp).Ok where
 mod:=I.ok.mod
 kind:=B.kind
 glob:=I.ok.glob
 blt:=I.ok.blt
 above:=hC
 inj:=λx y c h1 h2=>I.ok.inj x y c (yl B.free h1).1 (yl B.free h2).1
 has:=λx h=>v5 (Zp B.ncell h)
 cab:=λx c h _=>by cases h
 hd:=I.ok.hd
 frames:=I.ok.frames
 stk:=.inl rfl
 exf:=λb hb=>⟨λe=>by have:=hlt b hb; rw [e] at this; exact absurd (Nat.lt_of_lt_of_le this hC) (Nat.lt_irrefl _),λx c e=>(hf b hb).2.2.2.2.1 x c (yl B.free e).1⟩
 bs:=I.bs
 bsz:=Nat.le_trans I.ok.bsz I.sz
 noex:=λb o e hb=>by
  rcases (hf b hb).2.2.2.1 with z | z
  ·exact I.ok.noex b o e z
  ·exact absurd (Nat.lt_of_lt_of_le (Heap.lt_size e) (Nat.le_trans I.ok.bsz z)) (Nat.lt_irrefl _)
 exfs:=λb hb z=>by
  rcases List.mem_cons.mp (I.stkSub b z) with e | z
  ·exact (hf b hb).2.1 e
  ·exact (hf b hb).2.2.1 z
 funs:=I.stack
 frf:=I.stkFree
theorem ge {i:Nat} {x:Str} {v:V} (h1:(zM own caps)[i]? = some x) (h2:(ym own caps σ)[i]? = some (some v)):∃ j,(j,x)∈caps/\σ[j]? = some (some v):=by
 unfold ym at h2
 by_cases hi:i < own.length
 ·rw [List.getElem?_append_left (by simpa using hi),List.getElem?_map] at h2
  cases e:own[i]? with
  | none=>rw [e] at h2; cases h2
  | some a=>rw [e] at h2; cases h2
 ·rw [List.getElem?_append_right (by simpa using hi),List.length_map,List.getElem?_map] at h2
  unfold zM at h1
  rw [List.getElem?_append_right (by omega),List.getElem?_map] at h1
  cases e:caps[i - own.length]? with
  | none=>rw [e] at h1; cases h1
  | some p=>
   obtain ⟨j,n⟩:=p
   rw [e] at h1 h2
   cases h1
   refine ⟨j,List.mem_of_getElem? e,?_⟩
   simp only [Option.map_some,Option.some.injEq] at h2
   cases q:σ[j]? with
   | none=>rw [q] at h2; cases h2
   | some o=>rw [q] at h2; exact congrArg some h2
theorem Zr (B:wM X scope own caps) (I:zB X pins σ H s) (hf:∀ b∈fp,zf X pins H b) (hC:s.heap.objs.size<=C) (hlt:∀ b∈fp,b < s.heap.objs.size)
  {m:Str->Option Value} (hn:s4.heap.Ns C m) (hk:∀ b o,s.heap.get? b=some o->s4.heap.get? b=some o) (ho:s4.os=s.os) (hb:AllBare s4.gens) :
  zB (yW X scope (zM own caps) C s H fp) [] (ym own caps σ) H s4 where
 ok:=Zq B I hf hC hlt
 os:=ho
 bare:=hb
 base:=Un.kept hk
 loc:=⟨m,hn,λi x v h1 h2 h3=>by
  obtain ⟨j,hm,hs⟩:=ge h1 h2
  obtain ⟨c1,c2,c3⟩:=B.caps _ hm
  obtain ⟨m',_,hl⟩:=I.loc
  have vis:vY X.env.scope x:=c3.elim (λz=>.inr (.inl z)) λz=>.inr (.inr z)
  obtain ⟨u,r,l⟩:=hl j x v c1 hs vis
  refine ⟨u,r,.inr ?_⟩
  have hm2:(x,NameKind.free)∈scope.names:=xq c2
  obtain ⟨c',hc'⟩:=v5 (env:=X.env) hm2
  have hc2:=(yl B.free hc').1
  refine ⟨?_,c',hc',?_⟩
  ·show (relabel scope X.env).names.lookup x=some .cell\/(relabel scope X.env).names.lookup x=some .free
   rw [uq,c2,Option.map_some]
   split
   ·exact .inl rfl
   ·exact .inr rfl
  ·rcases l with ⟨k,_⟩ | ⟨_,c,e,z⟩
   ·rcases c3 with c3 | c3 <;> rw [c3] at k <;> cases k
   ·rw [hc2] at e
    cases e
    obtain ⟨o,e1,e2⟩:=z
    exact ⟨o,hk _ o e1,e2⟩⟩
 cell:=λx c e=>by
  obtain ⟨v,o,e1,e2⟩:=I.cell x c (yl B.free e).1
  exact ⟨v,o,hk _ o e1,e2⟩
 free:=I.hok.fresh hC
 freeC:=λx c e=>I.freeC x c (yl B.free e).1
 pin:=λp hp=>by simp at hp
 hok:=I.hok.kept hk
 len:=by
  show (ym own caps σ).length=(zM own caps).length
  unfold ym zM
  simp
noncomputable abbrev zh (its:List Value) (k:Nat):Obj:={ cls:=.type "list",data:=.seq its.toArray k }
theorem gf {Y:Cx} {its:List Value} {k:Nat} {y:Value} {pl:List (Addr × Obj)} {Q:Value->Shared->Prop} {E:Value->Shared->Prop} (I:zB Y ((D,zh its k) :: pl) σ H s) (hn:zf Y [] H D) (hp:Y.pn=[]) (hz:its.length<=sizeLine)
  (q:∀ h' k' tk,(∀ b o,b≠D->s.heap.get? b=some o->h'.get? b=some o)->zB Y [(D,zh (its++[y]) k')] σ H { s with heap:=h',toks:=tk }->Q .none { s with heap:=h',toks:=tk }) :
  wpAny (model Y.prog Y.w) Y.A (call (.builtin "list.append") [.ref D,y]) Q E s:=by
 have pD:=I.pin (D,zh its k) (List.mem_append_right _ List.mem_cons_self)
 have e:s.heap.get? D=some (zh its k):=pD.1
 refine call_meets F.slot_list_append ⟨_,e,rfl⟩ F.entry_list_append (F.args_list_append_2 _ _) (PySem.list_append D its.toArray k y (by rw [List.size_toArray]; exact hz)) ⟨e,?_⟩
 have e2:=PySem.IsL.update e (·.push y)
 have ea:its.toArray.push y=(its++[y]).toArray:=by simp
 have keep:∀ b o,b≠D->s.heap.get? b=some o->(s.heap.update D (Obj.mapSeq (·.push y))).get? b=some o:=λb o hb eb=>(Heap.get?_update_other s.heap _ (Ne.symm hb)).trans eb
 have I0:zB Y [] σ H s:=I.pins_of λp hp'=>by cases hp'
 have I1:zB Y [] σ H { s with heap:=s.heap.update D (Obj.mapSeq (·.push y)),toks:=s.toks }:=I0.turned keep hn.1 hn.2.1 hn.2.2.2.1 hn.2.2.2.2.1 hn.2.2.2.2.2
 have e3:(s.heap.update D (Obj.mapSeq (·.push y))).get? D=some (zh (its++[y]) _):=e2.trans (by rw [ea])
 have I2:zB Y [(D,zh (its++[y]) (if ((its++[y]).toArray.size == its.toArray.size)=true then k else k + 1))] σ H { s with heap:=s.heap.update D (Obj.mapSeq (·.push y)),toks:=s.toks }:=I1.pins_of λp hp'=>by
  rw [List.mem_singleton.mp hp']
  exact ⟨e3,hn.1,hn.2.1,hn.2.2.1,λv z=>by cases z⟩
 exact q _ _ s.toks keep I2
end
section
variable {X:Cx} {scope:Scope} {own:List Str} {caps:List (Nat × Str)} {elt tg iter:Expr} {wi:TI} {g:TG} {te:TE} {pos:Pos}
theorem gh {pins:List (Addr × Obj)} {σ:St} {H2:Hp} {s2:Shared} {it:Addr} {fp:List Addr} {tn:Nat->Heap->Prop} {J:It} {W:Nat->Nat->List V->St->Hp->Prop} {m0:Nat} {Q:VK} {E:Value->Shared->Prop} {RR:Value->Addr->Result->Shared->Prop}
  (B:wM X scope own caps) (hc:X.calm=true) (hg:∀ C s₀ H₀ ex,PG (yW X scope (zM own caps) C s₀ H₀ ex) tg g) (he:∀ C s₀ H₀ ex,PE (yW X scope (zM own caps) C s₀ H₀ ex) elt te)
  (I2:zB X pins σ H2 s2) (T:yf X.prog X.w X.K tg J fp it tn) (st2:tn 0 s2.heap) (f2:∀ b∈fp,zf X pins H2 b) (w0:W 0 m0 [] (ym own caps σ) H2)
  (turn:∀ i m ys σ1 H,W i m ys σ1 H->(J.stop i H/\∀ p,H p=none->Q (.ref p) (upd H p (.lst ys)))∨
   (J.go i H/\ys.length < sizeLine/\∃ N:V->St->Hp->Prop,(∀ y σ' H',N y σ' H'->∃ m',m' < m/\W (i + 1) m' (ys++[y]) σ' H')/\∀ x H',J.yld i H x H'->g x σ1 H' λσ2 H2=>te σ2 H2 λy H3=>N y σ2 H3))
  (hRR:∀ D C s6 H6 ys m,s6.heap.Ns C m->s2.heap.objs.size<=C->(∀ h',Heap.SameBut C s6.heap h'->zB X pins σ (upd H6 D (.lst ys)) { s6 with heap:=h' })->upd H6 D (.lst ys) C=none->Q (.ref D) (upd H6 D (.lst ys))->RR (.ref D) C (.ok .next) s6) :
  wpAny (model X.prog X.w) X.A (newList []) (λacc s3=>wpAny (model X.prog X.w) X.A (newFunctionEnv scope X.env.globals (yT scope X.env) [] X.env.qual none .none (some X.env)) (λcenv s4=>
   codeAny (model X.prog X.w) X.A (.compStart (.ListComp elt [⟨tg,iter,[],0⟩] scope pos) 0 (.ref it) acc { cenv with scope:=relabel scope X.env }) (RR acc cenv.locals) s4) E s3) E s2:=by
 have hlt:∀ b∈fp,b < s2.heap.objs.size:=λb hb=>by
  obtain ⟨o,ho,_⟩:=T.obj _ _ st2 b hb
  exact Heap.lt_size ho
 refine wpAny_newObj_type (wpAny_newFunctionEnv B.ncell (λy hy=>by simp at hy) (λh4 hns hsb=>?_) B.kind)
 dsimp only at hns hsb |-
 generalize hP:s2.heap.push { cls:=.type "list",dict:=none,data:=.seq ([]:List Value).toArray }=HD at hns hsb |-
 have hCD:HD.objs.size=s2.heap.objs.size + 1:=by rw [<- hP,Heap.size_push]
 have hDC:s2.heap.objs.size≠HD.objs.size:=by omega
 have hle:s2.heap.objs.size<=HD.objs.size:=by omega
 have old:∀ b o,s2.heap.get? b=some o->h4.get? b=some o:=λb o eb=>by
  have hb:=Heap.lt_size eb
  exact hsb.extBut b o (Nat.ne_of_lt (Nat.lt_of_lt_of_le hb hle)) (Heap.get?_push_of_some _ (by rw [<- hP]; exact Heap.get?_push_of_some _ eb))
 have hD4:h4.get? s2.heap.objs.size=some { cls:=.type "list",data:=.seq ([]:List Value).toArray 0 }:=
  hsb.extBut _ _ hDC (Heap.get?_push_of_some _ (by rw [<- hP]; exact Heap.get?_push_size _ rfl))
 have IY:zB (yW X scope (zM own caps) HD.objs.size s2 H2 fp) [] (ym own caps σ) H2 { s2 with heap:=h4,toks:=s2.toks + ([]:List (Str × Value)).length }:=
  Zr B I2 f2 (by omega) hlt hns old rfl I2.bare
 have stat:∀ {H':Hp},(∀ b∈fp,H' b=none)->∀ b∈fp,zf (yW X scope (zM own caps) HD.objs.size s2 H2 fp) [] H' b:=λ{H'} hn b hb=>by
  have hb2:=hlt b hb
  refine ⟨hn b hb,?_,λz=>?_,.inl hb,λx c ec=>(f2 b hb).2.2.2.2.1 x c (yl B.free ec).1,λp hp=>by simp at hp⟩
  ·exact Nat.ne_of_lt (Nat.lt_of_lt_of_le hb2 hle)
  ·rcases List.mem_cons.mp (I2.stkSub b z) with e | z
   ·exact (f2 b hb).2.1 e
   ·exact (f2 b hb).2.2.1 z
 have statD:∀ {H':Hp},H' s2.heap.objs.size=none->zf (yW X scope (zM own caps) HD.objs.size s2 H2 fp) [] H' s2.heap.objs.size:=λ{H'} hn=>by
  refine ⟨hn,hDC,λz=>?_,.inr (Nat.le_refl _),λx c ec z=>?_,λp hp=>by simp at hp⟩
  ·obtain ⟨_,o,ho,_⟩:=I2.stack.mem z
   exact absurd (Heap.lt_size ho) (Nat.lt_irrefl _)
  ·obtain ⟨v,o,ho,_⟩:=I2.cell x c (yl B.free ec).1
   rw [z] at ho
   exact absurd (Heap.lt_size ho) (Nat.lt_irrefl _)
 have neD:∀ b∈fp,b≠s2.heap.objs.size:=λb hb=>Nat.ne_of_lt (hlt b hb)
 have IY':zB (yW X scope (zM own caps) HD.objs.size s2 H2 fp) [(s2.heap.objs.size,zh [] 0)] (ym own caps σ) H2 { s2 with heap:=h4,toks:=s2.toks + ([]:List (Str × Value)).length }:=
  IY.pins_of λp hp=>by
   rw [List.mem_singleton.mp hp]
   have z:=statD (I2.hok.fresh (Nat.le_refl _))
   exact ⟨hD4,z.1,z.2.1,z.2.2.1,λv z=>by cases z⟩
 have loop:∀ s3:Shared,s3={ s2 with heap:=h4,toks:=s2.toks + ([]:List (Str × Value)).length }->
   codeAny (model X.prog X.w) X.A (.compLoop (.ListComp elt [⟨tg,iter,[],0⟩] scope pos) 0 (.ref it) (.ref s2.heap.objs.size) (compEnvC scope (yT scope X.env) HD.objs.size X.env))
    (RR (.ref s2.heap.objs.size) HD.objs.size) s3:=by
  rintro s3 rfl
  refine gb (λn s'=>∃ i ys σ' H' its k,zB (yW X scope (zM own caps) HD.objs.size s2 H2 fp) [(s2.heap.objs.size,zh its k)] σ' H' s'/\tn i s'.heap/\(∀ b∈fp,H' b=none)∧
   zF ys its/\ys.length<=sizeLine/\W i n ys σ' H') ?_ m0 ⟨0,[],_,H2,[],0,IY',T.keep _ _ _ st2 λb hb o eb=>old b o eb,λb hb=>(f2 b hb).1,.nil,Nat.zero_le _,w0⟩
  rintro n s5 ⟨i,ys,σ5,H5,its,k,I5,st5,fr5,rv5,hz5,w5⟩
  have stat5:∀ {H':Hp},(∀ b∈fp,H' b=none)->∀ b∈fp,zf (yW X scope (zM own caps) HD.objs.size s2 H2 fp) [(s2.heap.objs.size,zh its k)] H' b:=λ{H'} hn b hb=>by
   obtain ⟨a1,a2,a3,a4,a5,_⟩:=stat hn b hb
   refine ⟨a1,a2,a3,a4,a5,λp hp=>?_⟩
   have hp':p∈[(s2.heap.objs.size,zh its k)]:=hp
   rw [List.mem_singleton.mp hp']
   exact Ne.symm (neD b hb)
  rcases turn i n ys σ5 H5 w5 with ⟨stop,qn⟩ | ⟨go,hlen,N,hN,step⟩
  ·refine zS (T.done (yW X scope (zM own caps) HD.objs.size s2 H2 fp) rfl rfl rfl hc i _ s5 σ5 H5 _ I5 (stat5 fr5) st5 stop) λr s6 ⟨hr,I6⟩=>?_
   subst hr
   obtain ⟨pD1,pD2,_⟩:=I6.pin (s2.heap.objs.size,zh its k) (List.mem_append_right _ List.mem_cons_self)
   obtain ⟨m6,hn6,_⟩:=I6.loc
   refine hRR _ _ s6 H5 ys m6 hn6 (by omega) (λh' sb=>?_) (by rw [zk (Ne.symm hDC)]; exact I6.free) (qn _ pD2)
   have hC5:H5 HD.objs.size=none:=I6.free
   have nb:∀ b o,s2.heap.get? b=some o->b≠HD.objs.size/\b≠s2.heap.objs.size:=λb o eb=>by
    have hb:=Heap.lt_size eb
    exact ⟨Nat.ne_of_lt (Nat.lt_of_lt_of_le hb hle),Nat.ne_of_lt hb⟩
   have nt:∀ b o,H5 b=some o->b≠s2.heap.objs.size:=λb o eb z=>by rw [z] at eb; rw [show H5 s2.heap.objs.size=none from pD2] at eb; cases eb
   have un:Un (y8 X.stack) fp H2 (upd H5 s2.heap.objs.size (.lst ys)) s2.heap h':=
    ⟨λb o eb n1 n2 n3=>sb.extBut b o (nb b o eb).1 (I6.base.keep b o eb n1 n2 n3),
     λb o eb n1 n2 n3=>by
      obtain ⟨sl,e1⟩:=I6.base.slot b o eb n1 n2 n3
      exact ⟨sl,sb.extBut b _ (nb b o eb).1 e1⟩,
     λb o eb n1 n3=>by
      rw [zk (nb b o eb).2]
      exact I6.base.free b o eb n1 n3,
     λb o eb n3=>by
      obtain ⟨o',e1⟩:=I6.base.there b o eb n3
      exact ⟨o',sb.extBut b _ (nb b o eb).1 e1⟩,
     λb xs eb=>by
      have e1:=I6.base.tups b xs eb
      rw [zk (nt b _ e1)]
      exact e1,
     λb o u eb=>by
      have e1:=I6.base.frzs b o u eb
      rw [zk (nt b _ e1)]
      exact e1,
     λb ps eb=>by
      obtain ⟨more,e1⟩:=I6.base.tbls b ps eb
      refine ⟨more,?_⟩
      rw [zk (nt b _ e1)]
      exact e1⟩
   have ok5:yD X.prog X.w (upd H5 s2.heap.objs.size (.lst ys)) h':=λb u eb=>by
    by_cases hb:b=s2.heap.objs.size
    ·subst hb
     rw [zP] at eb
     cases eb
     exact ⟨hz5,its,k,rv5,sb.extBut _ _ hDC pD1⟩
    ·rw [zk hb] at eb
     refine (I6.hok b u eb).stay (λc v hcv ev=>sb.extBut c v ?_ ev) (λc ec=>by rw [zk (nt c _ ec)]; exact ec) λc xs ec=>by rw [zk (nt c _ ec)]; exact ec
     rintro rfl
     rcases hcv with z | z
     ·rw [<- z,hC5] at eb
      cases eb
     ·rw [hC5] at z
      cases z
   exact I2.call' (s':={ s6 with heap:=h' }) (ch:=fp) I6.os un ok5 I6.bare λb hb=>⟨(f2 b hb).2.2.2.1,(f2 b hb).2.1,(f2 b hb).2.2.2.2.1,(f2 b hb).2.2.2.2.2⟩
  ·refine zS (T.item (yW X scope (zM own caps) HD.objs.size s2 H2 fp) rfl rfl rfl hc i _ s5 σ5 H5 _ I5 (stat5 fr5) st5 go) λr s6 ⟨u,hr,h6⟩=>?_
   subst hr
   refine zS h6 λ_ s7 ⟨x,H7,I7,r7,y7,st7,fr7⟩=>?_
   have I7':=I7.pinned (stat5 fr7) (T.obj _ _ st7)
   refine zS (hg HD.objs.size s2 H2 fp _ s7 σ5 H7 x u _ I7' r7 (step x H7 y7)) λ_ s8 ⟨σ8,H8,I8,q8⟩=>?_
   refine zS (he HD.objs.size s2 H2 fp _ s8 σ8 H8 _ I8 q8) λyv s9 ⟨y,H9,I9,r9,n9⟩=>?_
   obtain ⟨m',hm',w9⟩:=hN y σ8 H9 n9
   have pD9:=(I9.pin (s2.heap.objs.size,zh its k) (List.mem_append_right _ (List.mem_append_left _ List.mem_cons_self))).2.1
   have hl:its.length=ys.length:=rv5.length.symm
   refine gf (Y:=yW X scope (zM own caps) HD.objs.size s2 H2 fp) (its:=its) (k:=k) (pl:=wk fp s7.heap) I9 (statD pD9) rfl (by omega) λh' k' tk keep I'=>?_
   refine ⟨m',hm',i + 1,ys++[y],σ8,H9,its++[yv],k',I',?_,λb hb=>?_,rv5.append (.cons r9 .nil),?_,w9⟩
   ·refine T.keep _ _ _ st7 λb hb o eb=>keep b o (neD b hb) ?_
    exact (I9.pin (b,o) (List.mem_append_right _ (List.mem_append_right _ (wl hb eb)))).1
   ·obtain ⟨o,eb,_⟩:=T.obj _ _ st7 b hb
    exact (I9.pin (b,o) (List.mem_append_right _ (List.mem_append_right _ (wl hb eb)))).2.1
   ·rw [List.length_append,List.length_singleton]
    omega
 exact codeAny_compStart_list (loop _ rfl) (T.self _ 0 _ _ _ (T.keep _ _ _ st2 λb hb o eb=>old b o eb) (loop _ rfl))
theorem yn (B:wM X scope own caps) (hc:X.calm=true) (hi:PI X tg iter wi) (hg:∀ C s₀ H₀ ex,PG (yW X scope (zM own caps) C s₀ H₀ ex) tg g)
  (he:∀ C s₀ H₀ ex,PE (yW X scope (zM own caps) C s₀ H₀ ex) elt te) (hs:∀ x,foldedSetIterable iter X.env x=pure x:=by intro _; rfl) :
  PE X (.ListComp elt [⟨tg,iter,[],0⟩] scope pos) (j7 own caps wi g te):=by
 intro pins s σ H Q I h
 rw [eval_ListComp]
 refine wpAny_comprehension_free (use:=none) rfl hs (j3 B.free) B.kind B.locs ?_
 refine zS (hi pins s σ H _ I h) λxv s1 h1=>zS h1 λitv s2 h2=>?_
 obtain ⟨it,fp,tn,J,H2,e,I2,T,st2,f2,W,⟨m0,w0⟩,turn⟩:=h2
 subst e
 refine gh (RR:=λacc C=>compPost (model X.prog X.w) X.A X.xe none (EP X pins σ Q) acc C) B hc hg he I2 T st2 f2 w0 turn λD C s6 H6 ys m hn hC J6 hC6 q=>?_
 exact ⟨m,hn,λh' sb=>⟨.ref D,_,J6 h' sb,rfl,q⟩⟩
theorem gj {i:Nat} {y:Str} {py spos:Pos} (hN:X.N.Nodup) (hy:X.N[i]? = some y) (hl:X.env.scope.names.lookup y=some .local) (B:wM X scope own caps) (hc:X.calm=true) (hi:PI X tg iter wi) (hg:∀ C s₀ H₀ ex,PG (yW X scope (zM own caps) C s₀ H₀ ex) tg g)
  (he:∀ C s₀ H₀ ex,PE (yW X scope (zM own caps) C s₀ H₀ ex) elt te) (hsw:swapsWith (.ListComp elt [⟨tg,iter,[],0⟩] scope pos) (some (.Name y py)) spos.line X.env=pure true) (hs:∀ x,foldedSetIterable iter X.env x=pure x:=by intro _; rfl) :
  PS X (.Assign [.Name y py] (.ListComp elt [⟨tg,iter,[],0⟩] scope pos) spos) (vh (j7 own caps wi g te) (jf i)):=by
 intro pins s σ H D0 I h
 rw [exec_Assign_Name_used _ _ _ _ hsw]
 refine wpAny_bind (wpAny_standAt (wpAny_bind ?_))
 change wpAny _ X.A (do let _ <- comprehension (.ListComp elt [⟨tg,iter,[],0⟩] scope pos) scope X.env _ (newList []) false (eval iter X.env) (some (assign (.Name y py) X.env))) _ _ s
 refine wpAny_bind (wpAny_mono (wpAny_comprehension_free (use:=some (assign (.Name y py) X.env)) (Q:=λ_ s'=>SP X pins D0 .next s') rfl hs (j3 B.free) B.kind B.locs ?_) (λ_ s' hq=>wpAny_pure (wpAny_pure hq)) λ_ _ e=>e)
 refine zS (hi pins s σ H _ I h) λxv s1 h1=>zS h1 λitv s2 h2=>?_
 obtain ⟨it,fp,tn,J,H2,e,I2,T,st2,f2,W,⟨m0,w0⟩,turn⟩:=h2
 subst e
 refine gh (Q:=λx H1=>D0.nx (σ.set i (some x)) H1) (RR:=λacc C=>compPost (model X.prog X.w) X.A X.xe (some (assign (.Name y py) X.env)) (λ_ s'=>SP X pins D0 .next s') acc C) B hc hg he I2 T st2 f2 w0 turn λD C s6 H6 ys m hn hC J6 hC6 q=>?_
 have I6:zB X pins σ (upd H6 D (.lst ys)) s6:=J6 s6.heap (.refl ..)
 have CL:C≠X.env.locals:=λz=>by rw [z] at hC; exact absurd (Nat.lt_of_lt_of_le I2.lt hC) (Nat.lt_irrefl _)
 have CC:∀ x c,X.env.cells.lookup x=some c->c≠C:=λx c ec z=>by
  obtain ⟨v,o,ho,_⟩:=I2.cell x c ec
  rw [z] at ho
  exact absurd (Nat.lt_of_lt_of_le (Heap.lt_size ho) hC) (Nat.lt_irrefl _)
 have CP:∀ p∈X.pn++pins,p.1≠C:=λp hp z=>by
  have hl:=Heap.lt_size (I2.pin p hp).1
  rw [z] at hl
  exact absurd (Nat.lt_of_lt_of_le hl hC) (Nat.lt_irrefl _)
 change wpAny _ X.A (assign (.Name y py) X.env (.ref D)) _ _ s6
 refine wpAny_assign_Name (qv I6 hN hy (.inl hl) (v:=.ref D) rfl (λs7 I7 ⟨a,sb,ha⟩=>?_) (.inr hl))
 have aC:C≠a:=λz=>by
  rcases ha with e | e
  ·exact CL (z.trans e)
  ·exact CC _ _ e z.symm
 refine ⟨m,hn.sameBut sb aC,λh' sb'=>⟨_,_,I7.turned (h':=h') (t':=s7.toks) (it:=C) (λb o hb eb=>sb'.extBut b o hb eb) hC6 CL (.inr (Nat.le_trans I2.sz hC)) CC CP,q⟩⟩
end
end L2
namespace L2
open PySem PySem.Spec PyProof.Rows
theorem yo {K:PySem.W.Frag} {a:Addr} {xs:List V} {g:TG} {te:TE} {σ0:St} {H:Hp} {Q:VK} (Pv:Nat->List V->St->Hp->Prop) (h0:Pv 0 [] σ0 H) (hl:∀ i ys σ H,i<=xs.length->Pv i ys σ H->zE K H a xs/\ys.length<=i) (hz:xs.length<=sizeLine)
  (hs:∀ i x ys σ H,xs[i]? = some x->Pv i ys σ H->g x σ H λσ2 H2=>te σ2 H2 λy H3=>Pv (i + 1) (ys++[y]) σ2 H3)
  (hd:∀ ys σ H,Pv xs.length ys σ H->∀ p,H p=none->Q (.ref p) (upd H p (.lst ys))) :
  v8 (wf K a) g te Q σ0 H:=by
 refine ⟨λi m ys σ H=>m=xs.length - i/\i<=xs.length/\Pv i ys σ H,⟨xs.length,by simp,Nat.zero_le _,h0⟩,?_⟩
 rintro i m ys σ H ⟨rfl,hi,p⟩
 obtain ⟨q,hy⟩:=hl i ys σ H hi p
 by_cases hlt:i < xs.length
 ·refine .inr ⟨⟨xs,xs[i],q,by simp [hlt]⟩,by omega,λy σ' H'=>Pv (i + 1) (ys++[y]) σ' H',λy σ' H' z=>⟨xs.length - (i + 1),by omega,rfl,hlt,z⟩,λx H' y=>?_⟩
  obtain ⟨e,y⟩:=y
  subst e
  exact hs i x ys σ _ (y xs q) p
 ·have e:i=xs.length:=by omega
  subst e
  exact .inl ⟨⟨xs,q,Nat.le_refl _⟩,hd ys σ H p⟩
theorem gk {lo:Int} {n:Nat} {g:TG} {te:TE} {σ0:St} {H:Hp} {Q:VK} (Pv:Nat->List V->St->Hp->Prop) (h0:Pv 0 [] σ0 H) (hl:∀ i ys σ H,Pv i ys σ H->ys.length<=i) (hz:n<=sizeLine)
  (hs:∀ i ys σ H,i < n->Pv i ys σ H->g (.int (lo + i)) σ H λσ2 H2=>te σ2 H2 λy H3=>Pv (i + 1) (ys++[y]) σ2 H3)
  (hd:∀ ys σ H,Pv n ys σ H->∀ p,H p=none->Q (.ref p) (upd H p (.lst ys))):v8 (wB lo n) g te Q σ0 H:=by
 refine ⟨λi m ys σ H=>m=n - i/\i<=n/\Pv i ys σ H,⟨n,by simp,Nat.zero_le _,h0⟩,?_⟩
 rintro i m ys σ H ⟨rfl,hi,p⟩
 have hy:=hl i ys σ H p
 by_cases hlt:i < n
 ·refine .inr ⟨hlt,by omega,λy σ' H'=>Pv (i + 1) (ys++[y]) σ' H',λy σ' H' z=>⟨n - (i + 1),by omega,rfl,hlt,z⟩,λx H' y=>?_⟩
  obtain ⟨e,y⟩:=y
  subst e y
  exact hs i ys σ _ hlt p
 ·have e:i=n:=by omega
  subst e
  exact .inl ⟨Nat.le_refl _,hd ys σ H p⟩
structure Fn (P:Program) (w:World) (K:PySem.W.Frag) (mg:Str->Option Value) (base:Heap) (x:Str) (ps:List Str) (k:Nat) (sp:Sp):Prop where
 ex:∃ f fd,zG P w K mg base zW k f fd ps sp/\mg x=some (.ref f)/\PySem.W.keepIn K (.ref f)=true/\yx K fd ps []
theorem Fn.mono {P:Program} {w:World} {K:PySem.W.Frag} {mg:Str->Option Value} {base:Heap} {x:Str} {ps:List Str} {j k:Nat} {sp:Sp} (F:Fn P w K mg base x ps j sp) (h:j<=k:=by decide):Fn P w K mg base x ps k sp:=by
 obtain ⟨f,fd,a,b,c,d⟩:=F.ex
 exact ⟨f,fd,a.mono h,b,c,d⟩
theorem zO {X:Cx} {x:Str} {ps:List Str} {k:Nat} {sp:Sp} {e:Expr} {es:List Expr} {t:TA} {p pos:Pos} (F:Fn X.prog X.w X.K X.mg X.base x ps k sp) (hr:zY k X.A) (hg:Gl X x) (ha:PA X (e :: es) t)
  (hdb:(x == ("__debug__" : Str))=false:=by decide) (he:starEach (e :: es) X.env=(false,eval e X.env) :: starEach es X.env:=by rfl) (hpl:(backTo pos (starEach es X.env)).any (·.1)=false:=by rfl) :
  PE X (.Call (.Name x p) (e :: es) [] pos) (jw sp [] E0 t):=by
 obtain ⟨f,fd,a,b,c,d⟩:=F.ex
 exact gF a hr hg b c d .nil gU ha hdb he hpl
end L2
namespace L2
open PySem PySem.Spec PyProof.Rows
theorem y3:bootBuiltins "isinstance" = some (.builtin "isinstance"):=by decide +kernel
theorem xX:bootBuiltins "len" = some (.builtin "len"):=by decide +kernel
theorem ur:bootBuiltins "abs" = some (.builtin "abs"):=by decide +kernel
theorem ut:bootBuiltins "all" = some (.builtin "all"):=by decide +kernel
theorem gl:bootBuiltins "int" = some (.type "int"):=by decide +kernel
theorem uu:bootBuiltins "bool" = some (.type "bool"):=by decide +kernel
theorem wn:bootBuiltins "tuple" = some (.type "tuple"):=by decide +kernel
theorem wN:bootBuiltins "list" = some (.type "list"):=by decide +kernel
theorem xM:bootBuiltins "str" = some (.type "str"):=by decide +kernel
section
variable (K:PySem.W.Frag)
theorem Zs:PySem.W.kitOne K (.type "int") (.type "int")=some true:=by first | rfl | decide +kernel | (unfold PySem.W.kitOne; rw [if_pos (by decide +kernel)])
theorem uv:PySem.W.kitOne K (.type "int") (.type "bool")=some false:=by first | rfl | decide +kernel | (unfold PySem.W.kitOne; rw [if_neg (by decide +kernel)]; rfl)
theorem uw:PySem.W.kitOne K (.type "tuple") (.type "tuple")=some true:=by first | rfl | decide +kernel | (unfold PySem.W.kitOne; rw [if_pos (by decide +kernel)])
end
theorem xF {X:Cx} {scope:Scope} {own:List Str} (k:scope.kind=.function) (n:scope.names.all (λy=>y.2 != .cell && y.2 != .free && (y.2 != .local || scope.names.lookup y.1 == some .local))=true:=by first | rfl | decide +kernel):wM X scope own []:=by
 have z:∀ y∈scope.names,(y.2 != .cell && y.2 != .free && (y.2 != .local || scope.names.lookup y.1 == some .local))=true:=List.all_eq_true.mp n
 refine ⟨k,λy hy e=>?_,λy hy e=>?_,λy hy e=>?_,λp hp=>by cases hp⟩
 ·have:=z y hy
  rw [e] at this
  simp at this
 ·have:=z y hy
  rw [e] at this
  simpa using this
 ·have:=z y hy
  rw [e] at this
  simp at this
structure yX (K:PySem.W.Frag) (x qual:Str) (st:Stmt) (f:Addr) (fd:FuncData) (d:Value):Prop where
 ex:∃ (oc:Value) (od:Option Addr) (kV doc pm:Value) (an:Option Addr) (cdv ct:Value) (osl:Array (Option Value)) (T:Addr) (oT:Obj) (n:Nat),
  fd=PySem.W.fnOf x qual (zZ st) (zX st) (zK st) (.ref T) kV doc pm an cdv ct/\K.lookup f=some ⟨oc,od,.func fd,osl⟩/\PySem.W.codeIn K cdv qual=true/\K.lookup T=some oT/\oT.data=.seq #[d] n
 kp:PySem.W.keepIn K (.ref f)=true
theorem yX.ok {P:Program} {w:World} {K:PySem.W.Frag} {mg:Str->Option Value} {base:Heap} {x qual:Str} {st:Stmt} {f:Addr} {fd:FuncData} {d:Value} {N ps:List Str} {k:Nat} {sp:Sp} (F:yX K x qual st f fd d) (S:ze N ps (zK st))
  (len:∀ vs H Q E,sp vs H Q E->vs.length=ps.length)
  (hbody:∀ (cdv:Value) (A:Around) (outer:List Env) (s:Shared) (H:Hp) (vs:List V) (Q:VK) (E:XK),zY k (A.deeper (envOfC qual (zK st) s.heap.objs.size f cdv))->sp vs H Q E->
   ∃ t,yU (zJ zW P w K mg base N qual (zK st) f cdv A outer s H E).nox (zX st) t/\t { nx:=λ_ H'=>Q .non H',rt:=Q } (xT N vs) H):zG P w K mg base zW (k + 1) f fd ps sp:=by
 obtain ⟨oc,od,kV,doc,pm,an,cdv,ct,osl,T,oT,n,rfl,lk,hcd,_⟩:=F.ex
 refine gL lk hcd S len λA outer s H vs Q E hr hsp=>?_
 obtain ⟨t,h,q⟩:=hbody cdv A outer s H vs Q E hr hsp
 exact ⟨t,h.nox,q⟩
end L2
namespace L2
open PySem PySem.Spec PyProof.Rows
theorem Zt {K:PySem.W.Frag} {x qual:Str} {st:Stmt} {f T:Addr} {oc kV doc pm cdv ct d:Value} {od an:Option Addr} {osl:Array (Option Value)} {oT:Obj} {n:Nat} (l:K.lookup f=some ⟨oc,od,.func (PySem.W.fnOf x qual (zZ st) (zX st) (zK st) (.ref T) kV doc pm an cdv ct),osl⟩)
  (c:PySem.W.codeIn K cdv qual=true) (k:PySem.W.keepIn K (.ref f)=true) (t:K.lookup T=some oT) (e:oT.data=.seq #[d] n):yX K x qual st f (PySem.W.fnOf x qual (zZ st) (zX st) (zK st) (.ref T) kV doc pm an cdv ct) d:=
 ⟨⟨oc,od,kV,doc,pm,an,cdv,ct,osl,T,oT,n,rfl,l,c,t,e⟩,k⟩
theorem yX.binds {K:PySem.W.Frag} {x qual:Str} {st:Stmt} {f:Addr} {fd:FuncData} {d:Value} {ps:List Str} (F:yX K x qual st f fd d)
  (h:∀ (T:Addr) (kV doc pm:Value) (an:Option Addr) (cdv ct:Value) (us:List Value),us.length=ps.length->∃ k:Option (Array Value)->Sem (List (Str × Value)),
   bindArgs (PySem.W.fnOf x qual (zZ st) (zX st) (zK st) (.ref T) kV doc pm an cdv ct) ⟨us,[]⟩=seqItems? (.ref T) >>= k/\k (some #[d])=pure (ps.zip us)):yx K fd ps []:=by
 obtain ⟨oc,od,kV,doc,pm,an,cdv,ct,osl,T,oT,n,rfl,lk,hcd,t,e⟩:=F.ex
 intro s us X hl
 rw [List.append_nil] at hl |-
 obtain ⟨k,h1,h2⟩:=h T kV doc pm an cdv ct us hl
 exact .of_defaults (T:=T) rfl (X T oT t) e h1 h2
end L2
namespace L2
open PySem PySem.Spec PyProof.Rows
theorem v9 {X:Cx} {scope S:Scope} {own N:List Str} {caps:List (Nat × Str)} (k:scope.kind=.function) (n:scope.names.all (λy=>y.2 != .cell && (y.2 != .local || scope.names.lookup y.1 == some .local))=true)
  (hS:X.env.scope=S) (hc:∃ n,X.env.cells=cellsFrom n S.names []) (hN:X.N=N) (fr:scope.names.all (λy=>y.2 != .free || S.names.lookup y.1 == some .cell)=true)
  (cp:caps.all (λp=>N[p.1]? == some p.2 && scope.names.lookup p.2 == some .free && S.names.lookup p.2 == some .cell)=true):wM X scope own caps:=by
 have z:∀ y∈scope.names,(y.2 != .cell && (y.2 != .local || scope.names.lookup y.1 == some .local))=true:=List.all_eq_true.mp n
 obtain ⟨nn,hc⟩:=hc
 refine ⟨k,λy hy e=>?_,λy hy e=>?_,λy hy e=>?_,λp hp=>?_⟩
 ·have:=z y hy
  rw [e] at this
  simp at this
 ·have:=z y hy
  rw [e] at this
  simpa using this
 ·have q:=List.all_eq_true.mp fr y hy
  rw [e] at q
  have q2:S.names.lookup y.1=some .cell:=by simpa using q
  rw [hc]
  exact PySem.W.cellsFrom_some S.names nn [] (.inl q2)
 ·have q:=List.all_eq_true.mp cp p hp
  simp only [Bool.and_eq_true,beq_iff_eq] at q
  refine ⟨by rw [hN]; exact q.1.1,q.1.2,.inl ?_⟩
  show X.env.scope.names.lookup p.2=some .cell
  rw [hS]
  exact q.2
structure xu (P:Program) (w:World) (K:PySem.W.Frag) (mg:Str->Option Value) (base:Heap) (x:Str) (ps:List Str) (k:Nat) (sp:Sp) (dv:V):Prop where
 ex:∃ f fd d,zG P w K mg base zW k f fd ps sp/\mg x=some (.ref f)/\PySem.W.keepIn K (.ref f)=true/\yx K fd ps []/\yx K fd ps [d]/\zI dv d
theorem xu.mono {P:Program} {w:World} {K:PySem.W.Frag} {mg:Str->Option Value} {base:Heap} {x:Str} {ps:List Str} {j k:Nat} {sp:Sp} {dv:V} (F:xu P w K mg base x ps j sp dv) (h:j<=k:=by decide):xu P w K mg base x ps k sp dv:=by
 obtain ⟨f,fd,d,a,b,c,e⟩:=F.ex
 exact ⟨f,fd,d,a.mono h,b,c,e⟩
theorem xu.fn {P:Program} {w:World} {K:PySem.W.Frag} {mg:Str->Option Value} {base:Heap} {x:Str} {ps:List Str} {k:Nat} {sp:Sp} {dv:V} (F:xu P w K mg base x ps k sp dv):Fn P w K mg base x ps k sp:=by
 obtain ⟨f,fd,d,a,b,c,e,_⟩:=F.ex
 exact ⟨f,fd,a,b,c,e⟩
theorem Zu {X:Cx} {x:Str} {ps:List Str} {k:Nat} {sp:Sp} {e:Expr} {es:List Expr} {t:TA} {p pos:Pos} {dv:V} (F:xu X.prog X.w X.K X.mg X.base x ps k sp dv) (hr:zY k X.A) (hg:Gl X x) (ha:PA X (e :: es) t)
  (hdb:(x == ("__debug__" : Str))=false:=by decide) (he:starEach (e :: es) X.env=(false,eval e X.env) :: starEach es X.env:=by rfl) (hpl:(backTo pos (starEach es X.env)).any (·.1)=false:=by rfl) :
  PE X (.Call (.Name x p) (e :: es) [] pos) (jw sp [dv] E0 t):=by
 obtain ⟨f,fd,d,a,b,c,_,h2,r⟩:=F.ex
 exact gF a hr hg b c h2 (.cons r .nil) gU ha hdb he hpl
theorem yX.binds1 {K:PySem.W.Frag} {x qual:Str} {st:Stmt} {f:Addr} {fd:FuncData} {d:Value} {ps:List Str} (F:yX K x qual st f fd d)
  (h:∀ (T:Addr) (kV doc pm:Value) (an:Option Addr) (cdv ct:Value) (us:List Value),us.length + 1=ps.length->∃ k:Option (Array Value)->Sem (List (Str × Value)),
   bindArgs (PySem.W.fnOf x qual (zZ st) (zX st) (zK st) (.ref T) kV doc pm an cdv ct) ⟨us,[]⟩=seqItems? (.ref T) >>= k/\k (some #[d])=pure (ps.zip (us++[d]))):yx K fd ps [d]:=by
 obtain ⟨oc,od,kV,doc,pm,an,cdv,ct,osl,T,oT,n,rfl,lk,hcd,t,e⟩:=F.ex
 intro s us X hl
 rw [List.length_append,List.length_singleton] at hl
 obtain ⟨k,h1,h2⟩:=h T kV doc pm an cdv ct us hl
 exact .of_defaults (T:=T) rfl (X T oT t) e h1 h2
end L2
namespace L2
theorem xB {b:Bool} {A B:Prop} (e:b=true) (h:A):if b=true then A else B:=by
 rw [if_pos e]
 exact h
theorem yY {b:Bool} {A B:Prop} (e:b=false) (h:B):if b=true then A else B:=by
 rw [if_neg (by rw [e]; exact Bool.false_ne_true)]
 exact h
theorem wo {i j:Int} (h:i=j):decide (V.int i=V.int j)=true:=decide_eq_true (by rw [h])
theorem gm {i j:Int} (h:i≠j):decide (V.int i=V.int j)=false:=decide_eq_false λe=>h (by injection e)
theorem gn {i j:Int} (h:i≠j):(!decide (V.int i=V.int j))=true:=by rw [gm h]; rfl
theorem gp {i j:Int} (h:i=j):(!decide (V.int i=V.int j))=false:=by rw [wo h]; rfl
end L2
set_option maxRecDepth 100000
namespace L2
open PySem
section
variable {prog:Program} {w:World} {A:Around} {E:Value->Shared->Prop} {s:Shared}
end
section
variable {prog:Program} {w:World} {A:Around} {E:Value->Shared->Prop} {s:Shared}
end
end L2
namespace L2
open PySem PySem.Spec PyProof.Rows
section
variable {X:Cx} {es:List Expr} {kk:Nat} {tp:Pos}
end
end L2
namespace L2
open PySem PySem.Spec PyProof.Rows
section
variable {κ:Type} [DecidableEq κ]
noncomputable def yG (kvs:List (κ × V)) (k:κ):Option V:=(kvs.find? λkv=>decide (kv.1=k)).map (·.2)
noncomputable def xY (kvs:List (κ × V)) (k:κ) (v:V):List (κ × V):=
 if (kvs.any λkv=>decide (kv.1=k))=true then kvs.map (λkv=>if kv.1=k then (kv.1,v) else kv) else kvs++[(k,v)]
noncomputable def gq (kvs:List (κ × V)) (k:κ):List (κ × V):=kvs.filter λkv=>decide (kv.1≠k)
theorem gr {p:κ × V} {r:List (κ × V)} {k:κ} (e:p.1=k):yG (p :: r) k=some p.2:=by simp [yG,List.find?_cons,e]
theorem gt {p:κ × V} {r:List (κ × V)} {k:κ} (e:¬ p.1=k):yG (p :: r) k=yG r k:=by simp [yG,List.find?_cons,e]
theorem ye.getD {o:Option V} {u:Option Value} {d:V} {d':Value} (r:ye o u) (rd:zI d d'):zI (o.getD d) (u.getD d'):=by
 cases o with
 | none=>cases u with
  | none=>exact rd
  | some _=>exact (show False from r).elim
 | some _=>cases u with
  | none=>exact (show False from r).elim
  | some _=>exact r
theorem KV.val {kvs:List (κ × V)} {vs:List (κ × Value)} (r:KV kvs vs) (k:κ):ye (yG kvs k) (valueAt vs k):=by
 unfold KV at r
 induction r with
 | nil=>exact True.intro
 | @cons p q ps qs h t ih=>
  obtain ⟨h1,h2⟩:=h
  by_cases e:p.1=k
  ·have e':q.1=k:=h1.symm.trans e
   have b:valueAt (q :: qs) k=some q.2:=by simp [valueAt,List.find?_cons,e']
   rw [gr e,b]; exact h2
  ·have e':¬ q.1=k:=λz=>e (h1.trans z)
   have b:valueAt (q :: qs) k=valueAt qs k:=by simp [valueAt,List.find?_cons,e']
   rw [gt e,b]; exact ih
theorem KV.any {kvs:List (κ × V)} {vs:List (κ × Value)} (r:KV kvs vs) (k:κ):(kvs.any λkv=>decide (kv.1=k))=vs.any λkv=>decide (kv.1=k):=by
 unfold KV at r
 induction r with
 | nil=>rfl
 | cons h t ih=>rw [List.any_cons,List.any_cons,ih,h.1]
theorem KV.drop {kvs:List (κ × V)} {vs:List (κ × Value)} (r:KV kvs vs) (k:κ):KV (gq kvs k) (without vs k):=by
 unfold KV at r |-
 unfold gq without
 induction r with
 | nil=>exact .nil
 | @cons p q ps qs h t ih=>
  obtain ⟨h1,h2⟩:=h
  rw [List.filter_cons,List.filter_cons]
  by_cases e:p.1=k
  ·have a:¬ decide (p.1≠k)=true:=by simp [e]
   have b:¬ decide (q.1≠k)=true:=by simp [h1.symm.trans e]
   rw [if_neg a,if_neg b]; exact ih
  ·have e':¬ q.1=k:=λz=>e (h1.trans z)
   have a:decide (p.1≠k)=true:=by simp [e]
   have b:decide (q.1≠k)=true:=by simp [e']
   rw [if_pos a,if_pos b]; exact .cons ⟨h1,h2⟩ ih
theorem KV.length {kvs:List (κ × V)} {vs:List (κ × Value)} (r:KV kvs vs):kvs.length=vs.length:=Paired.length r
end
noncomputable abbrev KT (H:Hp):List (List zj × V)->List (List zj × Addr × Value)->Prop:=Paired λp q=>p.1=q.1/\H q.2.1=some (.tup (p.1.map kV))/\zI p.2 q.2.2
theorem KT.val {H:Hp} {kvs:List (List zj × V)} {xs:List (List zj × Addr × Value)} (r:KT H kvs xs) (k:List zj):ye (yG kvs k) ((atKey xs k).map (·.2)):=by
 induction r with
 | nil=>exact True.intro
 | @cons p q ps qs h t ih=>
  obtain ⟨h1,_,h2⟩:=h
  by_cases e:p.1=k
  ·have e':q.1=k:=h1.symm.trans e
   have b:atKey (q :: qs) k=some q.2:=by simp [atKey,List.find?_cons,e']
   rw [gr e,b]; exact h2
  ·have e':¬ q.1=k:=λz=>e (h1.trans z)
   have b:atKey (q :: qs) k=atKey qs k:=by simp [atKey,List.find?_cons,e']
   rw [gt e,b]; exact ih
theorem KT.keeps {H H':Hp} {kvs:List (List zj × V)} {xs:List (List zj × Addr × Value)} (r:KT H kvs xs) (ht:∀ b ys,H b=some (.tup ys)->H' b=some (.tup ys)):KT H' kvs xs:=
 Paired.mapP r λ_ _ z=>⟨z.1,ht _ _ z.2.1,z.2.2⟩
section
variable {P:Program} {w:World} {H:Hp} {h:Heap} {a:Addr}
end
noncomputable def xZ (H:Hp) (a:Addr) (y:V) (r:Option V):Prop:=
 (∃ kvs k,Rd H a (.dK kvs)/\y=kV k/\r=yG kvs k)\/∃ kvs k b,Rd H a (.dT kvs)/\y=.ref b/\H b=some (.tup (k.map kV))/\r=yG kvs k
noncomputable def xa (H:Hp) (a:Addr) (y v:V) (H':Hp):Prop:=
 (∃ kvs k,H a=some (.dK kvs)/\y=kV k/\kvs.length < sizeLine/\H'=upd H a (.dK (xY kvs k v)))∨
 ∃ kvs k b,H a=some (.dT kvs)/\y=.ref b/\H b=some (.tup (k.map kV))/\kvs.length < sizeLine/\H'=upd H a (.dT (xY kvs k v))
theorem xZ.k {H:Hp} {a:Addr} {kvs:List (zj × V)} {k:zj} (e:H a=some (.dK kvs)):xZ H a (kV k) (yG kvs k):=.inl ⟨kvs,k,.inl e,rfl,rfl⟩
theorem xZ.t {H:Hp} {a b:Addr} {kvs:List (List zj × V)} {k:List zj} (e:H a=some (.dT kvs)) (eb:H b=some (.tup (k.map kV))):xZ H a (.ref b) (yG kvs k):=.inr ⟨kvs,k,b,.inl e,rfl,eb,rfl⟩
theorem xa.k {H:Hp} {a:Addr} {kvs:List (zj × V)} {k:zj} {v:V} (e:H a=some (.dK kvs)) (hl:kvs.length < sizeLine):xa H a (kV k) v (upd H a (.dK (xY kvs k v))):=.inl ⟨kvs,k,e,rfl,hl,rfl⟩
theorem xa.t {H:Hp} {a b:Addr} {kvs:List (List zj × V)} {k:List zj} {v:V} (e:H a=some (.dT kvs)) (eb:H b=some (.tup (k.map kV))) (hl:kvs.length < sizeLine) :
  xa H a (.ref b) v (upd H a (.dT (xY kvs k v))):=.inr ⟨kvs,k,b,e,rfl,eb,hl,rfl⟩
section
variable {X:Cx} {pins:List (Addr × Obj)} {σ:St} {H:Hp} {s:Shared} {a:Addr} {y v:V} {u r:Value} {o:Option V} {A:Around} {E:Value->Shared->Prop}
theorem zB.big (I:zB X pins σ H s):sysModules < s.heap.objs.size:=by
 have h:mainGlobals < s.heap.objs.size:=(I.mod.glob.keeps I.bk).lt
 exact Nat.lt_trans (by decide) h
end
section
variable {X:Cx} {pins:List (Addr × Obj)} {σ:St} {H:Hp} {s:Shared} {a:Addr} {kvs:List (zj × V)} {k:zj} {u:Value} {A:Around} {E:Value->Shared->Prop}
end
section
variable {X:Cx} {o i e value:Expr} {pos pos' tpos:Pos} {td ty tv:TE}
end
section
variable {X:Cx} {pos:Pos}
end
end L2
namespace L2
open PySem
section
variable {prog:Program} {w:World} {A:Around} {R:Result->Shared->Prop} {s:Shared}
end
end L2
namespace L2
open PySem PySem.Spec PyProof.Rows
section
variable {X:Cx} {scope:Scope} {own:List Str} {caps:List (Nat × Str)} {elt tg iter cond:Expr} {wi:TI} {g:TG} {tc:TT} {te:TE} {pos:Pos}
end
end L2
namespace L2
open PySem PySem.Spec PyProof.Rows
section
variable {prog:Program} {w:World} {A:Around} {E:Value->Shared->Prop} {s:Shared}
end
end L2
namespace L2
open PySem PySem.Spec PyProof.Rows
theorem gu {K:PySem.W.Frag} {a:Addr} {xs:List V} {g:TG} {te:TE} {σ0:St} {H:Hp} {Q:VK} (Pv:Nat->List V->St->Hp->Prop) (h0:Pv 0 [] σ0 H) (hl:∀ i ys σ H,i<=xs.length->Pv i ys σ H->zV K H a xs/\ys.length<=i) (hz:xs.length<=sizeLine)
  (hs:∀ i x ys σ H,xs[i]? = some x->Pv i ys σ H->g x σ H λσ2 H2=>te σ2 H2 λy H3=>Pv (i + 1) (ys++[y]) σ2 H3)
  (hd:∀ ys σ H,Pv xs.length ys σ H->∀ p,H p=none->Q (.ref p) (upd H p (.lst ys))) :
  v8 (wg K a) g te Q σ0 H:=by
 refine ⟨λi m ys σ H=>m=xs.length - i/\i<=xs.length/\Pv i ys σ H,⟨xs.length,by simp,Nat.zero_le _,h0⟩,?_⟩
 rintro i m ys σ H ⟨rfl,hi,p⟩
 obtain ⟨q,hy⟩:=hl i ys σ H hi p
 by_cases hlt:i < xs.length
 ·refine .inr ⟨⟨xs,xs[i],q,by simp [hlt]⟩,by omega,λy σ' H'=>Pv (i + 1) (ys++[y]) σ' H',λy σ' H' z=>⟨xs.length - (i + 1),by omega,rfl,hlt,z⟩,λx H' y=>?_⟩
  obtain ⟨e,y⟩:=y
  subst e
  exact hs i x ys σ _ (y xs q) p
 ·have e:i=xs.length:=by omega
  subst e
  exact .inl ⟨⟨xs,q,Nat.le_refl _⟩,hd ys σ H p⟩
section
variable {X:Cx}
theorem Zv (hu:X.A.units + 64 < cLine):yF X (compareOp .NotEq) (λx y H Q=>∃ d e:PyData,Dp X.K H x d/\Dp X.K H y e/\d.canLay0=true/\e.canLay0=true/\d.depth<=60/\e.depth<=60/\Q (.bl (!PyData.eqv d e)) H):=by
 intro pins s σ H x y v u Q I rx ry h
 obtain ⟨d,e,hx,hy,hc,hc',hd,hd',q⟩:=h
 obtain ⟨_,r1⟩:=hx.reads I rx
 obtain ⟨_,r2⟩:=hy.reads I ry
 exact SeqAt.compareNe_reads r1 r2 hc hc' (by omega) ⟨.bl _,H,I,rfl,q⟩
end
end L2
namespace L2
open PySem PySem.Spec PyProof.Rows
section
variable {X:Cx}
end
end L2
namespace L2
open PySem
theorem Zw:bootBuiltins "max" = some (.builtin "max"):=by decide +kernel
end L2
namespace L2
open PySem PySem.Spec PyProof.Rows
section
variable {X:Cx}
end
end L2
namespace L2
open PySem PySem.Spec PyProof.Rows
theorem uA {a b c d:Nat} (h1:a < b) (h2:b<=c) (h3:c + 1<=d):d≠a:=by omega
theorem j8 {a b c:Nat} (h1:c=a + 1) (h2:c + 1<=b):b≠a:=by omega
theorem ux {x:Str} {c:Addr}:∀ (names:List (Str × NameKind)) (n:Nat) (acc:List (Str × Addr)),(cellsFrom n names acc).lookup x=some c->((x,NameKind.cell)∈names/\n<=c)\/acc.lookup x=some c
 | [],_,_,h=>.inr h
 | (y,k) :: r,n,acc,h=>by
  unfold cellsFrom at h
  split at h
  ·rename_i hk
   rcases ux r (n + 1) ((y,n) :: acc) h with ⟨a,b⟩ | z
   ·exact .inl ⟨List.mem_cons_of_mem _ a,by omega⟩
   ·rw [List.lookup_cons] at z
    by_cases e:(x == y)=true
    ·simp only [e] at z
     have e1:x=y:=eq_of_beq e
     have e2:k=.cell:=eq_of_beq hk
     subst e1
     subst e2
     cases z
     exact .inl ⟨List.mem_cons_self,Nat.le_refl _⟩
    ·have e':(x == y)=false:=by simpa using e
     simp only [e'] at z
     exact .inr z
  ·rcases ux r n acc h with ⟨a,b⟩ | z
   ·exact .inl ⟨List.mem_cons_of_mem _ a,b⟩
   ·exact .inr z
theorem j9 {x:Str}:∀ (names:List (Str × NameKind)) (n:Nat) (acc:List (Str × Addr)),(x,NameKind.cell)∉names->(cellsFrom n names acc).lookup x=acc.lookup x
 | [],_,_,_=>rfl
 | (y,k) :: r,n,acc,h=>by
  have hr:(x,NameKind.cell)∉r:=λz=>h (List.mem_cons_of_mem _ z)
  unfold cellsFrom
  split
  ·rename_i hk
   have e2:k=.cell:=eq_of_beq hk
   rw [j9 r _ _ hr,List.lookup_cons]
   have e':(x == y)=false:=by
    cases q:x == y with
    | false=>rfl
    | true=>exact absurd (by rw [eq_of_beq q,e2]; exact List.mem_cons_self) h
   simp only [e']
  ·exact j9 r _ _ hr
theorem qA:∀ (names:List (Str × NameKind)) (n:Nat) (acc:List (Str × Addr)),(∀ x c,acc.lookup x=some c->c < n)->(∀ x y c,acc.lookup x=some c->acc.lookup y=some c->x=y)->
  ∀ x y c,(cellsFrom n names acc).lookup x=some c->(cellsFrom n names acc).lookup y=some c->x=y
 | [],_,_,_,h2=>h2
 | (z,k) :: r,n,acc,h1,h2=>by
  unfold cellsFrom
  split
  ·have look:∀ x c,((z,n) :: acc).lookup x=some c->(x=z/\c=n)\/acc.lookup x=some c:=λx c e=>by
    rw [List.lookup_cons] at e
    cases q:x == z with
    | true=>
     simp only [q] at e
     exact .inl ⟨eq_of_beq q,(Option.some.inj e).symm⟩
    | false=>
     simp only [q] at e
     exact .inr e
   refine qA r (n + 1) ((z,n) :: acc) (λx c e=>?_) λx y c e1 e2=>?_
   ·rcases look x c e with ⟨_,e⟩ | e
    ·rw [e]
     exact Nat.lt_succ_self n
    ·exact Nat.lt_succ_of_lt (h1 x c e)
   ·rcases look x c e1 with ⟨a1,b1⟩ | a1 <;> rcases look y c e2 with ⟨a2,b2⟩ | a2
    ·rw [a1,a2]
    ·have:=h1 y c a2
     rw [b1] at this
     exact absurd this (Nat.lt_irrefl n)
    ·have:=h1 x c a1
     rw [b2] at this
     exact absurd this (Nat.lt_irrefl n)
    ·exact h2 x y c a1 a2
  ·exact qA r n acc h1 h2
theorem qB {x:Str} {c:Addr}:∀ (names:List (Str × NameKind)) (h:Heap) (acc:List (Str × Addr)),(cellsFrom h.objs.size names acc).lookup x=some c->acc.lookup x=some c\/(pushCells h names).IsCell c none
 | [],_,_,e=>.inl e
 | (y,k) :: r,h,acc,e=>by
  unfold cellsFrom at e
  unfold pushCells
  split at e
  ·rename_i hk
   rw [if_pos hk]
   have q:=qB (x:=x) (c:=c) r (h.push { cls:=.type "cell",data:=.cell none }) ((y,h.objs.size) :: acc) (by rw [Heap.size_push]; exact e)
   rcases q with q | q
   ·rw [List.lookup_cons] at q
    cases z:x == y with
    | true=>
     simp only [z] at q
     cases q
     exact .inr ⟨_,pushCells_keeps r _ _ _ (Heap.get?_push_size _ rfl),rfl⟩
    | false=>
     simp only [z] at q
     exact .inl q
   ·exact .inr q
  ·rename_i hk
   rw [if_neg hk]
   exact qB r h acc e
theorem wp:∀ {l:List (Str × NameKind)} {x:Str} {k:NameKind},(l.map (·.1)).Nodup->(x,k)∈l->l.lookup x=some k
 | [],_,_,_,h=>by cases h
 | (y,j) :: r,x,k,nd,h=>by
  rw [List.map_cons,List.nodup_cons] at nd
  rw [List.lookup_cons]
  rcases List.mem_cons.mp h with e | h
  ·cases e
   rw [beq_self_eq_true]
  ·have ne:(x == y)=false:=by
    cases q:x == y with
    | false=>rfl
    | true=>exact absurd (by rw [<- eq_of_beq q]; exact List.mem_map.mpr ⟨(x,k),h,rfl⟩) nd.1
   simp only [ne]
   exact wp nd.2 h
theorem Zx {M:Model} {A:Around} {E:Value->Shared->Prop} {s:Shared} {scope:Scope} {globals:Addr} {closure:List (Str × Addr)} {qual:Str} {func:Option Addr} {code:Value} {env:Env} {builtins:Addr} {Q:Env->Shared->Prop}
  (h:Q (newEnv scope s.heap.objs.size globals (cellsFrom (s.heap.objs.size + 1) scope.names closure) qual func code (some env) builtins) { s with heap:=pushCells (s.heap.push { cls:=.type "dict",data:=.dict #[] }) scope.names }) :
  wpAny M A (newFunctionEnv scope globals closure [] qual func code (some env) builtins) Q E s:=by
 simp only [newFunctionEnv,Option.isSome_some,if_true]
 refine wpAny_bind (wpAny_alloc ?_)
 refine wpAny_bind (wpAny_layCells _ (λname kind cells=>by cases hkc:kind == NameKind.cell <;> simp [hkc]) _ _ _ _ ?_)
 rw [show ({ s with heap:=s.heap.push { cls:=.type "dict",data:=.dict #[] } }:Shared).heap.objs.size=s.heap.objs.size + 1 from Heap.size_push ..]
 simp only [List.forIn_nil]
 exact wpAny_bind (wpAny_pure (wpAny_pure h))
noncomputable abbrev yd (X:Cx) (scope:Scope) (N:List Str) (C:Addr) (s₀:Shared) (H₀:Hp) (ex:List Addr):Cx:=
 { X with N:=N,s₀:=s₀,H₀:=H₀,env:=compEnvC scope (cellsFrom (C + 1) scope.names (yT scope X.env)) C X.env,outer:=X.stack,ex:=ex,fn:=λx=>scope.names.lookup x == some .cell,pn:=[],xe:=λ_ _=>False }
structure wO (X:Cx) (scope:Scope) (own:List Str) (caps:List (Nat × Str)):Prop where
 kind:scope.kind=.function
 nod:(scope.names.map (·.1)).Nodup
 locs:∀ y∈scope.names,y.2=.local->scope.names.lookup y.1=some .local
 free:∀ y∈scope.names,y.2=.free->(X.env.cells.lookup y.1).isSome=true
 caps:∀ p∈caps,X.N[p.1]? = some p.2/\scope.names.lookup p.2=some .free/\(X.env.kindOf p.2=some .cell\/X.env.kindOf p.2=some .free)
section
variable {X:Cx} {scope:Scope} {own:List Str} {caps:List (Nat × Str)} {pins:List (Addr × Obj)} {σ:St} {H:Hp} {s s4:Shared} {C D:Addr} {fp:List Addr}
theorem uy (B:wO X scope own caps) {x:Str} {c n:Nat} (e:(cellsFrom n scope.names (yT scope X.env)).lookup x=some c):((x,NameKind.cell)∈scope.names/\n<=c)\/X.env.cells.lookup x=some c:=
 (ux _ _ _ e).imp id λz=>(yl B.free z).1
theorem gv (I:zB X pins σ H s) {x:Str} {c:Addr} (e:X.env.cells.lookup x=some c):c < s.heap.objs.size:=by
 obtain ⟨v,o,ho,_⟩:=I.cell x c e
 exact Heap.lt_size ho
theorem Zy (B:wO X scope own caps) (I:zB X pins σ H s) (hf:∀ b∈fp,zf X pins H b) (hC:s.heap.objs.size<=C) (hlt:∀ b∈fp,b < s.heap.objs.size):(yd X scope (zM own caps) C s H fp).Ok where
 mod:=I.ok.mod
 kind:=B.kind
 glob:=I.ok.glob
 blt:=I.ok.blt
 above:=hC
 inj:=qA _ _ _ (λx c e=>Nat.lt_of_lt_of_le (gv I (yl B.free e).1) (Nat.le_succ_of_le hC)) λx y c h1 h2=>I.ok.inj x y c (yl B.free h1).1 (yl B.free h2).1
 has:=λx h=>by
  have fr:(x,NameKind.free)∈scope.names->∃ c,(cellsFrom (C + 1) scope.names (yT scope X.env)).lookup x=some c:=λz=>by
   obtain ⟨c,e⟩:=v5 (env:=X.env) z
   exact Option.isSome_iff_exists.mp (PySem.W.cellsFrom_some _ _ _ (.inr (by rw [e]; rfl)))
  have ce:(x,NameKind.cell)∈scope.names->∃ c,(cellsFrom (C + 1) scope.names (yT scope X.env)).lookup x=some c:=λz=>
   Option.isSome_iff_exists.mp (PySem.W.cellsFrom_some _ _ _ (.inl (wp B.nod z)))
  rcases h with h | h
  ·rcases ga (show (relabel scope X.env).names.lookup x=some .cell from h) with ⟨_,z | z⟩ | z
   ·exact fr z
   ·exact ce z
   ·exact ce z
  ·rcases ga (show (relabel scope X.env).names.lookup x=some .free from h) with ⟨z,_⟩ | z
   ·cases z
   ·exact fr z
 cab:=λx c h e=>by
  have hx:scope.names.lookup x=some .cell:=eq_of_beq h
  rcases ux _ _ _ e with ⟨_,z⟩ | z
  ·exact Nat.le_trans hC (Nat.le_of_succ_le z)
  ·have:=wp B.nod (yl B.free z).2
   rw [hx] at this
   cases this
 hd:=I.ok.hd
 frames:=I.ok.frames
 stk:=.inl rfl
 exf:=λb hb=>⟨λe=>by have:=hlt b hb; rw [e] at this; exact absurd (Nat.lt_of_lt_of_le this hC) (Nat.lt_irrefl _),λx c e=>by
  rcases uy B e with ⟨_,z⟩ | z
  ·exact uA (hlt b hb) hC z
  ·exact (hf b hb).2.2.2.2.1 x c z⟩
 bs:=I.bs
 bsz:=Nat.le_trans I.ok.bsz I.sz
 noex:=λb o e hb=>by
  rcases (hf b hb).2.2.2.1 with z | z
  ·exact I.ok.noex b o e z
  ·exact absurd (Nat.lt_of_lt_of_le (Heap.lt_size e) (Nat.le_trans I.ok.bsz z)) (Nat.lt_irrefl _)
 exfs:=λb hb z=>by
  rcases List.mem_cons.mp (I.stkSub b z) with e | z
  ·exact (hf b hb).2.1 e
  ·exact (hf b hb).2.2.1 z
 funs:=I.stack
 frf:=I.stkFree
theorem Zz (B:wO X scope own caps) (I:zB X pins σ H s) (hf:∀ b∈fp,zf X pins H b) (hC:s.heap.objs.size<=C) (hlt:∀ b∈fp,b < s.heap.objs.size)
  {m:Str->Option Value} (hn:s4.heap.Ns C m) (hk:∀ b o,s.heap.get? b=some o->s4.heap.get? b=some o) (hcell:∀ x c,(cellsFrom (C + 1) scope.names (yT scope X.env)).lookup x=some c->(yT scope X.env).lookup x=some c\/s4.heap.IsCell c none) (ho:s4.os=s.os) (hb:AllBare s4.gens) :
  zB (yd X scope (zM own caps) C s H fp) [] (ym own caps σ) H s4 where
 ok:=Zy B I hf hC hlt
 os:=ho
 bare:=hb
 base:=Un.kept hk
 loc:=⟨m,hn,λi x v h1 h2 h3=>by
  obtain ⟨j,hm,hs⟩:=ge h1 h2
  obtain ⟨c1,c2,c3⟩:=B.caps _ hm
  obtain ⟨m',_,hl⟩:=I.loc
  have vis:vY X.env.scope x:=c3.elim (λz=>.inr (.inl z)) λz=>.inr (.inr z)
  obtain ⟨u,r,l⟩:=hl j x v c1 hs vis
  refine ⟨u,r,.inr ?_⟩
  have hm2:(x,NameKind.free)∈scope.names:=xq c2
  obtain ⟨c',hc'⟩:=v5 (env:=X.env) hm2
  have hc2:=(yl B.free hc').1
  have noc:(x,NameKind.cell)∉scope.names:=λz=>by
   have:=wp B.nod z
   rw [c2] at this
   cases this
  refine ⟨?_,c',(j9 _ _ _ noc).trans hc',?_⟩
  ·show (relabel scope X.env).names.lookup x=some .cell\/(relabel scope X.env).names.lookup x=some .free
   rw [uq,c2,Option.map_some]
   split
   ·exact .inl rfl
   ·exact .inr rfl
  ·rcases l with ⟨k,_⟩ | ⟨_,c,e,z⟩
   ·rcases c3 with c3 | c3 <;> rw [c3] at k <;> cases k
   ·rw [hc2] at e
    cases e
    obtain ⟨o,e1,e2⟩:=z
    exact ⟨o,hk _ o e1,e2⟩⟩
 cell:=λx c e=>by
  rcases hcell x c e with z | z
  ·obtain ⟨v,o,e1,e2⟩:=I.cell x c (yl B.free z).1
   exact ⟨v,o,hk _ o e1,e2⟩
  ·exact ⟨none,z⟩
 free:=I.hok.fresh hC
 freeC:=λx c e=>by
  rcases uy B e with ⟨_,z⟩ | z
  ·exact I.hok.fresh (Nat.le_trans hC (Nat.le_of_succ_le z))
  ·exact I.freeC x c z
 pin:=λp hp=>by simp at hp
 hok:=I.hok.kept hk
 len:=by
  show (ym own caps σ).length=(zM own caps).length
  unfold ym zM
  simp
end
section
variable {X:Cx} {scope:Scope} {own:List Str} {caps:List (Nat × Str)} {elt tg iter cond:Expr} {wi:TI} {g:TG} {tc:TT} {te:TE} {pos:Pos}
theorem Z0 {pins:List (Addr × Obj)} {σ:St} {H2:Hp} {s2:Shared} {it:Addr} {fp:List Addr} {tn:Nat->Heap->Prop} {J:It} {W:Nat->Nat->List V->St->Hp->Prop} {m0:Nat} {Q:VK} {E:Value->Shared->Prop} {RR:Value->Addr->Result->Shared->Prop}
  (B:wO X scope own caps) (hc:X.calm=true) (hg:∀ C s₀ H₀ ex,PG (yd X scope (zM own caps) C s₀ H₀ ex) tg g) (he:∀ C s₀ H₀ ex,PE (yd X scope (zM own caps) C s₀ H₀ ex) elt te)
  (I2:zB X pins σ H2 s2) (T:yf X.prog X.w X.K tg J fp it tn) (st2:tn 0 s2.heap) (f2:∀ b∈fp,zf X pins H2 b) (w0:W 0 m0 [] (ym own caps σ) H2)
  (turn:∀ i m ys σ1 H,W i m ys σ1 H->(J.stop i H/\∀ p,H p=none->Q (.ref p) (upd H p (.lst ys)))∨
   (J.go i H/\ys.length < sizeLine/\∃ N:V->St->Hp->Prop,(∀ y σ' H',N y σ' H'->∃ m',m' < m/\W (i + 1) m' (ys++[y]) σ' H')/\∀ x H',J.yld i H x H'->g x σ1 H' λσ2 H2=>te σ2 H2 λy H3=>N y σ2 H3))
  (hRR:∀ D C s6 H6 ys m,s6.heap.Ns C m->s2.heap.objs.size<=C->(∀ h',Heap.SameBut C s6.heap h'->zB X pins σ (upd H6 D (.lst ys)) { s6 with heap:=h' })->upd H6 D (.lst ys) C=none->Q (.ref D) (upd H6 D (.lst ys))->RR (.ref D) C (.ok .next) s6) :
  wpAny (model X.prog X.w) X.A (newList []) (λacc s3=>wpAny (model X.prog X.w) X.A (newFunctionEnv scope X.env.globals (yT scope X.env) [] X.env.qual none .none (some X.env)) (λcenv s4=>
   codeAny (model X.prog X.w) X.A (.compStart (.ListComp elt [⟨tg,iter,[],0⟩] scope pos) 0 (.ref it) acc { cenv with scope:=relabel scope X.env }) (RR acc cenv.locals) s4) E s3) E s2:=by
 have hlt:∀ b∈fp,b < s2.heap.objs.size:=λb hb=>by
  obtain ⟨o,ho,_⟩:=T.obj _ _ st2 b hb
  exact Heap.lt_size ho
 refine wpAny_newObj_type (Zx ?_)
 dsimp only
 generalize hP:s2.heap.push { cls:=.type "list",dict:=none,data:=.seq ([]:List Value).toArray }=HD
 have hns:(pushCells (HD.push { cls:=.type "dict",data:=.dict #[] }) scope.names).Ns HD.objs.size (λ_=>none):=(Heap.Ns.new HD (.type "dict")).keeps (pushCells_keeps _ _)
 have hkp:∀ b o,HD.get? b=some o->(pushCells (HD.push { cls:=.type "dict",data:=.dict #[] }) scope.names).get? b=some o:=λb o e=>pushCells_keeps _ _ b o (Heap.get?_push_of_some _ e)
 have hcell:∀ x c,(cellsFrom (HD.objs.size + 1) scope.names (yT scope X.env)).lookup x=some c->(yT scope X.env).lookup x=some c\/(pushCells (HD.push { cls:=.type "dict",data:=.dict #[] }) scope.names).IsCell c none:=λx c e=>
  qB _ _ _ (by rw [Heap.size_push]; exact e)
 generalize hP4:pushCells (HD.push { cls:=.type "dict",data:=.dict #[] }) scope.names=h4 at hns hkp hcell |-
 have hCD:HD.objs.size=s2.heap.objs.size + 1:=by rw [<- hP,Heap.size_push]
 have hDC:s2.heap.objs.size≠HD.objs.size:=by omega
 have hle:s2.heap.objs.size<=HD.objs.size:=by omega
 have old:∀ b o,s2.heap.get? b=some o->h4.get? b=some o:=λb o eb=>hkp b o (by rw [<- hP]; exact Heap.get?_push_of_some _ eb)
 have hD4:h4.get? s2.heap.objs.size=some { cls:=.type "list",data:=.seq ([]:List Value).toArray 0 }:=hkp _ _ (by rw [<- hP]; exact Heap.get?_push_size _ rfl)
 have IY:zB (yd X scope (zM own caps) HD.objs.size s2 H2 fp) [] (ym own caps σ) H2 { s2 with heap:=h4 }:=
  Zz B I2 f2 (by omega) hlt hns old hcell rfl I2.bare
 have stat:∀ {H':Hp},(∀ b∈fp,H' b=none)->∀ b∈fp,zf (yd X scope (zM own caps) HD.objs.size s2 H2 fp) [] H' b:=λ{H'} hn b hb=>by
  have hb2:=hlt b hb
  refine ⟨hn b hb,?_,λz=>?_,.inl hb,λx c ec=>(match uy B ec with | .inl z=>uA hb2 hle z.2 | .inr z=>(f2 b hb).2.2.2.2.1 x c z),λp hp=>by simp at hp⟩
  ·exact Nat.ne_of_lt (Nat.lt_of_lt_of_le hb2 hle)
  ·rcases List.mem_cons.mp (I2.stkSub b z) with e | z
   ·exact (f2 b hb).2.1 e
   ·exact (f2 b hb).2.2.1 z
 have statD:∀ {H':Hp},H' s2.heap.objs.size=none->zf (yd X scope (zM own caps) HD.objs.size s2 H2 fp) [] H' s2.heap.objs.size:=λ{H'} hn=>by
  refine ⟨hn,hDC,λz=>?_,.inr (Nat.le_refl _),λx c ec z=>?_,λp hp=>by simp at hp⟩
  ·obtain ⟨_,o,ho,_⟩:=I2.stack.mem z
   exact absurd (Heap.lt_size ho) (Nat.lt_irrefl _)
  ·rcases uy B ec with ⟨_,y⟩ | y
   ·exact j8 hCD y z
   ·have:=gv I2 y
    rw [z] at this
    exact Nat.lt_irrefl _ this
 have neD:∀ b∈fp,b≠s2.heap.objs.size:=λb hb=>Nat.ne_of_lt (hlt b hb)
 have IY':zB (yd X scope (zM own caps) HD.objs.size s2 H2 fp) [(s2.heap.objs.size,zh [] 0)] (ym own caps σ) H2 { s2 with heap:=h4 }:=
  IY.pins_of λp hp=>by
   rw [List.mem_singleton.mp hp]
   have z:=statD (I2.hok.fresh (Nat.le_refl _))
   exact ⟨hD4,z.1,z.2.1,z.2.2.1,λv z=>by cases z⟩
 have loop:∀ s3:Shared,s3={ s2 with heap:=h4 }->
   codeAny (model X.prog X.w) X.A (.compLoop (.ListComp elt [⟨tg,iter,[],0⟩] scope pos) 0 (.ref it) (.ref s2.heap.objs.size) (compEnvC scope (cellsFrom (HD.objs.size + 1) scope.names (yT scope X.env)) HD.objs.size X.env))
    (RR (.ref s2.heap.objs.size) HD.objs.size) s3:=by
  rintro s3 rfl
  refine gb (λn s'=>∃ i ys σ' H' its k,zB (yd X scope (zM own caps) HD.objs.size s2 H2 fp) [(s2.heap.objs.size,zh its k)] σ' H' s'/\tn i s'.heap/\(∀ b∈fp,H' b=none)∧
   zF ys its/\ys.length<=sizeLine/\W i n ys σ' H') ?_ m0 ⟨0,[],_,H2,[],0,IY',T.keep _ _ _ st2 λb hb o eb=>old b o eb,λb hb=>(f2 b hb).1,.nil,Nat.zero_le _,w0⟩
  rintro n s5 ⟨i,ys,σ5,H5,its,k,I5,st5,fr5,rv5,hz5,w5⟩
  have stat5:∀ {H':Hp},(∀ b∈fp,H' b=none)->∀ b∈fp,zf (yd X scope (zM own caps) HD.objs.size s2 H2 fp) [(s2.heap.objs.size,zh its k)] H' b:=λ{H'} hn b hb=>by
   obtain ⟨a1,a2,a3,a4,a5,_⟩:=stat hn b hb
   refine ⟨a1,a2,a3,a4,a5,λp hp=>?_⟩
   have hp':p∈[(s2.heap.objs.size,zh its k)]:=hp
   rw [List.mem_singleton.mp hp']
   exact Ne.symm (neD b hb)
  rcases turn i n ys σ5 H5 w5 with ⟨stop,qn⟩ | ⟨go,hlen,N,hN,step⟩
  ·refine zS (T.done (yd X scope (zM own caps) HD.objs.size s2 H2 fp) rfl rfl rfl hc i _ s5 σ5 H5 _ I5 (stat5 fr5) st5 stop) λr s6 ⟨hr,I6⟩=>?_
   subst hr
   obtain ⟨pD1,pD2,_⟩:=I6.pin (s2.heap.objs.size,zh its k) (List.mem_append_right _ List.mem_cons_self)
   obtain ⟨m6,hn6,_⟩:=I6.loc
   refine hRR _ _ s6 H5 ys m6 hn6 (by omega) (λh' sb=>?_) (by rw [zk (Ne.symm hDC)]; exact I6.free) (qn _ pD2)
   have hC5:H5 HD.objs.size=none:=I6.free
   have nb:∀ b o,s2.heap.get? b=some o->b≠HD.objs.size/\b≠s2.heap.objs.size:=λb o eb=>by
    have hb:=Heap.lt_size eb
    exact ⟨Nat.ne_of_lt (Nat.lt_of_lt_of_le hb hle),Nat.ne_of_lt hb⟩
   have nt:∀ b o,H5 b=some o->b≠s2.heap.objs.size:=λb o eb z=>by rw [z] at eb; rw [show H5 s2.heap.objs.size=none from pD2] at eb; cases eb
   have un:Un (y8 X.stack) fp H2 (upd H5 s2.heap.objs.size (.lst ys)) s2.heap h':=
    ⟨λb o eb n1 n2 n3=>sb.extBut b o (nb b o eb).1 (I6.base.keep b o eb n1 n2 n3),
     λb o eb n1 n2 n3=>by
      obtain ⟨sl,e1⟩:=I6.base.slot b o eb n1 n2 n3
      exact ⟨sl,sb.extBut b _ (nb b o eb).1 e1⟩,
     λb o eb n1 n3=>by
      rw [zk (nb b o eb).2]
      exact I6.base.free b o eb n1 n3,
     λb o eb n3=>by
      obtain ⟨o',e1⟩:=I6.base.there b o eb n3
      exact ⟨o',sb.extBut b _ (nb b o eb).1 e1⟩,
     λb xs eb=>by
      have e1:=I6.base.tups b xs eb
      rw [zk (nt b _ e1)]
      exact e1,
     λb o u eb=>by
      have e1:=I6.base.frzs b o u eb
      rw [zk (nt b _ e1)]
      exact e1,
     λb ps eb=>by
      obtain ⟨more,e1⟩:=I6.base.tbls b ps eb
      refine ⟨more,?_⟩
      rw [zk (nt b _ e1)]
      exact e1⟩
   have ok5:yD X.prog X.w (upd H5 s2.heap.objs.size (.lst ys)) h':=λb u eb=>by
    by_cases hb:b=s2.heap.objs.size
    ·subst hb
     rw [zP] at eb
     cases eb
     exact ⟨hz5,its,k,rv5,sb.extBut _ _ hDC pD1⟩
    ·rw [zk hb] at eb
     refine (I6.hok b u eb).stay (λc v hcv ev=>sb.extBut c v ?_ ev) (λc ec=>by rw [zk (nt c _ ec)]; exact ec) λc xs ec=>by rw [zk (nt c _ ec)]; exact ec
     rintro rfl
     rcases hcv with z | z
     ·rw [<- z,hC5] at eb
      cases eb
     ·rw [hC5] at z
      cases z
   exact I2.call' (s':={ s6 with heap:=h' }) (ch:=fp) I6.os un ok5 I6.bare λb hb=>⟨(f2 b hb).2.2.2.1,(f2 b hb).2.1,(f2 b hb).2.2.2.2.1,(f2 b hb).2.2.2.2.2⟩
  ·refine zS (T.item (yd X scope (zM own caps) HD.objs.size s2 H2 fp) rfl rfl rfl hc i _ s5 σ5 H5 _ I5 (stat5 fr5) st5 go) λr s6 ⟨u,hr,h6⟩=>?_
   subst hr
   refine zS h6 λ_ s7 ⟨x,H7,I7,r7,y7,st7,fr7⟩=>?_
   have I7':=I7.pinned (stat5 fr7) (T.obj _ _ st7)
   refine zS (hg HD.objs.size s2 H2 fp _ s7 σ5 H7 x u _ I7' r7 (step x H7 y7)) λ_ s8 ⟨σ8,H8,I8,q8⟩=>?_
   refine zS (he HD.objs.size s2 H2 fp _ s8 σ8 H8 _ I8 q8) λyv s9 ⟨y,H9,I9,r9,n9⟩=>?_
   obtain ⟨m',hm',w9⟩:=hN y σ8 H9 n9
   have pD9:=(I9.pin (s2.heap.objs.size,zh its k) (List.mem_append_right _ (List.mem_append_left _ List.mem_cons_self))).2.1
   have hl:its.length=ys.length:=rv5.length.symm
   refine gf (Y:=yd X scope (zM own caps) HD.objs.size s2 H2 fp) (its:=its) (k:=k) (pl:=wk fp s7.heap) I9 (statD pD9) rfl (by omega) λh' k' tk keep I'=>?_
   refine ⟨m',hm',i + 1,ys++[y],σ8,H9,its++[yv],k',I',?_,λb hb=>?_,rv5.append (.cons r9 .nil),?_,w9⟩
   ·refine T.keep _ _ _ st7 λb hb o eb=>keep b o (neD b hb) ?_
    exact (I9.pin (b,o) (List.mem_append_right _ (List.mem_append_right _ (wl hb eb)))).1
   ·obtain ⟨o,eb,_⟩:=T.obj _ _ st7 b hb
    exact (I9.pin (b,o) (List.mem_append_right _ (List.mem_append_right _ (wl hb eb)))).2.1
   ·rw [List.length_append,List.length_singleton]
    omega
 exact codeAny_compStart_list (loop _ rfl) (T.self _ 0 _ _ _ (T.keep _ _ _ st2 λb hb o eb=>old b o eb) (loop _ rfl))
theorem gw (B:wO X scope own caps) (hc:X.calm=true) (hi:PI X tg iter wi) (hg:∀ C s₀ H₀ ex,PG (yd X scope (zM own caps) C s₀ H₀ ex) tg g)
  (he:∀ C s₀ H₀ ex,PE (yd X scope (zM own caps) C s₀ H₀ ex) elt te) (hs:∀ x,foldedSetIterable iter X.env x=pure x:=by intro _; rfl) :
  PE X (.ListComp elt [⟨tg,iter,[],0⟩] scope pos) (j7 own caps wi g te):=by
 intro pins s σ H Q I h
 rw [eval_ListComp]
 refine wpAny_comprehension_free (use:=none) rfl hs (j3 B.free) B.kind B.locs ?_
 refine zS (hi pins s σ H _ I h) λxv s1 h1=>zS h1 λitv s2 h2=>?_
 obtain ⟨it,fp,tn,J,H2,e,I2,T,st2,f2,W,⟨m0,w0⟩,turn⟩:=h2
 subst e
 refine Z0 (RR:=λacc C=>compPost (model X.prog X.w) X.A X.xe none (EP X pins σ Q) acc C) B hc hg he I2 T st2 f2 w0 turn λD C s6 H6 ys m hn hC J6 hC6 q=>?_
 exact ⟨m,hn,λh' sb=>⟨.ref D,_,J6 h' sb,rfl,q⟩⟩
end
theorem Z1 {X:Cx} {scope S:Scope} {own N:List Str} {caps:List (Nat × Str)} (k:scope.kind=.function) (nd:(scope.names.map (·.1)).Nodup)
  (hS:X.env.scope=S) (hc:∃ n,X.env.cells=cellsFrom n S.names []) (hN:X.N=N) (fr:scope.names.all (λy=>y.2 != .free || S.names.lookup y.1 == some .cell)=true)
  (cp:caps.all (λp=>N[p.1]? == some p.2 && scope.names.lookup p.2 == some .free && S.names.lookup p.2 == some .cell)=true):wO X scope own caps:=by
 obtain ⟨nn,hc⟩:=hc
 refine ⟨k,nd,λy hy e=>?_,λy hy e=>?_,λp hp=>?_⟩
 ·exact wp nd (by rw [<- e]; exact hy)
 ·have q:=List.all_eq_true.mp fr y hy
  rw [e] at q
  have q2:S.names.lookup y.1=some .cell:=by simpa using q
  rw [hc]
  exact PySem.W.cellsFrom_some S.names nn [] (.inl q2)
 ·have q:=List.all_eq_true.mp cp p hp
  simp only [Bool.and_eq_true,beq_iff_eq] at q
  refine ⟨by rw [hN]; exact q.1.1,q.1.2,.inl ?_⟩
  show X.env.scope.names.lookup p.2=some .cell
  rw [hS]
  exact q.2
theorem Z2 {Y:Cx} {scope S:Scope} {own own0:List Str} {caps caps0:List (Nat × Str)} {C:Addr} {s₀:Shared} {H₀:Hp} {ex:List Addr} (k:scope.kind=.function) (nd:(scope.names.map (·.1)).Nodup)
  (ndS:(S.names.map (·.1)).Nodup) (fr:scope.names.all (λy=>y.2 != .free || S.names.lookup y.1 == some .cell || S.names.lookup y.1 == some .free)=true)
  (cp:caps.all (λp=>(zM own0 caps0)[p.1]? == some p.2 && scope.names.lookup p.2 == some .free)=true):wO (yd Y S (zM own0 caps0) C s₀ H₀ ex) scope own caps:=by
 have fr':∀ y∈scope.names,y.2=.free->S.names.lookup y.1=some .cell\/S.names.lookup y.1=some .free:=λy hy e=>by
  have q:=List.all_eq_true.mp fr y hy
  rw [e] at q
  simpa using q
 refine ⟨k,nd,λy hy e=>?_,λy hy e=>?_,λp hp=>?_⟩
 ·exact wp nd (by rw [<- e]; exact hy)
 ·show ((cellsFrom (C + 1) S.names (yT S Y.env)).lookup y.1).isSome=true
  refine PySem.W.cellsFrom_some _ _ _ ?_
  rcases fr' y hy e with z | z
  ·exact .inl z
  ·obtain ⟨c,e⟩:=v5 (env:=Y.env) (xq z)
   exact .inr (by rw [e]; rfl)
 ·have q:=List.all_eq_true.mp cp p hp
  simp only [Bool.and_eq_true,beq_iff_eq] at q
  refine ⟨q.1,q.2,?_⟩
  show (relabel S Y.env).names.lookup p.2=some .cell\/(relabel S Y.env).names.lookup p.2=some .free
  rw [uq]
  rcases fr' _ (xq q.2) rfl with z | z
  ·left
   show (S.names.lookup p.2).map _=_
   rw [z]
   rfl
  ·show (S.names.lookup p.2).map _=_\/(S.names.lookup p.2).map _=_
   rw [z,Option.map_some]
   split
   ·exact .inl rfl
   ·exact .inr rfl
end L2
namespace Sh
open PySem L2
noncomputable def yZ (ns:List Int) (k:Int):Int:=(ns[k.toNat]?).getD 0
inductive wq (K:PySem.W.Frag) (vs:List V) (H:Hp) (Q:VK) (E:XK):Prop
 | mk (a:Addr) (ns:List Int) (k:Int) (_:vs=[.ref a,.int k]) (_:zE K H a (ns.map V.int)) (_:0<=k) (_:Q (.int (yZ ns k)) H):wq K vs H Q E
theorem zR {H:Hp} {p:Addr} (h:H p=none) (o:HO):zC H (upd H p o):=λb u q=>by rw [zk (x6 q h)]; exact q
theorem wP {x y:V}:yy [x,y] 0=some x:=rfl
theorem xb {x y:V}:yy [x,y] 1=some y:=rfl
noncomputable def Tp (H:Hp) (v:V) (xs:List V):Prop:=∃ a,v=.ref a/\H a=some (.tup xs)
theorem Tp.same {H H':Hp} {v:V} {xs:List V} (s:zC H H') (h:Tp H v xs):Tp H' v xs:=let ⟨r,e,q⟩:=h; ⟨r,e,s _ _ q⟩
theorem Tp.upd {H:Hp} {v:V} {xs:List V} {l:Addr} {o o':HO} (hl:H l=some o) (n:∀ ys,o≠.tup ys) (h:Tp H v xs):Tp (upd H l o') v xs:=by
 obtain ⟨r,e,q⟩:=h
 exact ⟨r,e,by rw [zk (qt q hl λz=>n _ z.symm)]; exact q⟩
theorem xC {α β:Type} {R:α->β->Prop}:∀ {xs:List α} {ys:List β} {i:Nat} {x:α},Paired R xs ys->xs[i]? = some x->∃ y,ys[i]? = some y/\R x y
 | _,_,_,_,.nil,e=>by simp at e
 | _,_,0,_,.cons r _,e=>by simp at e; subst e; exact ⟨_,rfl,r⟩
 | _,_,i + 1,x,.cons _ t,e=>by
  obtain ⟨y,h1,h2⟩:=xC (i:=i) (x:=x) t (by simpa using e)
  exact ⟨y,by simpa using h1,h2⟩
theorem uB {H H':Hp} {g:Addr} {o:HO} (h:zC H H') (hg:H g=none):zC H (upd H' g o):=λb u e=>by
 rw [zk (x6 e hg)]
 exact h b u e
noncomputable abbrev yA (H:Hp) (vs:List V) (ks:List (List Int)):Prop:=Paired (λv (k:List Int)=>Tp H v (k.map V.int)) vs ks
theorem yA.same {H H':Hp} {vs:List V} {ks:List (List Int)} (s:zC H H') (h:yA H vs ks):yA H' vs ks:=Paired.mapP h λ_ _ z=>Tp.same s z
theorem yA.upd {H:Hp} {vs:List V} {ks:List (List Int)} {l:Addr} {o o':HO} (hl:H l=some o) (n:∀ ys,o≠.tup ys) (h:yA H vs ks):yA (upd H l o') vs ks:=Paired.mapP h λ_ _ z=>Tp.upd hl n z
theorem gx {K:PySem.W.Frag} {H:Hp}:∀ ws:List Int,y2 K H (ws.map V.int) (ws.map PyData.int)
 | []=>.nil
 | w :: r=>.cons (.int w) (gx r)
theorem gy:∀ ws:List Int,PyData.canLayAll0 (ws.map PyData.int)=true
 | []=>rfl
 | w :: r=>by
  show (PyData.canLay0 (.int w) && PyData.canLayAll0 (r.map PyData.int))=true
  rw [gy r]
  rfl
theorem gz:∀ ws:List Int,PyData.depthAll (ws.map PyData.int)=0
 | []=>rfl
 | w :: r=>by
  show max 0 (PyData.depthAll (r.map PyData.int))=0
  rw [gz r]
  rfl
theorem uz (K:PySem.W.Frag):PySem.W.kitOne K (.type "list") (.type "list")=some true:=by first | rfl | decide +kernel | (unfold PySem.W.kitOne; rw [if_pos (by decide +kernel)])
inductive wr (K:PySem.W.Frag) (vs:List V) (H:Hp) (Q:VK) (E:XK):Prop
 | mk (a:Addr) (ns:List Int) (_:vs=[.ref a]) (_:zE K H a (ns.map V.int)) (_:ns.length<=63) (_:∀ H',Q (.bl true) H'):wr K vs H Q E
inductive uC (vs:List V) (H:Hp) (Q:VK) (E:XK):Prop
 | mk (c m:Int) (_:vs=[.int c,.int m]) (_:0<=m) (_:m<=100) (_:∀ (r:Addr) (H':Hp) (xs:List Int),zC H H'->H r=none->H' r=some (.lst (xs.map V.int))->xs.length=m.toNat->(∀ x∈xs,0<=x/\x < 10 ^ 45)->Q (.ref r) H'):uC vs H Q E
theorem Z3 {xs:List Int} {j:Nat} (h:j < xs.length):yy (xs.map V.int) (j:Int)=some (.int (xs[j]'h)):=ul (by rw [List.getElem?_map,List.getElem?_eq_getElem h]; rfl)
theorem g3 {xs:List Int} {i:Nat} {x:V} (h:(xs.map V.int)[i]? = some x):∃ z,xs[i]? = some z/\x=V.int z:=by
 rw [List.getElem?_map] at h
 cases e:xs[i]? with
 | none=>rw [e] at h; cases h
 | some z=>rw [e] at h; exact ⟨z,rfl,(Option.some.inj h).symm⟩
end Sh
namespace L2
open PySem PySem.Spec PyProof.Rows
section
variable {X:Cx} {es:List Expr} {kk:Nat} {tp:Pos}
end
end L2
namespace L2
open PySem PySem.Spec PyProof.Rows
section
variable {X:Cx}
end
end L2
namespace Sh
open PySem L2
noncomputable def wQ (H:Hp) (v:V) (p:Int × Int):Prop:=∃ r,v=.ref r/\H r=some (.tup [.int p.1,.int p.2])
noncomputable abbrev zx (H:Hp) (vs:List V) (pts:List (Int × Int)):Prop:=Paired (wQ H) vs pts
theorem wQ.same {H H':Hp} {v:V} {p:Int × Int} (s:zC H H') (h:wQ H v p):wQ H' v p:=let ⟨r,e,q⟩:=h; ⟨r,e,s _ _ q⟩
theorem zx.same {H H':Hp} {vs:List V} {pts:List (Int × Int)} (s:zC H H') (h:zx H vs pts):zx H' vs pts:=Paired.mapP h λ_ _ z=>z.same s
theorem wQ.upd {H:Hp} {v:V} {p:Int × Int} {l:Addr} {xs:List V} {o:HO} (hl:H l=some (.lst xs)) (h:wQ H v p):wQ (upd H l o) v p:=by
 obtain ⟨r,e,q⟩:=h
 exact ⟨r,e,by rw [zk (qt q hl (by intro z; cases z))]; exact q⟩
theorem zx.upd {H:Hp} {vs:List V} {pts:List (Int × Int)} {l:Addr} {xs:List V} {o:HO} (hl:H l=some (.lst xs)) (h:zx H vs pts):zx (upd H l o) vs pts:=Paired.mapP h λ_ _ z=>z.upd hl
structure qC (ws:List Int) (n:Nat):Prop where
 len:ws.length=n
 bd:∀ w∈ws,Bd 1000 w
structure u3 (r:List Int) (n:Nat):Prop where
 len:r.length=n + 1
 bd:∀ x∈r,Bd 1000 x
theorem u3.rw {r:List Int} {n:Nat} (h:u3 r n):qC (r.take n) n:=⟨by rw [List.length_take,h.len]; omega,λw hw=>h.bd w (List.mem_of_mem_take hw)⟩
theorem u3.at {r:List Int} {n j:Nat} (h:u3 r n) (hj:j<=n):r[j]? = some (r.getD j 0)/\Bd 1000 (r.getD j 0):=by
 have e:r[j]? = some (r.getD j 0):=by
  rw [List.getD_eq_getElem?_getD,List.getElem?_eq_getElem (by have:=h.len; omega)]
  rfl
 exact ⟨e,h.bd _ (List.mem_of_getElem? e)⟩
noncomputable def za (r:List Int):PyData:=.tuple (r.map PyData.int)
theorem xv {K:PySem.W.Frag} {H:Hp}:∀ {rv:List V} {rows:List (List Int)},yA H rv rows->y2 K H rv (rows.map za)
 | _,_,.nil=>.nil
 | _,_,.cons ⟨a,e,h⟩ t=>by
  subst e
  exact .cons (.tup (zV.of h) (gx _)) (xv t)
theorem qD:∀ rows:List (List Int),PyData.canLayAll0 (rows.map za)=true
 | []=>rfl
 | r :: t=>by
  show (PyData.canLayAll0 (r.map PyData.int) && PyData.canLayAll0 (t.map za))=true
  rw [gy,qD t]
  rfl
theorem qE:∀ rows:List (List Int),PyData.depthAll (rows.map za)<=1
 | []=>Nat.zero_le _
 | r :: t=>by
  show max (PyData.depthAll (r.map PyData.int) + 1) (PyData.depthAll (t.map za))<=1
  rw [gz]
  have:=qE t
  omega
theorem uD (rows:List (List Int)):(PyData.list (rows.map za)).depth<=60:=by
 show PyData.depthAll (rows.map za) + 1<=60
 have:=qE rows
 omega
theorem uE (rows:List (List Int)):(PyData.list (rows.map za)).canLay0=true:=qD rows
theorem g4 (rows:List (List Int)):(!PyData.eqv (.list (rows.map za)) (.list []))=decide (rows≠[]):=by
 cases rows with
 | nil=>rfl
 | cons r t=>rfl
end Sh
namespace L2
open PySem PySem.Spec PyProof.Rows
section
variable {X:Cx} {es:List Expr} {kk:Nat} {tp:Pos}
end
end L2
namespace Sh
open PySem L2
inductive Kd where
 | int | bool | non | str | lst | tup | dic
 deriving DecidableEq
noncomputable def Kd.nm:Kd->String
 | .int=>"int" | .bool=>"bool" | .non=>"NoneType" | .str=>"str" | .lst=>"list" | .tup=>"tuple" | .dic=>"dict"
noncomputable def Kd.whole:Kd->Bool
 | .int=>true
 | _=>false
noncomputable def Kd.isInt:Kd->Bool
 | .int=>true
 | .bool=>true
 | _=>false
inductive xG (H:Hp):V->Kd->Prop where
 | non:xG H .non .non
 | bl (b:Bool):xG H (.bl b) .bool
 | int (i:Int):xG H (.int i) .int
 | str (x:Str):xG H (.str x) .str
 | lst {a:Addr} {xs:List V} (e:H a=some (.lst xs)):xG H (.ref a) .lst
 | tup {a:Addr} {xs:List V} (e:H a=some (.tup xs)):xG H (.ref a) .tup
 | dic {a:Addr} {kvs:List (zj × V)} (e:H a=some (.dK kvs)):xG H (.ref a) .dic
theorem xG.ty {K:PySem.W.Frag} {H:Hp} {x:V} {k:Kd} (h:xG H x k):zv K H x (.type k.nm):=by
 cases h with
 | non=>exact .non
 | bl b=>exact .bl b
 | int i=>exact .int i
 | str x=>exact .str x
 | lst e=>exact .lst e
 | tup e=>exact .tup e
 | dic e=>exact .dK e
theorem xG.same {H H':Hp} {x:V} {k:Kd} (s:zC H H') (h:xG H x k):xG H' x k:=by
 cases h with
 | non=>exact .non
 | bl b=>exact .bl b
 | int i=>exact .int i
 | str x=>exact .str x
 | lst e=>exact .lst (s _ _ e)
 | tup e=>exact .tup (s _ _ e)
 | dic e=>exact .dic (s _ _ e)
section
variable (K:PySem.W.Frag)
end
end Sh
namespace L2
open PySem PySem.Spec PyProof.Rows
section
variable {X:Cx}
end
end L2
namespace L2
open PySem PySem.Spec PyProof.Rows
structure uF (K:PySem.W.Frag) (mg:Str->Option Value) (x:Str) (C:Addr):Prop where
 cl:uk K C
 mgC:mg x=some (.ref C)
 ha:PySem.W.findIn K (.ref C) "__class__" = some (some (.builtin "object.__class__"))
 hn:PySem.W.specialIn K (.builtin "object.__class__") "__get__" = some (some (.builtin "getset_descriptor.__get__"))
 htk:PySem.W.takesIn K (.builtin "object.__class__")=some true
 hm:PySem.W.mroIn K C (.type "object")=some true
theorem uF.ty {K:PySem.W.Frag} {mg:Str->Option Value} {x:Str} {C a dx:Addr} {H:Hp} {fs:List (Str × V)} (T:uF K mg x C) (e:H a=some (.ins C dx fs)):zv K H (.ref a) (.ref C):=.ins e T.cl T.ha T.hn T.htk T.hm
structure qF (P:Program) (w:World) (K:PySem.W.Frag) (mg:Str->Option Value) (base:Heap) (C:Addr) (m:Str) (ps:List Str) (k:Nat) (sp:Sp):Prop where
 ex:∃ f fd,zG P w K mg base zW k f fd ps sp/\js K C m f/\yx K fd ps []
structure u4 (P:Program) (w:World) (K:PySem.W.Frag) (mg:Str->Option Value) (base:Heap) (C:Addr) (ps:List Str) (k:Nat) (sp:Sp):Prop where
 ex:∃ f fd,zG P w K mg base zW k f fd ps sp/\Mk K C f/\yx K fd ps []
structure xK (P:Program) (w:World) (K:PySem.W.Frag) (mg:Str->Option Value) (base:Heap) (C:Addr) (ps:List Str) (k:Nat) (sp:Sp) (dv:V):Prop where
 ex:∃ f fd d,zG P w K mg base zW k f fd ps sp/\Mk K C f/\yx K fd ps []/\yx K fd ps [d]/\zI dv d
theorem qF.mono {P:Program} {w:World} {K:PySem.W.Frag} {mg:Str->Option Value} {base:Heap} {C:Addr} {m:Str} {ps:List Str} {j k:Nat} {sp:Sp} (F:qF P w K mg base C m ps j sp) (h:j<=k:=by decide):qF P w K mg base C m ps k sp:=by
 obtain ⟨f,fd,a,b,c⟩:=F.ex
 exact ⟨f,fd,a.mono h,b,c⟩
theorem u4.mono {P:Program} {w:World} {K:PySem.W.Frag} {mg:Str->Option Value} {base:Heap} {C:Addr} {ps:List Str} {j k:Nat} {sp:Sp} (F:u4 P w K mg base C ps j sp) (h:j<=k:=by decide):u4 P w K mg base C ps k sp:=by
 obtain ⟨f,fd,a,b,c⟩:=F.ex
 exact ⟨f,fd,a.mono h,b,c⟩
theorem xK.mono {P:Program} {w:World} {K:PySem.W.Frag} {mg:Str->Option Value} {base:Heap} {C:Addr} {ps:List Str} {j k:Nat} {sp:Sp} {dv:V} (F:xK P w K mg base C ps j sp dv) (h:j<=k:=by decide):xK P w K mg base C ps k sp dv:=by
 obtain ⟨f,fd,d,a,b,c⟩:=F.ex
 exact ⟨f,fd,d,a.mono h,b,c⟩
theorem xK.fn {P:Program} {w:World} {K:PySem.W.Frag} {mg:Str->Option Value} {base:Heap} {C:Addr} {ps:List Str} {k:Nat} {sp:Sp} {dv:V} (F:xK P w K mg base C ps k sp dv):u4 P w K mg base C ps k sp:=by
 obtain ⟨f,fd,d,a,b,c,_⟩:=F.ex
 exact ⟨f,fd,a,b,c⟩
section
variable {X:Cx} {C:Addr} {m x:Str} {ps:List Str} {k:Nat} {sp:Sp} {o e:Expr} {es:List Expr} {ta:TE} {t:TA} {p pos apos:Pos} {dv:V}
end
end L2
namespace L2
open PySem PySem.Spec PyProof.Rows
section
variable {X:Cx} {pos:Pos}
theorem Z4 {x:Str} {n:Int} (hg:Gl X x) (h:∃ t,X.mg x=some (.int n t)) (hd:(x == ("__debug__" : Str))=false:=by decide):PE X (.Name x pos) (tC (.int n)):=
 let ⟨t,e⟩:=h
 qx hg e ⟨t,rfl⟩ hd
end
noncomputable def Z5:Sp:=λ_ _ _ _=>False
theorem zG.none {P:Program} {w:World} {K:PySem.W.Frag} {mg:Str->Option Value} {base:Heap} {CX:yi} {k:Nat} {f:Addr} {fd:FuncData} {ps:List Str}:zG P w K mg base CX k f fd ps Z5:=
 ⟨λ_ _ _ _ h=>h.elim,λ_ _ _ _ _ _ _ _ _ _ _ _ _ h=>h.elim⟩
end L2
namespace L2
open PySem PySem.Spec PyProof.Rows PySem.SeqAt
section
variable {X:Cx}
end
end L2
namespace L2
open PySem PySem.Spec PyProof.Rows
open PySem
theorem zC.seqT {K:PySem.W.Frag} {H H':Hp} {a:Addr} {xs:List V} (e:zC H H') (h:zV K H a xs):zV K H' a xs:=by
 rcases h with (h | ⟨o,h⟩) | h
 ·exact .inl (.inl (e _ _ h))
 ·exact .inl (.inr ⟨o,e _ _ h⟩)
 ·exact .inr h
noncomputable def u5 (K:PySem.W.Frag) (H:Hp) (a:Addr) (xs:List V):Prop:=zV K H a xs\/zE K H a xs
theorem u5.same {K:PySem.W.Frag} {H H':Hp} {a:Addr} {xs:List V} (s:zC H H') (h:u5 K H a xs):u5 K H' a xs:=h.imp (λz=>s.seqT z) (λz=>s.seq z)
section
variable {X:Cx} {es:List Expr} {kk:Nat} {tp:Pos}
end
section
variable {prog:Program} {w:World} {A:Around} {E:Value->Shared->Prop}
end
section
variable {X:Cx} {pos:Pos}
end
end L2
namespace L2
open PySem PySem.Spec PyProof.Rows
section
variable {X:Cx}
end
end L2
namespace Sh
open PySem L2
noncomputable def xc (H:Hp) (v:V) (r:List Int):Prop:=∃ a,v=.ref a/\H a=some (.lst (r.map V.int))
noncomputable abbrev ya (H:Hp) (vs:List V) (tab:List (List Int)):Prop:=Paired (xc H) vs tab
theorem xc.same {H H':Hp} {v:V} {r:List Int} (s:zC H H') (h:xc H v r):xc H' v r:=let ⟨a,e,q⟩:=h; ⟨a,e,s _ _ q⟩
theorem ya.same {H H':Hp} {vs:List V} {tab:List (List Int)} (s:zC H H') (h:ya H vs tab):ya H' vs tab:=Paired.mapP h λ_ _ z=>z.same s
noncomputable def u6 (p:Addr) (H H':Hp):Prop:=∀ b o,H b=some o->b≠p->H' b=some o
theorem u6.trans {p:Addr} {H H1 H2:Hp} (a:u6 p H H1) (b:u6 p H1 H2):u6 p H H2:=λc o e n=>b c o (a c o e n) n
noncomputable def uG (H0 H:Hp) (v:V) (r:List Int):Prop:=∃ a,v=.ref a/\H0 a=none/\H a=some (.lst (r.map V.int))
inductive wt (vs:List V) (H:Hp) (Q:VK) (E:XK):Prop
 | mk (i:Int) (_:vs=[.int i]) (_:Q (.bl true) H):wt vs H Q E
structure MD where
 rows:List (List Int)
 nexts:List (List Int)
 steer:List Int
 push:List (List Int)
 add:List Int
 div:Int
structure qG (m:MD) (n p:Nat):Prop where
 rows:∀ r∈m.rows,r.length=n + 1
 few:m.rows.length<=900
 nexts:m.nexts.length=n/\∀ r∈m.nexts,r.length=n
 steer:m.steer.length=n
 push:m.push.length=n/\∀ r∈m.push,r.length=p
 add:m.add.length=n
 div:1<=m.div
 n3:n<=3
 p6:p<=12
noncomputable def uH (r n s p a:V) (d:Int):List (Str × V):=[("rows",r),("nexts",n),("steer",s),("push",p),("add",a),("divisor",.int d)]
structure qH (C:Addr) (H:Hp) (o:Addr) (m:MD) where
 dx:Addr
 r:Addr
 rv:List V
 n:Addr
 nv:List V
 s:Addr
 p:Addr
 pv:List V
 a:Addr
structure qH.Ok {C:Addr} {H:Hp} {o:Addr} {m:MD} (M:qH C H o m):Prop where
 ins:H o=some (.ins C M.dx (uH (.ref M.r) (.ref M.n) (.ref M.s) (.ref M.p) (.ref M.a) m.div))
 hr:H M.r=some (.lst M.rv)
 hrv:yA H M.rv m.rows
 hn:H M.n=some (.lst M.nv)
 hnv:ya H M.nv m.nexts
 hs:H M.s=some (.lst (m.steer.map V.int))
 hp:H M.p=some (.lst M.pv)
 hpv:ya H M.pv m.push
 ha:H M.a=some (.lst (m.add.map V.int))
noncomputable def u7 (C:Addr) (H:Hp) (v:V) (m:MD):Prop:=∃ (o:Addr) (M:qH C H o m),v=.ref o/\M.Ok
theorem u7.same {C:Addr} {H H':Hp} {v:V} {m:MD} (s:zC H H') (h:u7 C H v m):u7 C H' v m:=
 let ⟨o,M,e,k⟩:=h
 ⟨o,⟨M.dx,M.r,M.rv,M.n,M.nv,M.s,M.p,M.pv,M.a⟩,e,⟨s _ _ k.ins,s _ _ k.hr,yA.same s k.hrv,s _ _ k.hn,ya.same s k.hnv,s _ _ k.hs,s _ _ k.hp,ya.same s k.hpv,s _ _ k.ha⟩⟩
noncomputable def u8 (H:Hp) (v:V) (b:Int × Int):Prop:=∃ a,v=.ref a/\H a=some (.tup [.int b.1,.int b.2])
theorem u8.same {H H':Hp} {v:V} {b:Int × Int} (s:zC H H') (h:u8 H v b):u8 H' v b:=let ⟨a,e,q⟩:=h; ⟨a,e,s _ _ q⟩
structure qI (n:Nat) (bs:List (Int × Int)) (ms:List MD):Prop where
 n1:1<=n
 n3:n<=3
 bok:∀ b∈bs,b.1<=b.2
 b6:bs.length<=6
 m1:1<=ms.length
 m40:ms.length<=40
 mok:∀ m∈ms,qG m n bs.length
noncomputable def Z6 (n:Int) (p m:V):List (Str × V):=[("many",.int n),("kept_pushes",p),("kept_modes",m)]
structure u9 (C CM:Addr) (H:Hp) (o:Addr) (n:Nat) (bs:List (Int × Int)) (ms:List MD) (pv mv:List V) (kp km:Addr):Prop where
 ins:∃ dx,H o=some (.ins C dx (Z6 (n:Int) (.ref kp) (.ref km)))
 hp:H kp=some (.lst pv)
 hpv:Paired (u8 H) pv bs
 hm:H km=some (.lst mv)
 hmv:Paired (u7 CM H) mv ms
theorem u9.same {C CM:Addr} {H H':Hp} {o:Addr} {n:Nat} {bs:List (Int × Int)} {ms:List MD} {pv mv:List V} {kp km:Addr} (s:zC H H') (h:u9 C CM H o n bs ms pv mv kp km):u9 C CM H' o n bs ms pv mv kp km:=
 ⟨let ⟨dx,e⟩:=h.ins; ⟨dx,s _ _ e⟩,s _ _ h.hp,Paired.mapP h.hpv λ_ _ z=>z.same s,s _ _ h.hm,Paired.mapP h.hmv λ_ _ z=>z.same s⟩
inductive wu (C CM:Addr) (vs:List V) (H:Hp) (Q:VK) (E:XK):Prop
 | mk (o kp km:Addr) (n:Nat) (bs:List (Int × Int)) (ms:List MD) (pv mv:List V) (_:vs=[.ref o]) (_:u9 C CM H o n bs ms pv mv kp km) (_:qI n bs ms) (_:Q (.bl (decide (ms.length=1) && decide ((ms.map MD.rows).getD 0 []=[]))) H):wu C CM vs H Q E
theorem uG.tab {H0 H:Hp} {vs:List V} {tab:List (List Int)} (h:Paired (uG H0 H) vs tab):ya H vs tab:=Paired.mapP h λ_ _ ⟨a,e,_,q⟩=>⟨a,e,q⟩
end Sh
namespace Sh
open PySem L2
noncomputable def yO (B:List Addr) (H H':Hp):Prop:=∀ b o,H b=some o->b∉B->H' b=some o
theorem yO.refl (B:List Addr) (H:Hp):yO B H H:=λ_ _ e _=>e
theorem yO.new {B:List Addr} {H H':Hp} {x:Addr} (o:HO) (h:yO B H H') (hx:H' x=none):yO B H (upd H' x o):=λb u e nb=>by
 have z:=h b u e nb
 rw [zk (λe'=>by rw [e',hx] at z; cases z)]
 exact z
theorem yO.trans {B:List Addr} {H H1 H2:Hp} (a:yO B H H1) (b:yO B H1 H2):yO B H H2:=λc o e n=>b c o (a c o e n) n
theorem yO.same {B:List Addr} {H H1 H2:Hp} (a:yO B H H1) (b:zC H1 H2):yO B H H2:=λc o e n=>b c o (a c o e n)
theorem yO.of {B:List Addr} {H H1:Hp} (s:zC H H1):yO B H H1:=λc o e _=>s c o e
theorem yO.cut {A B:List Addr} {H H1:Hp} (h1:yO A H H1) (h:∀ x∈A,x∉B->H x=none):yO B H H1:=λb o e n=>h1 _ _ e λz=>by
 rw [h b z n] at e
 cases e
theorem yO.free {B:List Addr} {H H':Hp} (s:yO B H H') {l:Addr} (h:H' l=none) (n:l∉B):H l=none:=by
 cases e:H l with
 | none=>rfl
 | some u=>rw [s _ _ e n] at h; cases h
noncomputable def zi (B:List Addr) (H:Hp):Hp:=λb=>if b∈B then none else H b
theorem Z7 {B:List Addr} {H:Hp}:zC (zi B H) H:=λb o h=>by
 unfold zi at h
 by_cases e:b∈B
 ·rw [if_pos e] at h; cases h
 ·rw [if_neg e] at h; exact h
theorem jA {B:List Addr} {H:Hp} {b:Addr} (e:b∉B):zi B H b=H b:=by unfold zi; rw [if_neg e]
theorem Z8 {B:List Addr} {H:Hp} {b:Addr} (e:b∈B):zi B H b=none:=by unfold zi; rw [if_pos e]
theorem Z9 {B:List Addr} {H:Hp} {b:Addr} {o:HO} (h:zi B H b=some o):b∉B:=λe=>by rw [Z8 e] at h; cases h
theorem YA {B:List Addr} {H H':Hp} (s:yO B H H'):zC (zi B H) (zi B H'):=λb o h=>by
 have e:=Z9 h
 rw [jA e] at h |-
 exact s _ _ h e
theorem jB {B:List Addr} {H H':Hp} (s:zC H H'):zC (zi B H) (zi B H'):=YA λb o h _=>s _ _ h
end Sh
namespace L2
open PySem PySem.Spec PyProof.Rows
section
variable {X:Cx} {e:Expr}
end
theorem zG.no {P:Program} {w:World} {K:PySem.W.Frag} {mg:Str->Option Value} {base:Heap} {CX:yi} {k:Nat} {f:Addr} {fd:FuncData} {ps:List Str} {sp:Sp} (hn:∀ vs H Q E,¬ sp vs H Q E):zG P w K mg base CX k f fd ps sp:=
 ⟨λ_ _ _ _ h=>(hn _ _ _ _ h).elim,λ_ _ _ _ _ _ _ _ _ _ _ _ _ h=>(hn _ _ _ _ h).elim⟩
end L2
set_option maxRecDepth 100000
namespace Sx
open PySem PySem.Builtin PySem.Builtin.Str
noncomputable def dN (m:Nat):List Nat:=(Nat.toDigits 10 m).map Char.toNat
theorem g5:∀ k,k < 10->(Nat.digitChar k).toNat=48 + k:=by decide
theorem qJ {m:Nat} (h:m < 10):dN m=[48 + m]:=by
 unfold dN
 rw [Nat.toDigits_of_lt_base h]
 exact congrArg (λx=>[x]) (g5 m h)
theorem qK {m:Nat} (h:10<=m):dN m=dN (m / 10)++[48 + m % 10]:=by
 unfold dN
 rw [Nat.toDigits_of_base_le (by decide) h,List.map_append]
 exact congrArg (λx=>_++[x]) (g5 _ (Nat.mod_lt _ (by decide)))
theorem wv (m:Nat):∀ c∈dN m,48<=c/\c<=57:=by
 induction m using Nat.strongRecOn with
 | _ m ih=>
  intro c hc
  by_cases h:m < 10
  ·rw [qJ h] at hc
   have:=List.mem_singleton.mp hc
   omega
  ·rw [qK (by omega)] at hc
   rcases List.mem_append.mp hc with z | z
   ·exact ih (m / 10) (by omega) c z
   ·have:=List.mem_singleton.mp z
    omega
theorem jC {m:Nat} (h:m < 10 ^ 60):(dN m).length<=60:=by
 unfold dN
 rw [List.length_map]
 exact (Nat.length_toDigits_le_iff (by decide) (by decide)).mpr h
theorem jD (m:Nat):0 < (dN m).length:=by
 unfold dN
 rw [List.length_map]
 exact Nat.length_toDigits_pos
theorem uI {m:Nat} (h:m≠0):∃ c l,dN m=c :: l/\49<=c/\c<=57:=by
 induction m using Nat.strongRecOn with
 | _ m ih=>
  by_cases h1:m < 10
  ·exact ⟨48 + m,[],qJ h1,by omega,by omega⟩
  ·obtain ⟨c,l,e,a,b⟩:=ih (m / 10) (by omega) (by omega)
   exact ⟨c,l++[48 + m % 10],by rw [qK (by omega),e]; rfl,a,b⟩
theorem YB (m:Nat):(dN m).foldl (λa c=>a * 10 + (c - 48)) 0=m:=by
 induction m using Nat.strongRecOn with
 | _ m ih=>
  by_cases h1:m < 10
  ·rw [qJ h1]
   show 0 * 10 + (48 + m - 48)=m
   omega
  ·rw [qK (by omega),List.foldl_append,ih (m / 10) (by omega)]
   show m / 10 * 10 + (48 + m % 10 - 48)=m
   omega
noncomputable def sN (i:Int):Str:=Str.ofString (toString i)
theorem xH {i:Int} (h:0<=i):(sN i).cps.toList=dN i.natAbs:=by
 obtain ⟨m,rfl⟩:=Int.eq_ofNat_of_zero_le h
 unfold sN
 rw [show toString ((m:Nat):Int)=toString (Int.ofNat m) from rfl,PyProof.Rows.text_ofNat]
 rfl
theorem xw {i:Int} (h:i < 0):(sN i).cps.toList=45 :: dN i.natAbs:=by
 have e:=xH (show 0<=0 - i by omega)
 unfold sN at e |-
 rw [PyProof.Rows.toString_neg h,Str.ofString_eq_toList,String.toList_append,List.map_append]
 rw [Str.ofString_eq_toList] at e
 show [45]++List.map Char.toNat (toString (0 - i)).toList=_
 have e':List.map Char.toNat (toString (0 - i)).toList=dN (0 - i).natAbs:=e
 rw [e',show (0 - i).natAbs=i.natAbs by omega]
 rfl
theorem xN (i:Int):∀ c∈(sN i).cps.toList,c=45\/(48<=c/\c<=57):=by
 intro c hc
 by_cases h:0<=i
 ·rw [xH h] at hc
  exact .inr (wv _ c hc)
 ·rw [xw (by omega)] at hc
  rcases List.mem_cons.mp hc with z | z
  ·exact .inl z
  ·exact .inr (wv _ c z)
theorem yB (x:Str):x.cps.toList.length=x.length:=by simp [Str.length]
theorem xD {i:Int} (h:i.natAbs < 10 ^ 60):1<=(sN i).length/\(sN i).length<=61:=by
 have a:=jD i.natAbs
 have b:=jC h
 rw [<- yB]
 by_cases h:0<=i
 ·rw [xH h]; omega
 ·rw [xw (by omega),List.length_cons]; omega
theorem qL {x y:Str} (h:x.cps.toList=y.cps.toList):x=y:=by
 apply Str.ext'
 exact Array.toList_inj.mp h
theorem jE (x y:Str):(x++y).cps.toList=x.cps.toList++y.cps.toList:=by rw [Str.cps_append,Array.toList_append]
theorem ww (y a b:Str) (l:List Str):(Str.join y (a :: b :: l)).cps.toList=a.cps.toList++(y.cps.toList++(Str.join y (b :: l)).cps.toList):=by
 show (a++y++Str.join y (b :: l)).cps.toList=_
 rw [jE,jE,List.append_assoc]
open StrLaws in
theorem g6 {x y:Str} {k c:Nat} {r:List Nat} (hy:y.cps.toList=c :: r) (h:At x y x.length k):x.cps.toList[k]? = some c:=by
 have e:=h.2
 rw [subAt_eq] at e
 have e':=eq_of_beq e
 rw [hy] at e'
 have:((x.cps.toList.drop k).take y.length)[0]? = some c:=by rw [e']; rfl
 have hl:0 < y.length:=by rw [<- yB,hy]; exact Nat.succ_pos _
 rw [List.getElem?_take_of_lt hl,List.getElem?_drop] at this
 simpa using this
open StrLaws in
theorem g7 {x y:Str} {k:Nat} {r:List Nat} (hk:k<=x.length) (h:x.cps.toList.drop k=y.cps.toList++r):At x y x.length k:=by
 have hl:(x.cps.toList.drop k).length=(y.cps.toList++r).length:=by rw [h]
 rw [List.length_drop,List.length_append,yB,yB] at hl
 refine ⟨by omega,?_⟩
 rw [subAt_eq,h,List.take_left' (yB y)]
 exact beq_self_eq_true _
theorem g8 (x:Str) (a b:Nat):(strSub x a b).cps.toList=(x.cps.toList.drop a).take (b - a):=StrLaws.strSub_toList ..
open StrLaws in
theorem g9 {x y:Str} {c:Nat} {r:List Nat} (hy:y.cps.toList=c :: r):∀ (ps:List Str) (p:Str) (cuts:List Nat) (a f:Nat),a<=x.length->x.cps.toList.drop a=(Str.join y (p :: ps)).cps.toList->(∀ q∈p :: ps,c∉q.cps.toList)->
  ChainG x y x.length a cuts f->(∀ k,f<=k->¬ At x y x.length k)->partsFrom x y.length a cuts=p :: ps
 | [],p,[],a,f,_,hd,hf,hG,hn=>by
  have e:x.cps.toList.drop a=p.cps.toList:=hd
  refine congrArg (λz=>[z]) (qL ?_)
  rw [g8,<- e]
  exact List.take_of_length_le (by rw [List.length_drop,yB]; exact Nat.le_refl _)
 | [],p,d :: cs,a,f,_,hd,hf,hG,hn=>by
  have e:x.cps.toList.drop a=p.cps.toList:=hd
  have hA:=g6 hy hG.2.1
  have:c∈p.cps.toList:=by
   rw [<- e]
   refine List.mem_of_getElem? (i:=d - a) ?_
   rw [List.getElem?_drop,show a + (d - a)=d by have:=hG.1; omega]
   exact hA
  exact absurd this (hf p List.mem_cons_self)
 | q :: qs,p,[],a,f,ha,hd,hf,hG,hn=>by
  rw [ww] at hd
  have hl:=congrArg List.length hd
  rw [List.length_drop,yB,List.length_append,List.length_append,yB,yB] at hl
  have e:f=a:=hG
  exact absurd (g7 (x:=x) (y:=y) (k:=a + p.length) (by omega) (by rw [<- List.drop_drop,hd,List.drop_left' (yB p)])) (hn _ (by omega))
 | q :: qs,p,d :: cs,a,f,ha,hd,hf,hG,hn=>by
  rw [ww] at hd
  have hl:=congrArg List.length hd
  rw [List.length_drop,yB,List.length_append,List.length_append,yB,yB] at hl
  have hat:At x y x.length (a + p.length):=g7 (by omega) (by rw [<- List.drop_drop,hd,List.drop_left' (yB p)])
  have hda:=hG.1
  have h1:d<=a + p.length:=by
   apply Classical.byContradiction
   intro z
   exact hG.2.2.1 (a + p.length) (by omega) (by omega) hat
  have h2:a + p.length<=d:=by
   apply Classical.byContradiction
   intro z
   have hA:=g6 hy hG.2.1
   have:c∈p.cps.toList:=by
    refine List.mem_of_getElem? (i:=d - a) ?_
    have e2:(x.cps.toList.drop a)[d - a]? = some c:=by
     rw [List.getElem?_drop,show a + (d - a)=d by omega]
     exact hA
    rw [hd,List.getElem?_append_left (by rw [yB]; omega)] at e2
    exact e2
   exact hf p List.mem_cons_self this
  have e:d=a + p.length:=by omega
  subst e
  show strSub x a (a + p.length) :: partsFrom x y.length (a + p.length + y.length) cs=_
  have hb:=hG.2.1.1
  rw [g9 hy qs q cs (a + p.length + y.length) f (by omega) (by rw [<- List.drop_drop,<- List.drop_drop,hd,List.drop_left' (yB p),List.drop_left' (yB y)]) (λz hz=>hf z (List.mem_cons_of_mem _ hz)) hG.2.2.2 hn]
  refine congrArg (λz=>z :: q :: qs) (qL ?_)
  rw [g8,hd,show a + p.length - a=p.length by omega,List.take_left' (yB p)]
theorem YC (y:Str) (h:y.cps.all (· < 256)=true):Str.strKind y=1:=by unfold Str.strKind; rw [if_pos h]
theorem YD (x:Str):1<=Str.strKind x:=by
 unfold Str.strKind
 split
 ·omega
 ·split <;> omega
theorem YE {y:Str} {c:Nat} {r:List Nat} (hy:y.cps.toList=c :: r) (hk:y.cps.all (· < 256)=true) {ps:List Str} (h0:ps≠[]) (hf:∀ q∈ps,c∉q.cps.toList):Txt.split (Txt.join y ps) y=ps:=by
 obtain ⟨p,ps,rfl⟩:=List.exists_cons_of_ne_nil h0
 have hj:Txt.join y (p :: ps)=Str.join y (p :: ps):=StrLaws.glued_eq_join ..
 rw [hj]
 generalize hx:Str.join y (p :: ps)=x
 have hl1:1<=y.length:=by rw [<- yB,hy]; exact Nat.succ_pos _
 obtain ⟨f,hG,hn⟩:=StrLaws.occ_tight x y hl1
 have key:=g9 hy ps p _ 0 f (Nat.zero_le _) (by rw [List.drop_zero,<- hx]) hf hG hn
 unfold Txt.split
 have k1:=YC y hk
 have k2:=YD x
 by_cases hs:x.length < y.length
 ·rw [if_pos (by rw [decide_eq_true hs]; rfl)]
  cases ps with
  | nil=>exact congrArg (λz=>[z]) hx.symm
  | cons q qs=>
   have:=congrArg List.length (ww y p q qs)
   rw [hx,List.length_append,List.length_append,yB,yB,yB] at this
   omega
 ·rw [if_neg (by rw [decide_eq_false hs,decide_eq_false (by omega)]; decide)]
  split
  ·rename_i he
   rw [List.isEmpty_iff.mp he] at key
   rw [<- key]
   exact congrArg (λz=>[z]) (StrLaws.sub_whole x).symm
  ·rw [StrLaws.partsBetween_eq]
   exact key
theorem xf {y:Str} {ps:List Str} {B:Nat} (hB:∀ q∈ps,q.length<=B) (h:ps.length * (B + y.length)<=16000000):JoinOk y ps=true:=by
 unfold JoinOk
 rw [StrLaws.joinFits hB (by rw [<- Nat.mul_add]; omega)]
 rfl
theorem jF {y:Str} {c:Nat}:∀ {ps:List Str},c∈(Str.join y ps).cps.toList->c∈y.cps.toList\/∃ p∈ps,c∈p.cps.toList
 | [],h=>by cases h
 | [p],h=>.inr ⟨p,List.mem_cons_self,h⟩
 | p :: q :: ps,h=>by
  rw [ww] at h
  rcases List.mem_append.mp h with z | z
  ·exact .inr ⟨p,List.mem_cons_self,z⟩
  ·rcases List.mem_append.mp z with z | z
   ·exact .inl z
   ·rcases jF z with z | ⟨p',a,b⟩
    ·exact .inl z
    ·exact .inr ⟨p',List.mem_cons_of_mem _ a,b⟩
end Sx
set_option maxRecDepth 100000
namespace Sx
open PySem PySem.Builtin PySem.Builtin.Str
theorem YF:typeLookup (.type "str") "__int__" = pure none:=by rw [typeLookup_type,builtinLookup_eq_fast]; kernel_rfl
theorem YG:typeLookup (.type "str") "__index__" = pure none:=by rw [typeLookup_type,builtinLookup_eq_fast]; kernel_rfl
theorem YH:typeLookup (.type "str") "__trunc__" = pure none:=by rw [typeLookup_type,builtinLookup_eq_fast]; kernel_rfl
theorem qM {c:Nat} (h:48<=c/\c<=57):c=48\/c=49\/c=50\/c=51\/c=52\/c=53\/c=54\/c=55\/c=56\/c=57:=by omega
theorem kA {f:Array Nat × Bool->Nat->Option (Array Nat × Bool)} (hf:∀ a b c,48<=c->c<=57->f (a,b) c=some (a.push (c - 48),true)):∀ (L:List Nat) (a:Array Nat) (b:Bool),(∀ c∈L,48<=c/\c<=57)->List.foldlM f (a,b) L=some ((a++(L.map (· - 48)).toArray),(b || !L.isEmpty))
 | [],a,b,_=>by
  cases b <;> simp
 | c :: L,a,b,h=>by
  have z:=h c List.mem_cons_self
  rw [List.foldlM_cons,hf a b c z.1 z.2]
  show List.foldlM f (a.push (c - 48),true) L=_
  rw [kA hf L _ _ λd hd=>h d (List.mem_cons_of_mem _ hd)]
  cases b <;> simp
theorem kB {f:Array Nat × Bool->Nat->Option (Array Nat × Bool)} {g:Array Nat × Bool->Option (Array Nat)} (hf:∀ a b,f (a,b) 48=some (a.push 0,true)/\f (a,b) 49=some (a.push 1,true)/\f (a,b) 50=some (a.push 2,true)/\f (a,b) 51=some (a.push 3,true)/\f (a,b) 52=some (a.push 4,true)/\f (a,b) 53=some (a.push 5,true)/\f (a,b) 54=some (a.push 6,true)/\f (a,b) 55=some (a.push 7,true)/\f (a,b) 56=some (a.push 8,true)/\f (a,b) 57=some (a.push 9,true)) (hg:∀ a,g (a,true)=some a) {L:List Nat} (h:∀ c∈L,48<=c/\c<=57) (h0:L≠[]):Option.bind (List.foldlM f (#[],false) L) g=some (L.map (· - 48)).toArray:=by
 rw [kA (f:=f) (λa b c h1 h2=>by
  obtain ⟨a0,a1,a2,a3,a4,a5,a6,a7,a8,a9⟩:=hf a b
  rcases qM ⟨h1,h2⟩ with e | e | e | e | e | e | e | e | e | e <;> rw [e] <;> assumption) L _ _ h]
 cases L with
 | nil=>exact absurd rfl h0
 | cons c L=>
  show g (#[]++_,true)=_
  rw [hg]
  simp
theorem kC {p:Nat->Bool} {L:List Nat} (h:∀ c∈L,p c=false):(List.dropWhile p L.reverse).reverse=L:=by
 have e:List.dropWhile p L.reverse=L.reverse:=by
  cases hL:L.reverse with
  | nil=>rfl
  | cons c l=>exact List.dropWhile_cons_of_neg (by rw [h c (List.mem_reverse.mp (by rw [hL]; exact List.mem_cons_self))]; exact Bool.false_ne_true)
 rw [e,List.reverse_reverse]
theorem kD (i:Int):(sN i).cps.all (· < 128)=true:=by
 rw [<- Array.all_toList]
 exact List.all_eq_true.mpr λc hc=>decide_eq_true (by rcases xN i c hc with z | z <;> omega)
theorem kE (i:Int):(sN i).cps.toList.takeWhile (· != 0)=(sN i).cps.toList:=by
 have key:∀ l:List Nat,(∀ c∈l,c≠0)->l.takeWhile (· != 0)=l:=by
  intro l
  induction l with
  | nil=>intro _; rfl
  | cons c l ih=>
   intro h
   rw [List.takeWhile_cons_of_pos (by simpa using h c List.mem_cons_self),ih λd hd=>h d (List.mem_cons_of_mem _ hd)]
 exact key _ λc hc=>by rcases xN i c hc with z | z <;> omega
theorem kF (m:Nat):((dN m).map (· - 48)).toArray.foldl (λa d=>a * 10 + d) 0=m:=by
 rw [List.foldl_toArray,List.foldl_map]
 exact YB m
theorem uJ {α:Type} {a b c:Bool} {x y z v w:α} (ha:a=false) (hb:b=false) (hc:c=false) (h:(if a=true then x else if b=true then y else if c=true then z else v)=w):v=w:=by
 subst ha hb hc
 exact h
theorem YI {p:Nat->Bool} {c:Nat} {l:List Nat} (h:p c=false):List.dropWhile p (c :: l)=c :: l:=List.dropWhile_cons_of_neg (by rw [h]; exact Bool.false_ne_true)
theorem kG {p:Nat->Bool} (h:p 48=false/\p 49=false/\p 50=false/\p 51=false/\p 52=false/\p 53=false/\p 54=false/\p 55=false/\p 56=false/\p 57=false) {L:List Nat} (hL:∀ c∈L,48<=c/\c<=57):∀ c∈L,p c=false:=by
 intro c hc
 obtain ⟨a0,a1,a2,a3,a4,a5,a6,a7,a8,a9⟩:=h
 rcases qM (hL c hc) with e | e | e | e | e | e | e | e | e | e <;> rw [e] <;> assumption
theorem meets_int_text (i:Int) (t:Tok) (hi:i.natAbs < 10 ^ 60):Meets («int.__new__» ⟨[.type "int",.str (sN i) t],[]⟩) (λ_ R s=>R (.ok (.ret (.int i s.toks))) { s with toks:=s.toks + 1 }):=by
 refine Meets.of_wp λprog w A R s h=>?_
 unfold «int.__new__»
 refine wpAny_bind (wpAny_pure ?_)
 refine wpAny_bind (wpAny_of_eq PySem.F.conv_sub_int ?_)
 refine wpAny_bind (wpAny_of_eq PySem.F.madeHere_int ?_)
 refine wpAny_bind (m:=pure PUnit.unit) (wpAny_pure ?_)
 refine wpAny_bind ?_
 refine wpAny_bind (m:=callSpecial? (.str (sN i) t) (Str.ofString "__int__")) (wpAny_callSpecial?_none (typeIs_str _ _ _) YF ?_)
 refine wpAny_bind (m:=specialOf (.str (sN i) t) (Str.ofString "__index__")) (wpAny_specialOf (typeIs_str _ _ _) YG ?_)
 refine wpAny_bind (m:=specialOf (.str (sN i) t) (Str.ofString "__trunc__")) (wpAny_specialOf (typeIs_str _ _ _) YH ?_)
 refine wpAny_bind (m:=pure (some _)) (wpAny_pure ?_)
 rw [if_pos (kD i)]
 dsimp only
 show wpAny _ _ (if ((sN i).cps.toList.takeWhile (· != 0)).length<=640 then _ else _) _ _ _
 rw [if_pos (by rw [kE,yB]; have:=(xD hi).2; omega)]
 refine wpAny_bind (wpAny_pure ?_)
 rw [kE]
 dsimp only
 by_cases h0:0<=i
 ·rw [xH h0]
  by_cases hz:i=0
  ·subst hz
   exact wpAny_mkInt (wpAny_pure ⟨_,rfl,h⟩)
  ·obtain ⟨c,l,e,c1,c2⟩:=uI (m:=i.natAbs) (by omega)
   have al:=wv i.natAbs
   have va:=kF i.natAbs
   have le:=jC hi
   rw [e] at al va le |-
   have hsz:¬ ((c :: l).map (· - 48)).toArray.size > 6000:=by rw [List.size_toArray,List.length_map]; omega
   have fin:(((((c :: l).map (· - 48)).toArray.foldl (λa d=>a * 10 + d) 0:Nat)):Int)=i:=by rw [va]; omega
   rcases (by omega:c=49\/c=50\/c=51\/c=52\/c=53\/c=54\/c=55\/c=56\/c=57) with rfl | rfl | rfl | rfl | rfl | rfl | rfl | rfl | rfl
   all_goals
    split
    all_goals rename_i heq
    all_goals (conv at heq=>lhs; whnf)
    all_goals split at heq
    all_goals rename_i h1
    all_goals rw [YI rfl,kC (kG ⟨rfl,rfl,rfl,rfl,rfl,rfl,rfl,rfl,rfl,rfl⟩ al)] at h1
    all_goals cases h1.symm.trans (kB (λa b=>⟨rfl,rfl,rfl,rfl,rfl,rfl,rfl,rfl,rfl,rfl⟩) (λa=>rfl) al (by nofun))
    all_goals cases uJ rfl (by rw [decide_eq_false hsz]; rfl) rfl heq
    rw [if_pos (beq_self_eq_true _)]
    refine wpAny_mkInt ?_
    rw [if_pos (by decide),if_neg Bool.false_ne_true,fin]
    exact wpAny_pure ⟨_,rfl,h⟩
 ·rw [xw (by omega)]
  obtain ⟨c,l,e,c1,c2⟩:=uI (m:=i.natAbs) (by omega)
  have al:=wv i.natAbs
  have va:=kF i.natAbs
  have le:=jC hi
  rw [e] at al va le |-
  have hsz:¬ ((c :: l).map (· - 48)).toArray.size > 6000:=by rw [List.size_toArray,List.length_map]; omega
  have fin : -(((((c :: l).map (· - 48)).toArray.foldl (λa d=>a * 10 + d) 0:Nat)):Int)=i:=by rw [va]; omega
  rcases (by omega:c=49\/c=50\/c=51\/c=52\/c=53\/c=54\/c=55\/c=56\/c=57) with rfl | rfl | rfl | rfl | rfl | rfl | rfl | rfl | rfl
  all_goals
   split
   all_goals rename_i heq
   all_goals (conv at heq=>lhs; whnf)
   all_goals split at heq
   all_goals rename_i h1
   all_goals rw [kC (kG ⟨rfl,rfl,rfl,rfl,rfl,rfl,rfl,rfl,rfl,rfl⟩ al)] at h1
   all_goals cases h1.symm.trans (kB (λa b=>⟨rfl,rfl,rfl,rfl,rfl,rfl,rfl,rfl,rfl,rfl⟩) (λa=>rfl) al (by nofun))
   all_goals cases uJ rfl (by rw [decide_eq_false hsz]; rfl) rfl heq
   rw [if_pos (beq_self_eq_true _)]
   refine wpAny_mkInt ?_
   rw [if_pos (by decide),if_pos rfl,fin]
   exact wpAny_pure ⟨_,rfl,h⟩
end Sx
set_option maxRecDepth 100000
namespace Sx
open PySem PySem.Builtin PySem.Builtin.Str
noncomputable abbrev Nm (i:Int):Prop:=i.natAbs < 10 ^ 60
theorem qN {x:Str} {c d:Nat} {r:List Nat} (h:x.cps.toList=d :: r):Txt.startswith x ⟨#[c]⟩=(d == c):=by
 unfold Txt.startswith
 have hl:x.length=r.length + 1:=by rw [<- yB,h]; rfl
 rw [StrLaws.subAt_eq,h,decide_eq_true (show 0 + (⟨#[c]⟩:Str).length<=x.length by rw [hl]; show 0 + 1<=_; omega)]
 show (true && ((d :: (r.take 0)) == [c]))=_
 simp
theorem YJ {i:Int} (h:i < 0):Txt.startswith (sN i) (Str.ofString "-")=true:=by
 rw [show Str.ofString "-" = ⟨#[45]⟩ by decide +kernel,qN (xw h)]
 rfl
theorem kH (m:Nat):∃ c l,dN m=c :: l/\48<=c/\c<=57:=by
 have h:=jD m
 cases e:dN m with
 | nil=>rw [e] at h; cases h
 | cons c l=>exact ⟨c,l,rfl,wv m c (by rw [e]; exact List.mem_cons_self)⟩
theorem YK {i:Int} (h:0<=i):Txt.startswith (sN i) (Str.ofString "-")=false:=by
 obtain ⟨c,l,e,a,b⟩:=kH i.natAbs
 rw [show Str.ofString "-" = ⟨#[45]⟩ by decide +kernel,qN ((xH h).trans e)]
 exact beq_eq_false_iff_ne.mpr (by omega)
theorem YL {i:Int} (h:0 < i):Txt.startswith (sN i) (Str.ofString "0")=false:=by
 obtain ⟨c,l,e,a,b⟩:=uI (m:=i.natAbs) (by omega)
 rw [show Str.ofString "0" = ⟨#[48]⟩ by decide +kernel,qN ((xH (by omega)).trans e)]
 exact beq_eq_false_iff_ne.mpr (by omega)
theorem YM {i:Int} (h:i < 0):Txt.slice (sN i) (some 1) none=sN (-i):=by
 have hl:1<=(sN i).length:=by rw [<- yB,xw h]; exact Nat.succ_pos _
 rw [PyProof.Rows.slice_from_eq (b:=((sN i).length:Int)) (by decide) (by omega) rfl]
 refine qL ?_
 show ((sN i).cps.toList.drop 1).take _=_
 rw [xH (show 0<=-i by omega),List.take_of_length_le (by rw [List.length_drop,yB]; omega),xw h,show (-i).natAbs=i.natAbs by omega]
 rfl
theorem kI (i:Int):sN i≠Str.ofString "-0":=by
 intro e
 have h:(sN i).cps.toList=[45,48]:=by rw [e]; decide +kernel
 by_cases h0:0<=i
 ·obtain ⟨c,l,e,a,b⟩:=kH i.natAbs
  rw [xH h0,e] at h
  have:=(List.cons.inj h).1
  omega
 ·obtain ⟨c,l,e,a,b⟩:=uI (m:=i.natAbs) (by omega)
  rw [xw (by omega),e] at h
  have:=(List.cons.inj (List.cons.inj h).2).1
  omega
theorem YN:sN 0=Str.ofString "0":=rfl
theorem YO {i:Int} (h:0 < i):sN i≠Str.ofString "0":=by
 intro e
 have h2:(sN i).cps.toList=[48]:=by rw [e]; decide +kernel
 obtain ⟨c,l,e,a,b⟩:=uI (m:=i.natAbs) (by omega)
 rw [xH (by omega),e] at h2
 have:=(List.cons.inj h2).1
 omega
theorem YQ {c:Nat} (h:48<=c/\c<=57):(!(occurrences (Str.ofString "0123456789") ⟨#[c]⟩ 0 (Str.ofString "0123456789").length 1).isEmpty)=true:=by
 rcases qM h with e | e | e | e | e | e | e | e | e | e <;> subst e <;> decide +kernel
noncomputable abbrev yC:Str:=Str.ofString " "
noncomputable abbrev xO:Str:=Str.ofString "/"
noncomputable abbrev xx:Str:=Str.ofString ", "
noncomputable abbrev xg:Str:=Str.ofString "; "
theorem uK:yC.cps.toList=[32]:=by decide +kernel
theorem qO:xO.cps.toList=[47]:=by decide +kernel
theorem kJ:xx.cps.toList=[44,32]:=by decide +kernel
theorem uL:xg.cps.toList=[59,32]:=by decide +kernel
noncomputable def sF (p:Int × Int):Str:=if p.2=1 then sN p.1 else sN p.1++xO++sN p.2
theorem wR {y:Str} {c:Nat} {r:List Nat} (hy:y.cps.toList=c :: r) (hk:y.cps.all (· < 256)=true) {ps:List Str} (h0:ps≠[]) (hf:∀ q∈ps,c∉q.cps.toList):Txt.split (Str.join y ps) y=ps:=by
 have z:=YE hy hk h0 hf
 rw [show Txt.join y ps=Str.join y ps from StrLaws.glued_eq_join ..] at z
 exact z
theorem qP (p:Int × Int):∀ c∈(sF p).cps.toList,45<=c/\c<=57:=by
 intro c hc
 unfold sF at hc
 split at hc
 ·rcases xN _ c hc with z | z <;> omega
 ·rw [jE,jE,qO] at hc
  rcases List.mem_append.mp hc with z | z
  ·rcases List.mem_append.mp z with z | z
   ·rcases xN _ c z with z | z <;> omega
   ·have:=List.mem_singleton.mp z
    omega
  ·rcases xN _ c z with z | z <;> omega
theorem wx {p:Int × Int} (h:Nm p.1/\Nm p.2):(sF p).length<=123:=by
 have a:=(xD h.1).2
 have b:=(xD h.2).2
 unfold sF
 split
 ·omega
 ·rw [Str.length_append,Str.length_append,show xO.length=1 by decide +kernel]
  omega
theorem YR (p:Int × Int):Txt.split (sF p) xO=if p.2=1 then [sN p.1] else [sN p.1,sN p.2]:=by
 have no:∀ i:Int,47∉(sN i).cps.toList:=λi hc=>by rcases xN i _ hc with z | z <;> omega
 have hk:xO.cps.all (· < 256)=true:=by decide +kernel
 unfold sF
 split
 ·exact wR (ps:=[sN p.1]) qO hk (by nofun) λq hq=>by rw [List.mem_singleton.mp hq]; exact no _
 ·exact wR (ps:=[sN p.1,sN p.2]) qO hk (by nofun) λq hq=>by
   rcases List.mem_cons.mp hq with e | e
   ·rw [e]; exact no _
   ·rw [List.mem_singleton.mp e]; exact no _
noncomputable def sW (r:List Int):Str:=Str.join yC (r.map sN)
noncomputable def sP (ps:List (Int × Int)):Str:=Str.join yC (ps.map sF)
noncomputable def sR (room:List (List Int)):Str:=Str.join xx (room.map sW)
noncomputable abbrev zw:=Int × List (Int × Int)
noncomputable def sS (s:zw):Str:=Str.join yC (sN s.1 :: s.2.map sF)
noncomputable def yE (r:List zw):Str:=Str.join xg (r.map sS)
theorem YS (y a:Str) {l:List Str} (h:l≠[]):Str.join y [a,Str.join y l]=Str.join y (a :: l):=by
 obtain ⟨b,l,rfl⟩:=List.exists_cons_of_ne_nil h
 rfl
theorem uM {α β:Type} {f:α->β} {l:List α} (h:l≠[]):l.map f≠[]:=λz=>h (List.map_eq_nil_iff.mp z)
theorem YT {r:List Int} (h:r≠[]):Txt.split (sW r) yC=r.map sN:=
 wR uK (by decide +kernel) (uM h) λq hq=>by
  obtain ⟨i,_,rfl⟩:=List.mem_map.mp hq
  intro hc
  rcases xN i _ hc with z | z <;> omega
theorem YU {ps:List (Int × Int)} (h:ps≠[]):Txt.split (sP ps) yC=ps.map sF:=
 wR uK (by decide +kernel) (uM h) λq hq=>by
  obtain ⟨i,_,rfl⟩:=List.mem_map.mp hq
  intro hc
  have:=qP i _ hc
  omega
theorem YV (s:zw):Txt.split (sS s) yC=sN s.1 :: s.2.map sF:=
 wR uK (by decide +kernel) (by nofun) λq hq hc=>by
  rcases List.mem_cons.mp hq with e | e
  ·rw [e] at hc
   rcases xN _ _ hc with z | z <;> omega
  ·obtain ⟨i,_,rfl⟩:=List.mem_map.mp e
   have:=qP i _ hc
   omega
theorem kK (r:List Int):∀ c∈(sW r).cps.toList,c=32\/(45<=c/\c<=57):=λc hc=>by
 rcases jF hc with z | ⟨p,hp,z⟩
 ·rw [uK] at z
  exact .inl (List.mem_singleton.mp z)
 ·obtain ⟨i,_,rfl⟩:=List.mem_map.mp hp
  rcases xN i _ z with z | z <;> omega
theorem YW (s:zw):∀ c∈(sS s).cps.toList,c=32\/(45<=c/\c<=57):=λc hc=>by
 rcases jF hc with z | ⟨p,hp,z⟩
 ·rw [uK] at z
  exact .inl (List.mem_singleton.mp z)
 ·rcases List.mem_cons.mp hp with e | e
  ·rw [e] at z
   rcases xN _ _ z with z | z <;> omega
  ·obtain ⟨i,_,rfl⟩:=List.mem_map.mp e
   exact .inr (qP i _ z)
theorem YX {room:List (List Int)} (h:room≠[]):Txt.split (sR room) xx=room.map sW:=
 wR kJ (by decide +kernel) (uM h) λq hq hc=>by
  obtain ⟨i,_,rfl⟩:=List.mem_map.mp hq
  rcases kK i _ hc with z | z <;> omega
theorem YY {r:List zw} (h:r≠[]):Txt.split (yE r) xg=r.map sS:=
 wR uL (by decide +kernel) (uM h) λq hq hc=>by
  obtain ⟨i,_,rfl⟩:=List.mem_map.mp hq
  rcases YW i _ hc with z | z <;> omega
theorem uN {y:Str} {ps:List Str} {B:Nat} (hB:∀ q∈ps,q.length<=B):(Str.join y ps).length<=ps.length * (B + y.length):=by
 have h1:=StrLaws.join_length_le y ps
 have h2:=StrLaws.sumLen_le ps hB
 rw [Nat.mul_add]
 omega
theorem uO {room:List (List Int)} (h:room≠[]):sR room≠Str.ofString "all":=by
 intro e
 have hm:97∈(sR room).cps.toList:=by rw [e]; decide +kernel
 rcases jF hm with z | ⟨p,hp,z⟩
 ·rw [kJ] at z
  simp at z
 ·obtain ⟨r,_,rfl⟩:=List.mem_map.mp hp
  rcases kK r _ z with z | z <;> omega
theorem YZ (s:zw):0 < (sS s).cps.toList.length:=by
 obtain ⟨i,l⟩:=s
 have hn:0 < (sN i).cps.toList.length:=by
  by_cases h:0<=i
  ·rw [xH h]; exact jD _
  ·rw [xw (by omega)]; exact Nat.succ_pos _
 cases l with
 | nil=>exact hn
 | cons p ps=>
  show 0 < (Str.join yC (sN i :: sF p :: ps.map sF)).cps.toList.length
  rw [ww,List.length_append]
  omega
theorem Yb {r:List zw} (h:r≠[]):yE r≠Str.ofString "":=by
 intro e
 have hl:(yE r).cps.toList.length=0:=by rw [e]; decide +kernel
 obtain ⟨s,r,rfl⟩:=List.exists_cons_of_ne_nil h
 have:=YZ s
 cases r with
 | nil=>exact absurd hl (by show (sS s).cps.toList.length≠0; omega)
 | cons t r=>
  have e2:(yE (s :: t :: r)).cps.toList=(sS s).cps.toList++(xg.cps.toList++(yE (t :: r)).cps.toList):=ww ..
  rw [e2,List.length_append] at hl
  omega
end Sx
namespace L2
open PySem PySem.Spec PyProof.Rows PySem.Builtin PySem.Builtin.Str
noncomputable def qQ (z:Str):It:=⟨λi _=>i < z.cps.size,λi H x H'=>H'=H/\∃ c,z.cps[i]? = some c/\x=.str ⟨#[c]⟩,λi _=>z.cps.size<=i⟩
theorem Yc {P:Program} {w:World} {K:PySem.W.Frag} {tg:Expr} (it:Addr) (z:Str) (t:Tok):yf P w K tg (qQ z) [it] it (λi h=>h.IsStrIter it "str_ascii_iterator" z t i) where
 mem:=by simp
 obj:=λi h st b hb=>by
  have e:b=it:=by simpa using hb
  subst e
  obtain ⟨o,e,c,d⟩:=st
  exact ⟨o,e,λv z=>by rw [d] at z; cases z⟩
 keep:=λi h h' st k=>let ⟨o,ho,r⟩:=st; ⟨o,k it (by simp) o ho,r⟩
 item:=by
  intro X hP hw hK hc i pins s σ H E I hf st hg
  subst hP hw hK
  obtain ⟨f0,f1,f2,f3,f4,f5⟩:=hf it (by simp)
  have hg':i < z.cps.size:=hg
  have hx:z.cps[i]? = some z.cps[i]:=by simp [hg']
  refine wpAny_pyNext_ascii_item st hx λh' st' sb=>?_
  have I1:zB X pins σ H { s with heap:=h',toks:=s.toks + 1 }:=I.turned (λb o hb e=>(sb.2 b hb).trans e) f0 f1 f3 f4 f5
  obtain ⟨o,e,c,d⟩:=id st'
  exact ⟨_,rfl,ue (s:={ s with heap:=h',toks:=s.toks + 1 }) e c d (by decide) ⟨.str ⟨#[z.cps[i]]⟩,H,I1,⟨_,rfl⟩,⟨rfl,_,hx,rfl⟩,st',λb hb=>(hf b hb).1⟩⟩
 done:=by
  intro X hP hw hK hc i pins s σ H E I hf st hg
  subst hP hw hK
  obtain ⟨f0,f1,f2,f3,f4,f5⟩:=hf it (by simp)
  have hg':z.cps.size<=i:=hg
  exact wpAny_pyNext_ascii_end (I.ok.hd hc) st (by simp; omega) λh' eb=>⟨rfl,I.turned (t':=s.toks) (λb o hb e=>eb b o hb e) f0 f1 f3 f4 f5⟩
 self:=λ_ _ _ _ _ st h=>wpAny_pyIter_striter_ascii st h
section
variable {X:Cx} {tg:Expr}
noncomputable def qR (tl:TE):TI:=λσ H R=>tl σ H λx H1=>∃ z,x=.str z/\z.cps.all (· < 128)=true/\R (qQ z) H1
theorem Yd {l:Expr} {tl:TE} (hl:PE X l tl):PI X tg l (qR tl):=by
 intro pins s σ H R I h
 refine zS (hl pins s σ H _ I h) λv s1 ⟨x,H1,I1,r1,q1⟩=>?_
 obtain ⟨z,e,ha,q⟩:=q1
 subst e
 obtain ⟨t,rfl⟩:=r1
 refine wpAny_pyIter_ascii ha ?_
 refine ⟨s1.heap.objs.size,[s1.heap.objs.size],_,_,H1,rfl,I1.kept (t':=s1.toks) λb o e=>Heap.get?_push_of_some _ e,Yc _ z t,⟨_,Heap.get?_push_size _ rfl,rfl,rfl⟩,λb hb=>?_,q⟩
 have e:b=s1.heap.objs.size:=by simpa using hb
 subst e
 exact I1.fpOk (Nat.le_refl _) (I1.hok.fresh (Nat.le_refl _))
theorem Ye {z:Str} {g:TG} {te:TE} {σ0:St} {H:Hp} {Q:VK} (Pv:Nat->List V->St->Hp->Prop) (h0:Pv 0 [] σ0 H) (hl:∀ i ys σ H,Pv i ys σ H->ys.length<=i) (hz:z.cps.size<=sizeLine)
  (hs:∀ i c ys σ H,z.cps[i]? = some c->Pv i ys σ H->g (.str ⟨#[c]⟩) σ H λσ2 H2=>te σ2 H2 λy H3=>Pv (i + 1) (ys++[y]) σ2 H3)
  (hd:∀ ys σ H,Pv z.cps.size ys σ H->∀ p,H p=none->Q (.ref p) (upd H p (.lst ys))):v8 (qQ z) g te Q σ0 H:=by
 refine ⟨λi m ys σ H=>m=z.cps.size - i/\i<=z.cps.size/\Pv i ys σ H,⟨z.cps.size,by simp,Nat.zero_le _,h0⟩,?_⟩
 rintro i m ys σ H ⟨rfl,hi,p⟩
 have hy:=hl i ys σ H p
 by_cases hlt:i < z.cps.size
 ·refine .inr ⟨hlt,by omega,λy σ' H'=>Pv (i + 1) (ys++[y]) σ' H',λy σ' H' q=>⟨z.cps.size - (i + 1),by omega,rfl,hlt,q⟩,λx H' y=>?_⟩
  obtain ⟨e,c,hc,e2⟩:=y
  subst e e2
  exact hs i c ys σ _ hc p
 ·have e:i=z.cps.size:=by omega
  subst e
  exact .inl ⟨Nat.le_refl _,hd ys σ H p⟩
end
theorem kL:∀ {ts:List Str} {us:List Value},zF (ts.map V.str) us->∃ l:List (Str × Tok),us=strValues l/\l.map (·.1)=ts
 | [],_,.nil=>⟨[],rfl,rfl⟩
 | x :: ts,_,.cons ⟨t,e⟩ r=>by
  subst e
  obtain ⟨l,e1,e2⟩:=kL r
  exact ⟨(x,t) :: l,by rw [e1]; rfl,by rw [<- e2]; rfl⟩
theorem kM:∀ l:List (Str × Tok),zF ((l.map (·.1)).map V.str) (strValues l)
 | []=>.nil
 | (x,t) :: l=>.cons ⟨t,rfl⟩ (kM l)
noncomputable def kN (K:PySem.W.Frag) (x:V) (vs:List V) (H:Hp) (Q:VK):Prop:=∃ sep l ts,x=.str sep/\vs=[.ref l]/\zE K H l (ts.map V.str)/\JoinOk sep ts=true/\Q (.str (Str.join sep ts)) H
section
variable {X:Cx}
theorem xh:v3 X "str.join" (kN X.K):=by
 intro pins s σ H x vs v us Q I rx rv h
 obtain ⟨sep,l,ts,rfl,rfl,hq,ok,q⟩:=h
 obtain ⟨t,rfl⟩:=rx
 obtain ⟨u,rfl,ru⟩:=rv.one
 cases (show u=Value.ref l from ru)
 obtain ⟨its,rvs,pl,hz⟩:=I.list hq
 obtain ⟨ls,rfl,e⟩:=kL rvs
 refine SC.join pl.isList e ok λt' k=>?_
 rw [show Txt.join sep ts=Str.join sep ts from StrLaws.glued_eq_join ..]
 exact ⟨.str _,H,I.tok k,⟨t',rfl⟩,q⟩
theorem qS:v3 X "str.split" (λx vs H Q=>∃ z y,x=.str z/\vs=[.str y]/\(y.length == 0)=false/\z.length + 1<=sizeLine/\∀ p,H p=none->Q (.ref p) (upd H p (.lst ((Txt.split z y).map V.str)))):=by
 intro pins s σ H x vs v us Q I rx rv h
 obtain ⟨z,y,rfl,rfl,hy,hz,q⟩:=h
 obtain ⟨t,rfl⟩:=rx
 obtain ⟨u,rfl,t2,rfl⟩:=rv.one
 have hy1:1<=y.length:=by
  have:=(beq_eq_false_iff_ne.mp hy)
  omega
 have w1:=PyProof.Rows.split_weight z y hy1
 have w:(Txt.split z y).length<=sizeLine:=by omega
 have fin:∀ (l:List (Str × Tok)) (k:Nat),l.map (·.1)=Txt.split z y->EP X pins σ Q (.ref s.heap.objs.size) { s with heap:=s.heap.push { cls:=.type "list",data:=.seq (strValues l).toArray },toks:=k }:=λl k e=>
  ⟨.ref _,_,I.lnew (ys:=(Txt.split z y).map V.str) (by rw [<- e]; exact kM l) (by rw [List.length_map]; exact w),rfl,q _ I.fresh⟩
 cases h1:(decide (z.length < y.length) || decide (strKind z < strKind y))
 ·cases hf:(occurrences z y 0 z.length (z.length + 1)).isEmpty
  ·have e':Txt.split z y=partsBetween z (occurrences z y 0 z.length (z.length + 1)) y.length:=(if_neg (ne_true_of_eq_false h1)).trans (if_neg (ne_true_of_eq_false hf))
   refine call_meets F.slot_str_split (typeIs_str _ _ _) F.entry_str_split (F.args_str_split_2 _ _) (meets_str_split_sep z y t t2 h1 hy hf (by omega) (by rw [<- e']; exact w)) ?_
   show wants _ _ _ { s with toks:=_,heap:=s.heap.push { cls:=.type "list",data:=.seq (strsFrom s.toks (partsBetween z (occurrences z y 0 z.length (z.length + 1)) y.length)).toArray } }
   rw [strsFrom_eq]
   exact fin (numbered s.toks _) _ ((numbered_texts _ _).trans e'.symm)
  ·exact call_meets F.slot_str_split (typeIs_str _ _ _) F.entry_str_split (F.args_str_split_2 _ _) (meets_str_split_not_found z y t t2 h1 hy hf)
    (fin [(z,t)] _ ((if_neg (ne_true_of_eq_false h1)).trans (if_pos hf)).symm)
 ·exact call_meets F.slot_str_split (typeIs_str _ _ _) F.entry_str_split (F.args_str_split_2 _ _) (meets_str_split_cannot_occur z y t t2 h1)
   (fin [(z,t)] _ (if_pos h1).symm)
theorem kO:v3 X "str.startswith" (λx vs H Q=>∃ z y,x=.str z/\vs=[.str y]/\Q (.bl (Txt.startswith z y)) H):=by
 intro pins s σ H x vs v us Q I rx rv h
 obtain ⟨z,y,rfl,rfl,q⟩:=h
 obtain ⟨t,rfl⟩:=rx
 obtain ⟨u,rfl,t2,rfl⟩:=rv.one
 exact SC.startswith ⟨.bl _,H,I,rfl,q⟩
theorem Yg:jy X (λx lo hi H Q=>∃ z i,x=.str z/\lo=some i/\hi=none/\z.length<=sizeLine/\Q (.str (Txt.slice z (some i) none)) H):=by
 intro pins s σ H x v vl vu lo hi sl Q I rx hs pl pu h
 obtain ⟨z,i,rfl,rfl,rfl,hz,q⟩:=h
 obtain ⟨t,rfl⟩:=rx
 cases pl with
 | int _ u=>
  cases pu
  refine ⟨"str",_,F.slot_str_getitem.lookup,typeIs_str _ _ _,wpAny_getItem_str_slice (l:=some (i,u)) (u:=none) (st:=none) hs rfl ?_⟩
  exact post_val_or_str ⟨Nat.le_trans (Txt.slice_le z _ _) hz,λt' k=>⟨.str _,H,I.tok k,⟨t',rfl⟩,q⟩⟩
theorem jG:yF X (binaryOp .Add) (λx y H Q=>∃ i j,x=.str i/\y=.str j/\i.length + j.length<=sizeLine/\Q (.str (i++j)) H):=by
 intro pins s σ H x y v u Q I rx ry h
 obtain ⟨i,j,rfl,rfl,hz,q⟩:=h
 obtain ⟨t,rfl⟩:=rx
 obtain ⟨t2,rfl⟩:=ry
 exact SB.add (λt' k=>⟨.str _,H,I.tok k,⟨t',rfl⟩,q⟩) hz
theorem Yh:yw X (.type "int") (λxs H Q=>∃ i:Int,xs=[.str (Sx.sN i)]/\i.natAbs < 10 ^ 60/\Q (.int i) H):=by
 intro pins s σ H xs us Q I r h
 obtain ⟨i,rfl,hz,q⟩:=h
 obtain ⟨u,rfl,t,rfl⟩:=xS r
 exact call_int_1 (Sx.meets_int_text i t hz) ⟨typeIs_int _ _ _,⟨.int i,H,I.tok _,⟨_,rfl⟩,q⟩⟩
theorem xi:yw X (.type "str") (λxs H Q=>(∃ i:Int,xs=[.int i]/\i.natAbs < 10 ^ 60/\Q (.str (Sx.sN i)) H)\/∃ x,xs=[.str x]/\Q (.str x) H):=by
 intro pins s σ H xs us Q I r h
 rcases h with ⟨i,rfl,hz,q⟩ | ⟨x,rfl,q⟩
 ·obtain ⟨u,rfl,t,rfl⟩:=xS r
  refine PySem.P.str_of_int ?_ ⟨.str _,H,I.tok _,⟨_,rfl⟩,q⟩
  by_cases h0:i.natAbs=0
  ·rw [h0]; decide
  ·exact (Nat.log2_lt h0).mpr (Nat.lt_trans hz (by decide +kernel))
 ·obtain ⟨u,rfl,t,rfl⟩:=xS r
  exact PySem.P.str_of_str ⟨.str _,H,I,⟨_,rfl⟩,q⟩
theorem uP {tg l:Expr} {w1 w2:TI} (h1:PI X tg l w1) (h2:PI X tg l w2):PI X tg l (λσ H R=>w1 σ H R\/w2 σ H R):=by
 intro pins s σ H R I h
 rcases h with h | h
 ·exact h1 pins s σ H R I h
 ·exact h2 pins s σ H R I h
variable {pos:Pos}
theorem wS {x:Str} {n:Str} (hg:Gl X x) (h:∃ t,X.mg x=some (.str n t)) (hd:(x == ("__debug__" : Str))=false:=by decide):PE X (.Name x pos) (tC (.str n)):=
 let ⟨t,e⟩:=h
 qx hg e ⟨t,rfl⟩ hd
end
theorem Yi (K:PySem.W.Frag):PySem.W.kitOne K (.type "str") (.type "str")=some true:=by first | rfl | decide +kernel | (unfold PySem.W.kitOne; rw [if_pos (by decide +kernel)])
end L2
namespace K91
open PySem L2 Sh Sx
noncomputable def zp (i:Nat):Stmt:=PySem.Challenge.pw_steadyhand_k91_points_rooms_runs_as_text.main.body.getD i (.Pass ⟨0,0,0,0⟩)
structure Bl (mg:Str->Option Value):Prop where
 isinstance_:mg "isinstance" = none
 int_:mg "int" = none
 bool_:mg "bool" = none
 tuple_:mg "tuple" = none
 len_:mg "len" = none
 abs_:mg "abs" = none
 list_:mg "list" = none
 range_:mg "range" = none
 max_:mg "max" = none
 all_:mg "all" = none
 str_:mg "str" = none
 FIGURES_:∃ t,mg "FIGURES" = some (.str (Str.ofString "0123456789") t)
 MOST_FIGURES_:∃ t,mg "MOST_FIGURES" = some (.int 60 t)
 NO_ROWS_:∃ t,mg "NO_ROWS" = some (.str (Str.ofString "all") t)
 ROW_BREAK_:∃ t,mg "ROW_BREAK" = some (.str (Str.ofString ", ") t)
 STEP_BREAK_:∃ t,mg "STEP_BREAK" = some (.str (Str.ofString "; ") t)
theorem kP {n:Nat} {t b:Int} (h:Bd n b) (hb:b≠0):Bd n (Int.gcd t b:Int):=by
 refine h.of_le ?_
 rw [Int.natAbs_natCast]
 exact Int.gcd_le_natAbs_right t hb
theorem uQ {n:Nat} {t b:Int} (h:Bd n b) (hb:b≠0):Bd n (cm t b):=by
 unfold cm
 split
 ·exact (kP h hb).neg
 ·exact kP h hb
noncomputable def wt:Sp:=λvs H Q _=>∃ i:Int,vs=[.int i]/\Q (.bl true) H
noncomputable def jH (K:PySem.W.Frag):Sp:=λvs H Q _=>∃ (a:Addr) (ns:List Int),vs=[.ref a]/\zV K H a (ns.map V.int)/\Q (.int (xE ns)) H
noncomputable def qT:Sp:=λvs H Q _=>∃ (r:Addr) (t b:Int),vs=[.ref r]/\H r=some (.tup [.int t,.int b])/\0 < b/\Int.gcd t b=1/\Q (.bl true) H
noncomputable def qU:Sp:=λvs H Q _=>∃ t b:Int,vs=[.int t,.int b]/\b≠0/\Bd 8000 b/\∀ r H',zC H H'->H' r=some (.tup [.int (xV t b),.int (xW t b)])->Q (.ref r) H'
noncomputable def tx:V->Str
 | .int i=>sN i
 | .str x=>x
 | _=>Str.ofString ""
noncomputable def kQ (v:V):Prop:=(∃ i:Int,v=.int i/\Nm i)\/∃ x:Str,v=.str x/\x.length<=1000
theorem Yj {v:V} (h:kQ v):(tx v).length<=1000:=by
 rcases h with ⟨i,rfl,h⟩ | ⟨x,rfl,h⟩
 ·have:=(xD h).2
  show (sN i).length<=_
  omega
 ·exact h
theorem Yk (r:List Int):(r.map V.int).map tx=r.map sN:=by rw [List.map_map]; rfl
theorem wT:16777216<=sizeLine:=by decide
theorem yb:yC.length=1:=by decide +kernel
theorem xj:xO.length=1:=by decide +kernel
theorem wU:xx.length=2:=by decide +kernel
theorem wV:xg.length=2:=by decide +kernel
theorem y4 {α:Type} {l:List α} {i:Nat} {x:α} (h:l[i]? = some x):l.take (i + 1)=l.take i++[x]:=by rw [List.take_add_one,h]; rfl
noncomputable def jI (K:PySem.W.Frag):Sp:=λvs H Q _=>∃ (a:Addr) (xs:List V),vs=[.ref a]/\u5 K H a xs/\xs.length<=10/\(∀ x∈xs,kQ x)/\∀ H',zC H H'->Q (.str (Str.join yC (xs.map tx))) H'
noncomputable def xy:Sp:=λvs H Q _=>∃ (p:Addr) (a b:Int),vs=[.ref p]/\H p=some (.tup [.int a,.int b])/\Nm a/\Nm b/\Q (.str (sF (a,b))) H
noncomputable def wy (n:Nat) (room:List (List Int)):Prop:=room.length<=6/\n<=4/\∀ r∈room,r.length=n/\∀ x∈r,Nm x
noncomputable def qV (K:PySem.W.Frag):Sp:=λvs H Q _=>∃ (a:Addr) (rv:List V) (room:List (List Int)) (n:Nat),vs=[.ref a]/\zE K H a rv/\yA H rv room/\wy n room/\∀ H',zC H H'->Q (.str (if room=[] then Str.ofString "all" else sR room)) H'
noncomputable def xP (p:Int × Int):Prop:=Nm p.1/\Nm p.2/\0 < p.2/\Int.gcd p.1 p.2=1
noncomputable def jJ (K:PySem.W.Frag):Sp:=λvs H Q _=>∃ (a:Addr) (pv:List V) (pts:List (Int × Int)),vs=[.ref a]/\zE K H a pv/\zx H pv pts/\pts.length<=7/\(∀ p∈pts,xP p)/\∀ H',zC H H'->Q (.str (sP pts)) H'
noncomputable def wW (H:Hp) (v:V) (s:zw):Prop:=∃ (t f l:Addr) (p:Int × Int) (pv:List V) (ps:List (Int × Int)),v=.ref t/\H t=some (.tup [.int s.1,.ref f,.ref l])/\H f=some (.tup [.int p.1,.int p.2])/\H l=some (.lst pv)/\zx H pv ps/\s.2=p :: ps
theorem wW.same {H H':Hp} {v:V} {s:zw} (m:zC H H') (h:wW H v s):wW H' v s:=by
 obtain ⟨t,f,l,p,pv,ps,a,b,c,d,e,g⟩:=h
 exact ⟨t,f,l,p,pv,ps,a,m _ _ b,m _ _ c,m _ _ d,zx.same m e,g⟩
noncomputable abbrev zd (H:Hp) (vs:List V) (r:List zw):Prop:=Paired (wW H) vs r
theorem zd.same {H H':Hp} {vs:List V} {r:List zw} (m:zC H H') (h:zd H vs r):zd H' vs r:=by
 induction h with
 | nil=>exact .nil
 | cons a _ ih=>exact .cons (a.same m) ih
noncomputable def xk (w:Nat) (s:zw):Prop:=Nm s.1/\s.2.length=w + 1/\w<=6/\∀ p∈s.2,xP p
noncomputable def qW:Sp:=λvs H Q _=>∃ (v:V) (s:zw) (w:Nat),vs=[v]/\wW H v s/\xk w s/\∀ H',zC H H'->Q (.str (sS s)) H'
noncomputable def qX (K:PySem.W.Frag):Sp:=λvs H Q _=>∃ (a:Addr) (rv:List V) (r:List zw) (w:Nat),vs=[.ref a]/\zE K H a rv/\zd H rv r/\r.length<=6/\(∀ s∈r,xk w s)/\∀ H',zC H H'->Q (.str (yE r)) H'
theorem jK {n:Nat} {r:List Int} (h1:r.length=n) (h2:n<=4) (h:∀ x∈r,Nm x):(sW r).length<=248:=by
 have:=uN (y:=yC) (ps:=r.map sN) (B:=61) (λq hq=>by
  obtain ⟨i,hi,rfl⟩:=List.mem_map.mp hq
  exact (xD (h i hi)).2)
 rw [List.length_map,yb] at this
 show (Str.join yC (r.map sN)).length<=_
 have z:r.length * (61 + 1)<=4 * 62:=Nat.mul_le_mul (by omega) (Nat.le_refl _)
 omega
theorem qY {ps:List (Int × Int)} (h1:ps.length<=7) (h:∀ p∈ps,xP p):(sP ps).length<=868:=by
 have:=uN (y:=yC) (ps:=ps.map sF) (B:=123) (λq hq=>by
  obtain ⟨i,hi,rfl⟩:=List.mem_map.mp hq
  exact wx ⟨(h i hi).1,(h i hi).2.1⟩)
 rw [List.length_map,yb] at this
 show (Str.join yC (ps.map sF)).length<=_
 have z:ps.length * (123 + 1)<=7 * 124:=Nat.mul_le_mul h1 (Nat.le_refl _)
 omega
theorem kR {s:zw} (h:s.2≠[]):Str.join yC [sN s.1,sP s.2]=sS s:=YS _ _ (uM h)
theorem jL {w:Nat} {s:zw} (h:xk w s):(sS s).length<=2002:=by
 rw [<- kR (s:=s) (by intro z; have:=h.2.1; rw [z] at this; cases this)]
 have h2:=qY (ps:=s.2) (by have:=h.2.1; have:=h.2.2.1; omega) h.2.2.2
 have h1:=(xD h.1).2
 have:=uN (y:=yC) (ps:=[sN s.1,sP s.2]) (B:=1000) (λq hq=>by
  rcases List.mem_cons.mp hq with e | e
  ·rw [e]; omega
  ·rw [List.mem_singleton.mp e]; omega)
 rw [yb] at this
 exact this
theorem Yl {n:Nat} {room:List (List Int)} (h:wy n room):(sR room).length<=1500:=by
 have:=uN (y:=xx) (ps:=room.map sW) (B:=248) (λq hq=>by
  obtain ⟨i,hi,rfl⟩:=List.mem_map.mp hq
  exact jK (h.2.2 i hi).1 h.2.1 (h.2.2 i hi).2)
 rw [List.length_map,wU] at this
 show (Str.join xx (room.map sW)).length<=_
 have z:room.length * (248 + 2)<=6 * 250:=Nat.mul_le_mul h.1 (Nat.le_refl _)
 omega
theorem Ym {w:Nat} {r:List zw} (h1:r.length<=6) (h:∀ s∈r,xk w s):(yE r).length<=12024:=by
 have:=uN (y:=xg) (ps:=r.map sS) (B:=2002) (λq hq=>by
  obtain ⟨i,hi,rfl⟩:=List.mem_map.mp hq
  exact jL (h i hi))
 rw [List.length_map,wV] at this
 show (Str.join xg (r.map sS)).length<=_
 have z:r.length * (2002 + 2)<=6 * 2004:=Nat.mul_le_mul h1 (Nat.le_refl _)
 omega
section
variable {P:Program} {w:World} {K:PySem.W.Frag} {mg:Str->Option Value} {base:Heap}
noncomputable abbrev wz:Stmt:=zp 5
theorem Yn:ze ["thing"] ["thing"] (zK wz):=.a
theorem Yo {k:Nat} {f:Addr} {fd:FuncData} (F:zg K "is_whole" "is_whole" wz f fd) (B:Bl mg):zG P w K mg base zW (k + 1) f fd ["thing"] wt:=by
 refine F.ok Yn (λvs H Q E h=>?_) (λcdv A outer s H vs Q E hr h=>?_)
 ·obtain ⟨_,rfl,_⟩:=h
  rfl
 obtain ⟨i,rfl,q⟩:=h
 refine ⟨_,(zN (zT (we (zt y1 rfl B.isinstance_ y3 (zA (L2.pv 0) (zA (yt (v:=.ty "int") (u:=.type "int") rfl B.int_ gl rfl) zD))) (wd (uc (zt y1 rfl B.isinstance_ y3 (zA (L2.pv 0) (zA (yt (v:=.ty "bool") (u:=.type "bool") rfl B.bool_ uu rfl) zD)))))))),?_⟩
 try dsimp only [zJ,Cx.nox,Cx.wish]
 refine ⟨_,rfl,_,_,_,_,rfl,.int _,Zs _,_,rfl,xU ?_⟩
 exact ⟨_,rfl,_,_,_,_,rfl,.int _,uv _,_,rfl,q⟩
noncomputable abbrev w4:Stmt:=zp 6
theorem wX:ze ["numbers","common","number","rest","left"] ["numbers"] (zK w4):=.a
theorem Yp {k:Nat} {f:Addr} {fd:FuncData} (F:zg K "common_divisor" "common_divisor" w4 f fd) (B:Bl mg):zG P w K mg base zW (k + 1) f fd ["numbers"] (jH K):=by
 refine F.ok wX (λvs H Q E h=>?_) (λcdv A outer s H vs Q E hr h=>?_)
 ·obtain ⟨_,_,rfl,_⟩:=h
  rfl
 obtain ⟨a,ns,rfl,hS,q⟩:=h
 refine ⟨_,(zL (zb (i:=1) wX.nd rfl (Or.inl rfl) zH)
  (zL (xn PassesOwn.never rfl (jk (L2.pv 0)) (zy (i:=2) wX.nd rfl (Or.inl rfl)) (zL (zb (i:=3) wX.nd rfl (Or.inl rfl) (zt uj rfl B.abs_ ur (zA (L2.pv 2) zD)))
   (zN (qz PassesOwn.never (zn xL (L2.pv 3) zH (zc _)) (zL (zb (i:=4) wX.nd rfl (Or.inl rfl) (zQ yc (L2.pv 1) (L2.pv 3)))
    (zL (zb (i:=1) wX.nd rfl (Or.inl rfl) (L2.pv 3))
    (zN (zb (i:=3) wX.nd rfl (Or.inl rfl) (L2.pv 4)))))))))
  (zN (zT (L2.pv 1))))),?_⟩
 try dsimp only [zJ,Cx.nox,Cx.wish]
 refine ⟨_,rfl,a,rfl,⟨_,hS⟩,ZH (K:=K) (a:=a) (xs:=ns.map V.int) (λi σ H2=>∃ n r l,σ=[some (.ref a),some (.int (xE (ns.take i))),n,r,l]/\H2=H)
  ⟨none,none,none,rfl,rfl⟩ (λi σ H2 _ ⟨_,_,_,_,e⟩=>e ▸ hS) ?_ ?_⟩
 ·rintro i x σ H2 hi ⟨n,r,l,rfl,rfl⟩
  obtain ⟨z,hz,rfl⟩:∃ z,ns[i]? = some z/\x=V.int z:=by
   rw [List.getElem?_map] at hi
   cases e:ns[i]? with
   | none=>rw [e] at hi; cases hi
   | some z=>rw [e] at hi; exact ⟨z,rfl,(Option.some.inj hi).symm⟩
  have hlt:i < ns.length:=(List.getElem?_eq_some_iff.mp hz).1
  have ez:ns[i]=z:=(List.getElem?_eq_some_iff.mp hz).2
  have tk:xE (ns.take (i + 1))=(Int.gcd (xE (ns.take i)) z:Int):=by rw [List.take_succ_eq_append_getElem hlt,gX,ez]
  refine ⟨_,rfl,z,rfl,?_⟩
  refine q5 (λσ H'=>∃ (c r:Int) (l:Option V),σ=[some (.ref a),some (.int c),some (.int z),some (.int r),l]/\H'=H2/\0<=c/\0<=r/\Int.gcd c r=Int.gcd (xE (ns.take i)) z)
   (λσ _=>match σ with | [_,_,_,some (.int r),_]=>r.toNat | _=>0) ⟨_,_,l,rfl,rfl,Zh _,(by split <;> omega),Zk _ _⟩ ?_ ?_
  ·rintro σ H' ⟨c,r,l,rfl,rfl,hc,hr0,hg⟩
   refine ⟨_,rfl,rfl,_,rfl,?_⟩
   by_cases z0:r=0
   ·subst z0
    refine xp rfl ?_
    rw [Int.gcd_zero_right] at hg
    have ec:c=xE (ns.take (i + 1)):=by rw [tk]; omega
    exact ⟨_,_,_,by rw [ec],rfl⟩
   ·have ne:¬ (V.int r=V.int 0):=λe=>z0 (by injection e)
    refine xB (gn z0) ?_
    refine ⟨_,rfl,_,rfl,_,_,rfl,rfl,z0,_,rfl,_,rfl,?_⟩
    have h1:=Int.fmod_nonneg_of_pos c (show 0 < r by omega)
    have h2:=Int.fmod_lt_of_pos c (show 0 < r by omega)
    refine ⟨⟨r,c.fmod r,_,rfl,rfl,hr0,h1,by rw [gY]; exact hg⟩,?_⟩
    show (c.fmod r).toNat < r.toNat
    omega
  ·rintro σ H' Q1 Q2 h ⟨v,e,sc,k,ek,q1⟩
   exact ⟨v,e,sc,k,ek,h _ _ q1⟩
 ·rintro σ H2 ⟨n,r,l,rfl,rfl⟩
  refine ⟨_,rfl,?_⟩
  rw [List.length_map,List.take_length]
  exact q
noncomputable abbrev w8:Stmt:=zp 7
theorem Yq:ze ["thing"] ["thing"] (zK w8):=.a
theorem Yr {k:Nat} {f:Addr} {fd:FuncData} (F:zg K "is_fraction" "is_fraction" w8 f fd) (B:Bl mg) (ae:Fn P w K mg base "is_whole" ["thing"] k wt) (am:Fn P w K mg base "common_divisor" ["numbers"] k (jH K)):zG P w K mg base zW (k + 1) f fd ["thing"] qT:=by
 refine F.ok Yq (λvs H Q E h=>?_) (λcdv A outer s H vs Q E hr h=>?_)
 ·obtain ⟨_,_,_,rfl,_⟩:=h
  rfl
 obtain ⟨r,t,b,rfl,h,b0,g1,q⟩:=h
 refine ⟨_,(zL (zm (PW.pt (yR (yM (yH (zt y1 rfl B.isinstance_ y3 (zA (L2.pv 0) (zA (yt (v:=.ty "tuple") (u:=.type "tuple") rfl B.tuple_ wn rfl) zD))))) (yu (zn xL (zt wJ rfl B.len_ xX (zA (L2.pv 0) zD)) zH (zc _))))) (zN (zT yr)) zl)
  (zL (zm (PW.pt (yR (yM (yH (zO ae hr rfl (zA (zo yN (L2.pv 0) zH (λ_ _=>rfl)) zD)))) (yu (yM (yH (zO ae hr rfl (zA (zo yN (L2.pv 0) zH (λ_ _=>rfl)) zD))))))) (zN (zT yr)) zl)
  (zN (zT (we (xo jr (zo yN (L2.pv 0) zH (λ_ _=>rfl)) zH (zc _)) (wd (xo yh (zO am hr rfl (zA (L2.pv 0) zD)) zH (zc _)))))))),?_⟩
 try dsimp only [zJ,Cx.nox,Cx.wish]
 refine ⟨_,rfl,_,_,_,_,rfl,.tup h,uw _,_,rfl,zU ?_⟩
 refine ⟨_,rfl,r,_,rfl,.inr (zV.of h),rfl,_,rfl,xp rfl ?_⟩
 refine ⟨_,rfl,r,_,0,_,rfl,rfl,zV.of h,wP,t,rfl,_,rfl,zU ?_⟩
 refine ⟨_,rfl,r,_,1,_,rfl,rfl,zV.of h,xb,b,rfl,_,rfl,zU ?_⟩
 refine ⟨_,rfl,r,_,1,_,rfl,rfl,zV.of h,xb,_,_,rfl,rfl,_,rfl,xB (decide_eq_true (show b ≥ 1 by omega)) ?_⟩
 refine ⟨_,rfl,r,[t,b],rfl,zV.of h,rfl,?_⟩
 have z:decide (V.int (xE [t,b])=V.int 1)=true:=by
  rw [gW,wo (by rw [g1]; rfl)]
 rw [z]
 exact q
noncomputable abbrev vA:Stmt:=zp 8
theorem qZ:ze ["top","bottom","common"] ["top","bottom"] (zK vA):=.a
theorem Ys {k:Nat} {f:Addr} {fd:FuncData} {dv:Value} (F:yX K "fraction" "fraction" vA f fd dv) (B:Bl mg) (ae:Fn P w K mg base "is_whole" ["thing"] k wt) (am:Fn P w K mg base "common_divisor" ["numbers"] k (jH K)):zG P w K mg base zW (k + 1) f fd ["top","bottom"] qU:=by
 refine F.ok qZ (λvs H Q E h=>?_) (λcdv A outer s H vs Q E hr h=>?_)
 ·obtain ⟨_,_,rfl,_⟩:=h
  rfl
 obtain ⟨t,b,rfl,b0,bb,q⟩:=h
 refine ⟨_,(zL (zm (PW.pt (yR (yM (yH (zO ae hr rfl (zA (L2.pv 0) zD)))) (yu (yM (yH (zO ae hr rfl (zA (L2.pv 1) zD))))))) (zN x9) zl)
  (zL (zm (zn yh (L2.pv 1) zH (zc _)) (zN x9) zl)
  (zL (zb (i:=2) qZ.nd rfl (Or.inl rfl) (zO am hr rfl (zA (wH (zA (L2.pv 0) (zA (L2.pv 1) zD))) zD)))
  (zL (zm (zn jq (L2.pv 1) zH (zc _)) (zN (zb (i:=2) qZ.nd rfl (Or.inl rfl) (vm ZK (L2.pv 2)))) zl)
  (zN (zT (wH (zA (zQ xr (L2.pv 0) (L2.pv 2)) (zA (zQ xr (L2.pv 1) (L2.pv 2)) zD))))))))),?_⟩
 try dsimp only [zJ,Cx.nox,Cx.wish]
 refine ⟨_,rfl,t,rfl,_,rfl,zU ?_⟩
 refine ⟨_,rfl,b,rfl,_,rfl,zU ?_⟩
 refine ⟨_,rfl,rfl,_,rfl,?_⟩
 refine yY (gm b0) ?_
 refine ⟨_,rfl,_,rfl,(by show 2<=sizeLine; decide),λp hp=>?_⟩
 refine ⟨p,[t,b],rfl,zV.of zP,?_⟩
 rw [gW]
 have sm:=zR hp (HO.tup [.int t,.int b])
 have fin:∀ c:Int,c=cm t b->∀ D':Hp,D'=upd H p (.tup [.int t,.int b])->(t.fdiv c)=xV t b/\b.fdiv c=xW t b/\c≠0/\Bd 8000 c:=λc e _ _=>by
  subst e
  exact ⟨rfl,rfl,v4 b0,uQ bb b0⟩
 refine ⟨_,rfl,_,_,rfl,rfl,_,rfl,?_⟩
 refine yV (λhb=>?_) (λhb=>?_)
 ·have hb':b < 0:=of_decide_eq_true hb
  refine ⟨_,rfl,_,rfl,?_⟩
  have ec : -(Int.gcd t b:Int)=cm t b:=by unfold cm; rw [if_pos hb']
  obtain ⟨e1,e2,e3,e4⟩:=fin _ ec _ rfl
  refine ⟨_,rfl,_,rfl,_,_,rfl,rfl,⟨e3,e4⟩,_,rfl,_,rfl,_,_,rfl,rfl,⟨e3,e4⟩,(by show 2<=sizeLine; decide),λr hr'=>?_⟩
  exact q r _ (sm.trans (zR hr' _)) (zP.trans (by show some (HO.tup [V.int (t.fdiv _),V.int (b.fdiv _)])=_; rw [e1,e2]))
 ·have hb':¬ b < 0:=λz=>hb (decide_eq_true z)
  have ec:(Int.gcd t b:Int)=cm t b:=by unfold cm; rw [if_neg hb']
  obtain ⟨e1,e2,e3,e4⟩:=fin _ ec _ rfl
  refine ⟨_,rfl,_,rfl,_,_,rfl,rfl,⟨e3,e4⟩,_,rfl,_,rfl,_,_,rfl,rfl,⟨e3,e4⟩,(by show 2<=sizeLine; decide),λr hr'=>?_⟩
  exact q r _ (sm.trans (zR hr' _)) (zP.trans (by show some (HO.tup [V.int (t.fdiv _),V.int (b.fdiv _)])=_; rw [e1,e2]))
noncomputable abbrev vB:Stmt:=zp 15
theorem Yt:ze ["words"] ["words"] (zK vB):=.a
theorem Yu {k:Nat} {f:Addr} {fd:FuncData} (F:zg K "show_words" "show_words" vB f fd) (B:Bl mg):zG P w K mg base zW (k + 1) f fd ["words"] (jI K):=by
 refine F.ok Yt (λvs H Q E h=>?_) (λcdv A outer s H vs Q E hr h=>?_)
 ·obtain ⟨_,_,rfl,_⟩:=h
  rfl
 obtain ⟨a,xs,rfl,hS,n10,ok,q⟩:=h
 refine ⟨_,(zN (zT (yK PySem.F.plainAttrs_str PySem.F.slot_str_join PySem.F.type_str_join xh yJ (zA (yn (own:=["word"]) (caps:=[]) (xF rfl) rfl (uP (yS (L2.pv 0)) (jk (L2.pv 0))) (λ_ _ _ _=>zy (i:=0) (show (["word"]:List Str).Nodup by decide +kernel) rfl (Or.inl rfl)) (λ_ _ _ _=>(yk xi rfl B.str_ xM (zA (L2.pv 0) zD)))) zD)))),?_⟩
 try dsimp only [zJ,Cx.nox,Cx.wish]
 have jo:JoinOk yC (xs.map tx)=true:=xf (B:=1000) (λy hy=>by
  obtain ⟨x,hx,rfl⟩:=List.mem_map.mp hy
  exact Yj (ok x hx)) (by
   rw [List.length_map,yb]
   have:=Nat.mul_le_mul n10 (Nat.le_refl (1000 + 1))
   omega)
 rcases hS with hS | hS
 ·refine ⟨rfl,.inr ⟨_,rfl,a,rfl,⟨_,hS⟩,gu (K:=K) (a:=a) (xs:=xs) (λi ys σ H'=>ys=((xs.take i).map tx).map V.str/\(∃ o,σ=[o])/\H'=H)
    ⟨rfl,⟨none,rfl⟩,rfl⟩ (λi ys σ H' _ ⟨e,_,e2⟩=>⟨by rw [e2]; exact hS,by rw [e,List.length_map,List.length_map,List.length_take]; omega⟩) (Nat.le_of_lt (zz (by omega))) ?_ ?_⟩⟩
  ·rintro i x ys σ H' hx ⟨rfl,⟨o,rfl⟩,rfl⟩
   have st:∀ y:V,y=.str (tx x)->((xs.take i).map tx).map V.str++[y]=((xs.take (i + 1)).map tx).map V.str:=λy e=>by rw [y4 hx,List.map_append,List.map_append,e]; rfl
   rcases ok x (List.mem_of_getElem? hx) with ⟨j,rfl,hj⟩ | ⟨z,rfl,hz⟩
   ·exact ⟨_,rfl,.inl ⟨j,rfl,hj,st _ rfl,⟨_,rfl⟩,rfl⟩⟩
   ·exact ⟨_,rfl,.inr ⟨z,rfl,st _ rfl,⟨_,rfl⟩,rfl⟩⟩
  rintro ys σ H' ⟨rfl,⟨o,rfl⟩,rfl⟩ l hl
  rw [List.take_length]
  exact ⟨_,l,xs.map tx,rfl,rfl,zE.of zP,jo,q _ (zR hl _)⟩
 ·refine ⟨rfl,.inl ⟨_,rfl,a,rfl,⟨_,hS⟩,yo (K:=K) (a:=a) (xs:=xs) (λi ys σ H'=>ys=((xs.take i).map tx).map V.str/\(∃ o,σ=[o])/\H'=H)
    ⟨rfl,⟨none,rfl⟩,rfl⟩ (λi ys σ H' _ ⟨e,_,e2⟩=>⟨by rw [e2]; exact hS,by rw [e,List.length_map,List.length_map,List.length_take]; omega⟩) (Nat.le_of_lt (zz (by omega))) ?_ ?_⟩⟩
  ·rintro i x ys σ H' hx ⟨rfl,⟨o,rfl⟩,rfl⟩
   have st:∀ y:V,y=.str (tx x)->((xs.take i).map tx).map V.str++[y]=((xs.take (i + 1)).map tx).map V.str:=λy e=>by rw [y4 hx,List.map_append,List.map_append,e]; rfl
   rcases ok x (List.mem_of_getElem? hx) with ⟨j,rfl,hj⟩ | ⟨z,rfl,hz⟩
   ·exact ⟨_,rfl,.inl ⟨j,rfl,hj,st _ rfl,⟨_,rfl⟩,rfl⟩⟩
   ·exact ⟨_,rfl,.inr ⟨z,rfl,st _ rfl,⟨_,rfl⟩,rfl⟩⟩
  rintro ys σ H' ⟨rfl,⟨o,rfl⟩,rfl⟩ l hl
  rw [List.take_length]
  exact ⟨_,l,xs.map tx,rfl,rfl,zE.of zP,jo,q _ (zR hl _)⟩
noncomputable abbrev vC:Stmt:=zp 16
theorem Yv:ze ["value"] ["value"] (zK vC):=.a
theorem Yw {k:Nat} {f:Addr} {fd:FuncData} (F:zg K "show_fraction" "show_fraction" vC f fd) (B:Bl mg):zG P w K mg base zW (k + 1) f fd ["value"] xy:=by
 refine F.ok Yv (λvs H Q E h=>?_) (λcdv A outer s H vs Q E hr h=>?_)
 ·obtain ⟨_,_,_,rfl,_⟩:=h
  rfl
 obtain ⟨p,a,b,rfl,hp,na,nb,q⟩:=h
 refine ⟨_,(zL (zm (zn yh (zo yN (L2.pv 0) zH (λ_ _=>rfl)) zH (zc _)) (zN (zT (yk xi rfl B.str_ xM (zA (zo yN (L2.pv 0) zH (λ_ _=>rfl)) zD)))) zl)
  (zN (zT (zQ jG (zQ jG (yk xi rfl B.str_ xM (zA (zo yN (L2.pv 0) zH (λ_ _=>rfl)) zD)) yJ) (yk xi rfl B.str_ xM (zA (zo yN (L2.pv 0) zH (λ_ _=>rfl)) zD)))))),?_⟩
 try dsimp only [zJ,Cx.nox,Cx.wish]
 have la:=(xD na).2
 have lb:=(xD nb).2
 have l16:=wT
 refine ⟨_,rfl,p,_,1,_,rfl,rfl,zV.of hp,xb,rfl,_,rfl,?_⟩
 unfold sF at q
 by_cases e:b=1
 ·refine xB (wo e) ?_
  rw [if_pos (show (a,b).2=1 from e)] at q
  exact ⟨_,rfl,p,_,0,_,rfl,rfl,zV.of hp,wP,.inl ⟨a,rfl,na,q⟩⟩
 ·refine yY (decide_eq_false λz=>e (V.int.inj z)) ?_
  rw [if_neg (show ¬ (a,b).2=1 from e)] at q
  refine ⟨_,rfl,p,_,0,_,rfl,rfl,zV.of hp,wP,.inl ⟨a,rfl,na,?_⟩⟩
  refine ⟨_,_,rfl,rfl,?_,_,rfl,p,_,1,_,rfl,rfl,zV.of hp,xb,.inl ⟨b,rfl,nb,_,_,rfl,rfl,?_,q⟩⟩
  ·show (sN a).length + xO.length<=_
   rw [xj]; omega
  ·show (sN a++xO).length + _<=_
   rw [Str.length_append,xj]; omega
noncomputable abbrev vD:Stmt:=zp 17
theorem Yx:ze ["room"] ["room"] (zK vD):=.a
theorem Yy {k:Nat} {f:Addr} {fd:FuncData} (F:zg K "show_room" "show_room" vD f fd) (B:Bl mg) (ao:Fn P w K mg base "show_words" ["words"] k (jI K)):zG P w K mg base zW (k + 1) f fd ["room"] (qV K):=by
 refine F.ok Yx (λvs H Q E h=>?_) (λcdv A outer s H vs Q E hr h=>?_)
 ·obtain ⟨_,_,_,_,rfl,_⟩:=h
  rfl
 obtain ⟨a,rv,room,n,rfl,ha,hrv,RT,q⟩:=h
 refine ⟨_,(zL (zm (zn yh (zt wJ rfl B.len_ xX (zA (L2.pv 0) zD)) zH (zc _)) (zN (zT (wS rfl B.NO_ROWS_))) zl)
  (zN (zT (yK PySem.F.plainAttrs_str PySem.F.slot_str_join PySem.F.type_str_join xh (wS rfl B.ROW_BREAK_) (zA (yn (own:=["row"]) (caps:=[]) (xF rfl) rfl (yS (L2.pv 0)) (λ_ _ _ _=>zy (i:=0) (show (["row"]:List Str).Nodup by decide +kernel) rfl (Or.inl rfl)) (λ_ _ _ _=>(zO ao hr rfl (zA (L2.pv 0) zD)))) zD))))),?_⟩
 try dsimp only [zJ,Cx.nox,Cx.wish]
 have lr:rv.length=room.length:=Paired.length hrv
 obtain ⟨r6,n4,rok⟩:=id RT
 refine ⟨_,rfl,a,_,rfl,.inl ha,rfl,_,rfl,?_⟩
 by_cases e0:room=[]
 ·refine xB (wo (by rw [lr,e0]; rfl)) ?_
  have z:=q _ (zC.refl H)
  rw [if_pos e0] at z
  exact z
 ·have hpos:0 < room.length:=List.length_pos_iff.mpr e0
  refine yY (decide_eq_false λz=>by have:=V.int.inj z; omega) ?_
  have jo:JoinOk xx (room.map sW)=true:=xf (B:=248) (λy hy=>by
   obtain ⟨x,hx,rfl⟩:=List.mem_map.mp hy
   exact jK (rok x hx).1 n4 (rok x hx).2) (by
    rw [List.length_map,wU]
    have:=Nat.mul_le_mul r6 (Nat.le_refl (248 + 2))
    omega)
  refine ⟨rfl,_,rfl,a,rfl,⟨_,ha⟩,yo (K:=K) (a:=a) (xs:=rv) (λi ys σ H'=>ys=((room.take i).map sW).map V.str/\(∃ o,σ=[o])/\zC H H')
   ⟨rfl,⟨none,rfl⟩,zC.refl _⟩ (λi ys σ H' _ ⟨e,_,sm⟩=>⟨sm.seq ha,by rw [e,List.length_map,List.length_map,List.length_take]; omega⟩) (Nat.le_of_lt (zz (by omega))) ?_ ?_⟩
  ·rintro i x ys σ H' hx ⟨rfl,⟨o,rfl⟩,sm⟩
   obtain ⟨r,hr',t,rfl,ht⟩:=xC hrv hx
   obtain ⟨rl,rb⟩:=rok r (List.mem_of_getElem? hr')
   refine ⟨_,rfl,t,r.map V.int,rfl,.inl (zV.of (sm _ _ ht)),(by rw [List.length_map]; omega),(λx hx=>?_),λH3 s3=>⟨?_,⟨_,rfl⟩,sm.trans s3⟩⟩
   ·obtain ⟨j,hj,rfl⟩:=List.mem_map.mp hx
    exact .inl ⟨j,rfl,rb j hj⟩
   ·rw [y4 hr',List.map_append,List.map_append,Yk]
    rfl
  rintro ys σ H' ⟨rfl,⟨o,rfl⟩,sm⟩ l hl
  rw [lr,List.take_length]
  have z:=q _ (sm.trans (zR hl (HO.lst ((room.map sW).map V.str))))
  rw [if_neg e0] at z
  exact ⟨_,l,room.map sW,rfl,rfl,zE.of zP,jo,z⟩
noncomputable abbrev vE:Stmt:=zp 18
theorem Yz:ze ["point"] ["point"] (zK vE):=.a
theorem Y0 {k:Nat} {f:Addr} {fd:FuncData} (F:zg K "show_point" "show_point" vE f fd) (B:Bl mg) (ap:Fn P w K mg base "show_fraction" ["value"] k xy):zG P w K mg base zW (k + 1) f fd ["point"] (jJ K):=by
 refine F.ok Yz (λvs H Q E h=>?_) (λcdv A outer s H vs Q E hr h=>?_)
 ·obtain ⟨_,_,_,rfl,_⟩:=h
  rfl
 obtain ⟨a,pv,pts,rfl,ha,hpt,p7,ok,q⟩:=h
 refine ⟨_,(zN (zT (yK PySem.F.plainAttrs_str PySem.F.slot_str_join PySem.F.type_str_join xh yJ (zA (yn (own:=["value"]) (caps:=[]) (xF rfl) rfl (yS (L2.pv 0)) (λ_ _ _ _=>zy (i:=0) (show (["value"]:List Str).Nodup by decide +kernel) rfl (Or.inl rfl)) (λ_ _ _ _=>(zO ap hr rfl (zA (L2.pv 0) zD)))) zD)))),?_⟩
 try dsimp only [zJ,Cx.nox,Cx.wish]
 have lr:pv.length=pts.length:=Paired.length hpt
 have jo:JoinOk yC (pts.map sF)=true:=xf (B:=123) (λy hy=>by
  obtain ⟨x,hx,rfl⟩:=List.mem_map.mp hy
  exact wx ⟨(ok x hx).1,(ok x hx).2.1⟩) (by
   rw [List.length_map,yb]
   have:=Nat.mul_le_mul p7 (Nat.le_refl (123 + 1))
   omega)
 refine ⟨rfl,_,rfl,a,rfl,⟨_,ha⟩,yo (K:=K) (a:=a) (xs:=pv) (λi ys σ H'=>ys=((pts.take i).map sF).map V.str/\(∃ o,σ=[o])/\zC H H')
  ⟨rfl,⟨none,rfl⟩,zC.refl _⟩ (λi ys σ H' _ ⟨e,_,sm⟩=>⟨sm.seq ha,by rw [e,List.length_map,List.length_map,List.length_take]; omega⟩) (Nat.le_of_lt (zz (by omega))) ?_ ?_⟩
 ·rintro i x ys σ H' hx ⟨rfl,⟨o,rfl⟩,sm⟩
  obtain ⟨r,hr',t,rfl,ht⟩:=xC hpt hx
  have z:=ok r (List.mem_of_getElem? hr')
  refine ⟨_,rfl,t,r.1,r.2,rfl,sm _ _ ht,z.1,z.2.1,?_,⟨_,rfl⟩,sm⟩
  rw [y4 hr',List.map_append,List.map_append]
  rfl
 rintro ys σ H' ⟨rfl,⟨o,rfl⟩,sm⟩ l hl
 rw [lr,List.take_length]
 exact ⟨_,l,pts.map sF,rfl,rfl,zE.of zP,jo,q _ (sm.trans (zR hl _))⟩
noncomputable abbrev vF:Stmt:=zp 19
theorem Y1:ze ["step"] ["step"] (zK vF):=.a
theorem Y2 {k:Nat} {f:Addr} {fd:FuncData} (F:zg K "show_step" "show_step" vF f fd) (B:Bl mg) (ao:Fn P w K mg base "show_words" ["words"] k (jI K)) (aq:Fn P w K mg base "show_point" ["point"] k (jJ K)):zG P w K mg base zW (k + 1) f fd ["step"] qW:=by
 refine F.ok Y1 (λvs H Q E h=>?_) (λcdv A outer s H vs Q E hr h=>?_)
 ·obtain ⟨_,_,_,rfl,_⟩:=h
  rfl
 obtain ⟨v,st,w,rfl,hv,ok,q⟩:=h
 refine ⟨_,(zN (zT (zO ao hr rfl (zA (y9 (zA (zo yN (L2.pv 0) zH (λ_ _=>rfl)) (zA (zO aq hr rfl (zA (zQ gS (y9 (zA (zo yN (L2.pv 0) zH (λ_ _=>rfl)) zD)) (zo yN (L2.pv 0) zH (λ_ _=>rfl))) zD)) zD))) zD)))),?_⟩
 try dsimp only [zJ,Cx.nox,Cx.wish]
 obtain ⟨t,f,l,p,pv,ps,rfl,ht,hf,hl,hpv,e⟩:=hv
 obtain ⟨nm,le,w6,okp⟩:=id ok
 rw [e] at le okp
 have lps:ps.length=w:=Nat.succ.inj le
 have lpv:pv.length=ps.length:=Paired.length hpv
 refine ⟨_,rfl,t,_,0,_,rfl,rfl,zV.of ht,rfl,?_⟩
 refine ⟨_,rfl,t,_,1,_,rfl,rfl,zV.of ht,rfl,(by show 1<=sizeLine; decide),λl1 hl1=>?_⟩
 have z1:=zR hl1 (HO.lst [V.ref f])
 refine ⟨_,rfl,t,_,2,_,rfl,rfl,zV.of (z1 _ _ ht),rfl,l1,l,_,_,rfl,rfl,zP,z1 _ _ hl,Nat.le_of_lt (zz (by simp only [List.length_cons,List.length_nil]; omega)),λl2 hl2=>?_⟩
 have z2:=z1.trans (zR hl2 (HO.lst ([V.ref f]++pv)))
 refine ⟨l2,V.ref f :: pv,p :: ps,rfl,zE.of zP,.cons ⟨f,rfl,z2 _ _ hf⟩ (zx.same z2 hpv),(by rw [le]; omega),okp,λH3 s3=>?_⟩
 refine ⟨(by show 2<=sizeLine; decide),λl4 hl4=>?_⟩
 have z4:=(z2.trans s3).trans (zR hl4 (HO.lst [V.int st.1,V.str (sP (p :: ps))]))
 refine ⟨l4,[V.int st.1,V.str (sP (p :: ps))],rfl,.inr (zE.of zP),(by show 2<=10; decide),(λx hx=>?_),λH5 s5=>?_⟩
 ·rcases List.mem_cons.mp hx with e | e
  ·exact .inl ⟨_,e,nm⟩
  ·refine .inr ⟨_,List.mem_singleton.mp e,?_⟩
   have:=qY (ps:=p :: ps) (by rw [le]; omega) okp
   omega
 ·have z:=q _ (z4.trans s5)
  rw [<- kR (s:=st) (by rw [e]; nofun),e] at z
  exact z
noncomputable abbrev vG:Stmt:=zp 20
theorem Y3:ze ["run"] ["run"] (zK vG):=.a
theorem Y4 {k:Nat} {f:Addr} {fd:FuncData} (F:zg K "show_run" "show_run" vG f fd) (B:Bl mg) (az:Fn P w K mg base "show_step" ["step"] k qW):zG P w K mg base zW (k + 1) f fd ["run"] (qX K):=by
 refine F.ok Y3 (λvs H Q E h=>?_) (λcdv A outer s H vs Q E hr h=>?_)
 ·obtain ⟨_,_,_,_,rfl,_⟩:=h
  rfl
 obtain ⟨a,rv,run,w,rfl,ha,hrv,r6,ok,q⟩:=h
 refine ⟨_,(zN (zT (yK PySem.F.plainAttrs_str PySem.F.slot_str_join PySem.F.type_str_join xh (wS rfl B.STEP_BREAK_) (zA (yn (own:=["step"]) (caps:=[]) (xF rfl) rfl (yS (L2.pv 0)) (λ_ _ _ _=>zy (i:=0) (show (["step"]:List Str).Nodup by decide +kernel) rfl (Or.inl rfl)) (λ_ _ _ _=>(zO az hr rfl (zA (L2.pv 0) zD)))) zD)))),?_⟩
 try dsimp only [zJ,Cx.nox,Cx.wish]
 have lr:rv.length=run.length:=Paired.length hrv
 have jo:JoinOk xg (run.map sS)=true:=xf (B:=2002) (λy hy=>by
  obtain ⟨x,hx,rfl⟩:=List.mem_map.mp hy
  exact jL (ok x hx)) (by
   rw [List.length_map,wV]
   have:=Nat.mul_le_mul r6 (Nat.le_refl (2002 + 2))
   omega)
 refine ⟨rfl,_,rfl,a,rfl,⟨_,ha⟩,yo (K:=K) (a:=a) (xs:=rv) (λi ys σ H'=>ys=((run.take i).map sS).map V.str/\(∃ o,σ=[o])/\zC H H')
  ⟨rfl,⟨none,rfl⟩,zC.refl _⟩ (λi ys σ H' _ ⟨e,_,sm⟩=>⟨sm.seq ha,by rw [e,List.length_map,List.length_map,List.length_take]; omega⟩) (Nat.le_of_lt (zz (by omega))) ?_ ?_⟩
 ·rintro i x ys σ H' hx ⟨rfl,⟨o,rfl⟩,sm⟩
  obtain ⟨r,hr',hst⟩:=xC hrv hx
  refine ⟨_,rfl,x,r,w,rfl,hst.same sm,ok r (List.mem_of_getElem? hr'),λH3 s3=>⟨?_,⟨_,rfl⟩,sm.trans s3⟩⟩
  rw [y4 hr',List.map_append,List.map_append]
  rfl
 rintro ys σ H' ⟨rfl,⟨o,rfl⟩,sm⟩ l hl
 rw [lr,List.take_length]
 exact ⟨_,l,run.map sS,rfl,rfl,zE.of zP,jo,q _ (sm.trans (zR hl _))⟩
end
noncomputable def vH:Sp:=λvs H Q _=>∃ z y:Str,vs=[.str z,.str y]/\(y.length == 0)=false/\z.length<=100000/\∀ p H',zC H H'->H p=none->H' p=some (.lst ((Txt.split z y).map V.str))->Q (.ref p) H'
noncomputable def uR:Sp:=λvs H Q _=>∃ i:Int,vs=[.str (sN i)]/\Nm i/\∀ H',zC H H'->Q (.int i) H'
noncomputable def qa:Sp:=λvs H Q _=>∃ i:Int,vs=[.str (sN i)]/\0<=i/\Nm i/\∀ H',zC H H'->Q (.bl true) H'
noncomputable def jM (K:PySem.W.Frag):Sp:=λvs H Q _=>∃ (a:Addr) (ns:List Int),vs=[.ref a,.int ((ns.length:Nat):Int)]/\zE K H a ((ns.map sN).map V.str)/\ns.length<=10/\(∀ x∈ns,Nm x)/\∀ p H',zC H H'->H p=none->H' p=some (.lst (ns.map V.int))->Q (.ref p) H'
noncomputable def jN:Sp:=λvs H Q _=>∃ p:Int × Int,vs=[.str (sF p)]/\xP p/\∀ r H',zC H H'->H' r=some (.tup [.int p.1,.int p.2])->Q (.ref r) H'
noncomputable def qb:Sp:=λvs H Q _=>∃ (room:List (List Int)) (n:Nat),vs=[.str (sR room),.int (n:Int)]/\1<=n/\room≠[]/\wy n room/\∀ l lv H',zC H H'->H l=none->H' l=some (.lst lv)->yA H' lv room->Q (.ref l) H'
noncomputable def qc:Sp:=λvs H Q _=>∃ (room:List (List Int)) (n:Nat),vs=[.str (if room=[] then Str.ofString "all" else sR room),.int (n:Int)]/\wy (n + 1) room/\∀ l lv H',zC H H'->H l=none->H' l=some (.lst lv)->yA H' lv room->Q (.ref l) H'
noncomputable def jO (K:PySem.W.Frag):Sp:=λvs H Q _=>∃ (a:Addr) (ps:List (Int × Int)),vs=[.ref a,.int ((ps.length:Nat):Int)]/\zE K H a ((ps.map sF).map V.str)/\ps.length<=10/\(∀ p∈ps,xP p)/\∀ l lv H',zC H H'->H l=none->H' l=some (.lst lv)->zx H' lv ps->Q (.ref l) H'
noncomputable def qd:Sp:=λvs H Q _=>∃ (ps:List (Int × Int)),vs=[.str (sP ps),.int ((ps.length:Nat):Int)]/\ps≠[]/\ps.length<=7/\(∀ p∈ps,xP p)/\∀ l lv H',zC H H'->H l=none->H' l=some (.lst lv)->zx H' lv ps->Q (.ref l) H'
noncomputable def qe (K:PySem.W.Frag):Sp:=λvs H Q _=>∃ (a:Addr) (st:zw) (w:Nat),vs=[.ref a,.int (w:Int)]/\zE K H a ((sN st.1 :: st.2.map sF).map V.str)/\xk w st/\∀ v H',zC H H'->wW H' v st->Q v H'
noncomputable def qf:Sp:=λvs H Q _=>∃ (r:List zw) (w:Nat),vs=[.str (yE r),.int (w:Int)]/\r.length<=6/\(∀ s∈r,xk w s)/\∀ l lv H',zC H H'->H l=none->H' l=some (.lst lv)->zd H' lv r->Q (.ref l) H'
theorem kS (xs:List V) (h:1<=xs.length):zq xs (some 1) none=xs.drop 1:=by
 have e1:HT.sIx xs.length 0 (some 1)=min 1 xs.length:=HT.sIx_nat _ _ 1
 have e2:HT.sIx xs.length xs.length none=xs.length:=rfl
 unfold zq
 rw [e1,e2,show min 1 xs.length=1 by omega,List.take_of_length_le (by rw [List.length_drop]; omega)]
theorem kT {H:Hp} {vs:List V} {ks:List (List Int)} {t:Addr} {k:List Int} (h:H t=some (.tup (k.map V.int))) (z:yA H vs ks):yA H (vs++[.ref t]) (ks++[k]):=by
 induction z with
 | nil=>exact .cons ⟨t,rfl,h⟩ .nil
 | cons a _ ih=>exact .cons a ih
theorem qg {H:Hp} {vs:List V} {ks:List (Int × Int)} {t:Addr} {p:Int × Int} (h:H t=some (.tup [.int p.1,.int p.2])) (z:zx H vs ks):zx H (vs++[.ref t]) (ks++[p]):=by
 induction z with
 | nil=>exact .cons ⟨t,rfl,h⟩ .nil
 | cons a _ ih=>exact .cons a ih
theorem kU {H:Hp} {vs:List V} {ks:List zw} {v:V} {k:zw} (h:wW H v k) (z:zd H vs ks):zd H (vs++[v]) (ks++[k]):=by
 induction z with
 | nil=>exact .cons h .nil
 | cons a _ ih=>exact .cons a ih
theorem kW {t b:Int} (h:0 < b) (g:Int.gcd t b=1):xV t b=t/\xW t b=b:=by
 have c:cm t b=1:=by
  unfold cm
  rw [if_neg (by omega),g]
  rfl
 unfold xV xW
 rw [c,Int.fdiv_one,Int.fdiv_one]
 exact ⟨rfl,rfl⟩
theorem jP (i:Nat):(List.replicate i true).all id=true:=List.all_eq_true.mpr λx hx=>by rw [(List.mem_replicate.mp hx).2]; rfl
theorem Y5 (x:Str):x.cps.size=x.length:=rfl
theorem Y6 {i:Int} (h:0<=i) (n:Nm i):1<=(sN i).length/\(sN i).length<=60:=by
 have a:=jD i.natAbs
 have b:=jC n
 rw [<- yB,xH h]
 exact ⟨a,b⟩
section
variable {P:Program} {w:World} {K:PySem.W.Frag} {mg:Str->Option Value} {base:Heap}
noncomputable abbrev vI:Stmt:=zp 21
theorem Y7:ze ["text","separator"] ["text","separator"] (zK vI):=.a
theorem Y8 {k:Nat} {f:Addr} {fd:FuncData} (F:zg K "split_text" "split_text" vI f fd) (B:Bl mg):zG P w K mg base zW (k + 1) f fd ["text","separator"] vH:=by
 refine F.ok Y7 (λvs H Q E h=>?_) (λcdv A outer s H vs Q E hr h=>?_)
 ·obtain ⟨_,_,rfl,_⟩:=h
  rfl
 obtain ⟨z,y,rfl,hy,hz,q⟩:=h
 refine ⟨_,(zL (zm (yM (yH (zt y1 rfl B.isinstance_ y3 (zA (L2.pv 0) (zA (yt (v:=.ty "str") (u:=.type "str") rfl B.str_ xM rfl) zD))))) (zN x9) zl)
  (zN (zT (yK PySem.F.plainAttrs_str PySem.F.slot_str_split PySem.F.type_str_split qS (L2.pv 0) (zA (L2.pv 1) zD))))),?_⟩
 try dsimp only [zJ,Cx.nox,Cx.wish]
 have l16:=wT
 refine ⟨_,rfl,_,_,_,_,rfl,.str _,Yi _,_,rfl,zU ?_⟩
 exact ⟨_,rfl,rfl,_,rfl,z,y,rfl,rfl,hy,by omega,λp hp=>q p _ (zR hp _) hp zP⟩
noncomputable abbrev vJ:Stmt:=zp 23
theorem Y9:ze ["text"] ["text"] (zK vJ):=.a
theorem XA {k:Nat} {f:Addr} {fd:FuncData} (F:zg K "are_figures" "are_figures" vJ f fd) (B:Bl mg):zG P w K mg base zW (k + 1) f fd ["text"] qa:=by
 refine F.ok Y9 (λvs H Q E h=>?_) (λcdv A outer s H vs Q E hr h=>?_)
 ·obtain ⟨_,rfl,_⟩:=h
  rfl
 obtain ⟨i,rfl,i0,ni,q⟩:=h
 refine ⟨_,(zL (zm (PW.pt (yR (zn jq (zt gP rfl B.len_ xX (zA (L2.pv 0) zD)) zH (zc _)) (yR (zn vq (zt gP rfl B.len_ xX (zA (L2.pv 0) zD)) (Z4 rfl B.MOST_FIGURES_) (zc _)) (yu (yM (yH (zt (up rfl) rfl B.all_ ut (zA (yn (own:=["sign"]) (caps:=[]) (xF rfl) rfl (Yd (L2.pv 0)) (λ_ _ _ _=>zy (i:=0) (show (["sign"]:List Str).Nodup by decide +kernel) rfl (Or.inl rfl)) (λ_ _ _ _=>(xo ZN (L2.pv 0) (wS rfl B.FIGURES_) (by rfl)))) zD)))))))) (zN (zT yr)) zl)
  (zN (zT (vd (xo yh (L2.pv 0) yJ (zc _)) (wd (uc (yK PySem.F.plainAttrs_str PySem.F.slot_str_startswith PySem.F.type_str_startswith kO (L2.pv 0) (zA yJ zD)))))))),?_⟩
 try dsimp only [zJ,Cx.nox,Cx.wish]
 obtain ⟨l1,l60⟩:=Y6 i0 ni
 have l16:=wT
 refine ⟨_,rfl,_,rfl,(by omega),_,_,rfl,rfl,_,rfl,yY (decide_eq_false (by omega)) ?_⟩
 refine ⟨_,rfl,_,rfl,(by omega),_,_,rfl,rfl,_,rfl,yY (decide_eq_false (by omega)) ?_⟩
 refine ⟨_,rfl,sN i,rfl,kD i,Ye (z:=sN i) (λj ys σ H'=>ys=(List.replicate j true).map V.bl/\(∃ o,σ=[o])/\H'=H)
  ⟨rfl,⟨none,rfl⟩,rfl⟩ (λj ys σ H' ⟨e,_⟩=>by rw [e,List.length_map,List.length_replicate]; exact Nat.le_refl _) (by rw [Y5]; omega) ?_ ?_⟩
 ·rintro j c ys σ H' hc ⟨rfl,⟨o,rfl⟩,rfl⟩
  have hm:c∈(sN i).cps.toList:=List.mem_of_getElem? (i:=j) (by rw [Array.getElem?_toList]; exact hc)
  rw [xH i0] at hm
  refine ⟨_,rfl,_,_,rfl,rfl,?_,⟨_,rfl⟩,rfl⟩
  rw [YQ (wv _ c hm),List.replicate_succ',List.map_append]
  rfl
 rintro ys σ H' ⟨rfl,⟨o,rfl⟩,rfl⟩ l hl
 refine ⟨l,List.replicate (sN i).cps.size true,rfl,zE.of zP,?_⟩
 rw [jP]
 refine ⟨_,rfl,zU ?_⟩
 have sm:=zR hl (HO.lst ((List.replicate (sN i).cps.size true).map V.bl))
 by_cases h0:i=0
 ·subst h0
  exact ⟨_,rfl,rfl,_,rfl,xB (decide_eq_true (by rw [YN])) (q _ sm)⟩
 ·refine ⟨_,rfl,rfl,_,rfl,yY (decide_eq_false λz=>YO (by omega) (V.str.inj z)) ?_⟩
  refine ⟨_,rfl,rfl,_,_,rfl,rfl,_,rfl,?_⟩
  show Q (V.bl (!Txt.startswith (sN i) (Str.ofString "0"))) _
  rw [YL (by omega)]
  exact q _ sm
noncomputable abbrev vK:Stmt:=zp 22
theorem kX:ze ["text","figures"] ["text"] (zK vK):=.a
theorem XB {k:Nat} {f:Addr} {fd:FuncData} (F:zg K "read_number" "read_number" vK f fd) (B:Bl mg) (aA:Fn P w K mg base "are_figures" ["text"] k qa):zG P w K mg base zW (k + 1) f fd ["text"] uR:=by
 refine F.ok kX (λvs H Q E h=>?_) (λcdv A outer s H vs Q E hr h=>?_)
 ·obtain ⟨_,rfl,_⟩:=h
  rfl
 obtain ⟨i,rfl,ni,q⟩:=h
 refine ⟨_,(zL (zb (i:=1) kX.nd rfl (Or.inl rfl) (kx (yH (yK PySem.F.plainAttrs_str PySem.F.slot_str_startswith PySem.F.type_str_startswith kO (L2.pv 0) (zA yJ zD))) (v2 Yg (L2.pv 0) (vz zH) vy) (L2.pv 0)))
  (zL (zm (PW.pt (yR (yM (yH (zO aA hr rfl (zA (L2.pv 1) zD)))) (yu (zn yh (L2.pv 0) yJ (zc _))))) (zN x9) zl)
  (zN (zT (yk Yh rfl B.int_ gl (zA (L2.pv 0) zD)))))),?_⟩
 try dsimp only [zJ,Cx.nox,Cx.wish]
 have l16:=wT
 have ll:=(xD ni).2
 by_cases h0:i < 0
 ·refine ⟨_,rfl,rfl,_,_,rfl,rfl,_,rfl,xB (YJ h0) ?_⟩
  refine ⟨_,rfl,_,rfl,sN i,1,rfl,rfl,rfl,(by omega),?_⟩
  rw [YM h0]
  refine ⟨_,rfl,-i,rfl,(by omega),(show (-i).natAbs < 10 ^ 60 by rw [Int.natAbs_neg]; exact ni),λH1 s1=>⟨_,rfl,zU ?_⟩⟩
  refine ⟨_,rfl,rfl,_,rfl,yY (decide_eq_false λz=>kI i (V.str.inj z)) ?_⟩
  exact ⟨_,rfl,i,rfl,ni,q _ s1⟩
 ·refine ⟨_,rfl,rfl,_,_,rfl,rfl,_,rfl,yY (YK (by omega)) ?_⟩
  refine ⟨_,rfl,_,rfl,i,rfl,(by omega),ni,λH1 s1=>⟨_,rfl,zU ?_⟩⟩
  refine ⟨_,rfl,rfl,_,rfl,yY (decide_eq_false λz=>kI i (V.str.inj z)) ?_⟩
  exact ⟨_,rfl,i,rfl,ni,q _ s1⟩
noncomputable abbrev vL:Stmt:=zp 24
theorem XC:ze ["words","count"] ["words","count"] (zK vL):=.a
theorem XD {k:Nat} {f:Addr} {fd:FuncData} (F:zg K "read_numbers" "read_numbers" vL f fd) (B:Bl mg) (af:Fn P w K mg base "read_number" ["text"] k uR):zG P w K mg base zW (k + 1) f fd ["words","count"] (jM K):=by
 refine F.ok XC (λvs H Q E h=>?_) (λcdv A outer s H vs Q E hr h=>?_)
 ·obtain ⟨_,_,rfl,_⟩:=h
  rfl
 obtain ⟨a,ns,rfl,ha,n10,ok,q⟩:=h
 refine ⟨_,(zL (zm (zn xL (zt wJ rfl B.len_ xX (zA (L2.pv 0) zD)) (L2.pv 1) (zc _)) (zN x9) zl)
  (zN (zT (yn (own:=["word"]) (caps:=[]) (xF rfl) rfl (yS (L2.pv 0)) (λ_ _ _ _=>zy (i:=0) (show (["word"]:List Str).Nodup by decide +kernel) rfl (Or.inl rfl)) (λ_ _ _ _=>(zO af hr rfl (zA (L2.pv 0) zD))))))),?_⟩
 try dsimp only [zJ,Cx.nox,Cx.wish]
 refine ⟨_,rfl,a,_,rfl,.inl ha,_,rfl,rfl,_,rfl,yY (gp (by rw [List.length_map,List.length_map])) ?_⟩
 refine ⟨_,rfl,a,rfl,⟨_,ha⟩,yo (K:=K) (a:=a) (xs:=(ns.map sN).map V.str) (λi ys σ H'=>ys=(ns.take i).map V.int/\(∃ o,σ=[o])/\zC H H')
  ⟨rfl,⟨none,rfl⟩,zC.refl _⟩ (λi ys σ H' _ ⟨e,_,sm⟩=>⟨sm.seq ha,by rw [e,List.length_map,List.length_take]; omega⟩) (by rw [List.length_map,List.length_map]; exact Nat.le_of_lt (zz (by omega))) ?_ ?_⟩
 ·rintro i x ys σ H' hx ⟨rfl,⟨o,rfl⟩,sm⟩
  obtain ⟨n,hn,rfl⟩:∃ n,ns[i]? = some n/\x=V.str (sN n):=by
   rw [List.getElem?_map,List.getElem?_map] at hx
   cases e:ns[i]? with
   | none=>rw [e] at hx; cases hx
   | some n=>rw [e] at hx; exact ⟨n,rfl,(Option.some.inj hx).symm⟩
  refine ⟨_,rfl,n,rfl,ok n (List.mem_of_getElem? hn),λH3 s3=>⟨?_,⟨_,rfl⟩,sm.trans s3⟩⟩
  rw [y4 hn,List.map_append]
  rfl
 rintro ys σ H' ⟨rfl,⟨o,rfl⟩,sm⟩ l hl
 have e:((ns.map sN).map V.str).length=ns.length:=by rw [List.length_map,List.length_map]
 rw [e,List.take_length]
 exact q l _ (sm.trans (zR hl _)) (sm.free hl) zP
noncomputable abbrev vM:Stmt:=zp 25
theorem jQ:ze ["text","parts","numbers","value"] ["text"] (zK vM):=.a
theorem XE {k:Nat} {f:Addr} {fd:FuncData} (F:zg K "read_fraction" "read_fraction" vM f fd) (B:Bl mg) (ab:Fn P w K mg base "split_text" ["text","separator"] k vH) (aB:xu P w K mg base "fraction" ["top","bottom"] k qU (.int 1)) (af:Fn P w K mg base "read_number" ["text"] k uR) (ar:Fn P w K mg base "read_numbers" ["words","count"] k (jM K)) (aD:Fn P w K mg base "is_fraction" ["thing"] k qT):zG P w K mg base zW (k + 1) f fd ["text"] jN:=by
 refine F.ok jQ (λvs H Q E h=>?_) (λcdv A outer s H vs Q E hr h=>?_)
 ·obtain ⟨_,rfl,_⟩:=h
  rfl
 obtain ⟨p,rfl,ok,q⟩:=h
 refine ⟨_,(zL (zb (i:=1) jQ.nd rfl (Or.inl rfl) (zO ab hr rfl (zA (L2.pv 0) (zA yJ zD))))
  (zL (zm (zn yh (zt wJ rfl B.len_ xX (zA (L2.pv 1) zD)) zH (zc _)) (zN (zT (Zu aB hr rfl (zA (zO af hr rfl (zA (L2.pv 0) zD)) zD)))) zl)
  (zL (zb (i:=2) jQ.nd rfl (Or.inl rfl) (zO ar hr rfl (zA (L2.pv 1) (zA zH zD))))
  (zL (zb (i:=3) jQ.nd rfl (Or.inl rfl) (wH (zA (zo yz (L2.pv 2) zH (λ_ _=>rfl)) (zA (zo yz (L2.pv 2) zH (λ_ _=>rfl)) zD))))
  (zL (zm (PW.pt (yR (zn yh (zo yz (L2.pv 2) zH (λ_ _=>rfl)) zH (zc _)) (yu (yM (yH (zO aD hr rfl (zA (L2.pv 3) zD))))))) (zN x9) zl)
  (zN (zT (L2.pv 3)))))))),?_⟩
 try dsimp only [zJ,Cx.nox,Cx.wish]
 obtain ⟨n1,n2,p0,g1⟩:=id ok
 have lf:=wx ⟨n1,n2⟩
 refine ⟨_,rfl,sF p,_,rfl,(by decide +kernel),(by omega),λl H1 s1 hl0 hl=>?_⟩
 have e:=YR p
 rw [e] at hl
 by_cases h1:p.2=1
 ·rw [if_pos h1] at hl
  refine ⟨_,rfl,l,_,rfl,.inl (zE.of hl),rfl,_,rfl,xB (wo rfl) ?_⟩
  have es:sF p=sN p.1:=by unfold sF; rw [if_pos h1]
  refine ⟨_,rfl,p.1,(by rw [es]; rfl),n1,λH2 s2=>?_⟩
  refine ⟨p.1,1,rfl,(by decide),(Bd.lit (n:=1) (i:=1)).mono,λr H3 s3 e3=>?_⟩
  have gg:Int.gcd p.1 1=1:=by rw [<- h1]; exact g1
  rw [(kW Int.one_pos gg).1,(kW Int.one_pos gg).2] at e3
  exact q r H3 (s1.trans (s2.trans s3)) (by rw [h1]; exact e3)
 ·rw [if_neg h1] at hl
  refine ⟨_,rfl,l,_,rfl,.inl (zE.of hl),rfl,_,rfl,yY (decide_eq_false λz=>absurd (V.int.inj z) (show ¬ ((2:Nat):Int)=1 by decide)) ?_⟩
  refine ⟨_,rfl,l,[p.1,p.2],rfl,zE.of hl,(by show 2<=10; decide),(λx hx=>?_),λl2 H2 s2 hl20 hl2=>?_⟩
  ·rcases List.mem_cons.mp hx with e | e
   ·rw [e]; exact n1
   ·rw [List.mem_singleton.mp e]; exact n2
  refine ⟨_,rfl,l2,_,0,_,rfl,rfl,zE.of hl2,wP,_,rfl,l2,_,1,_,rfl,rfl,zE.of hl2,xb,(by show 2<=sizeLine; decide),λt ht=>?_⟩
  have z3:=zR ht (HO.tup [V.int p.1,V.int p.2])
  refine ⟨_,rfl,l2,_,1,_,rfl,rfl,zE.of (z3 _ _ hl2),xb,rfl,_,rfl,yY (decide_eq_false λz=>h1 (V.int.inj z)) ?_⟩
  refine ⟨_,rfl,t,p.1,p.2,rfl,zP,p0,g1,_,rfl,zU ?_⟩
  exact ⟨_,rfl,q t _ (s1.trans (s2.trans z3)) zP⟩
end
section
variable {P:Program} {w:World} {K:PySem.W.Frag} {mg:Str->Option Value} {base:Heap}
noncomputable abbrev vN:Stmt:=zp 29
theorem XF:ze ["words","count"] ["words","count"] (zK vN):=.a
theorem XG {k:Nat} {f:Addr} {fd:FuncData} (F:zg K "read_fractions" "read_fractions" vN f fd) (B:Bl mg) (ai:Fn P w K mg base "read_fraction" ["text"] k jN):zG P w K mg base zW (k + 1) f fd ["words","count"] (jO K):=by
 refine F.ok XF (λvs H Q E h=>?_) (λcdv A outer s H vs Q E hr h=>?_)
 ·obtain ⟨_,_,rfl,_⟩:=h
  rfl
 obtain ⟨a,ps,rfl,ha,n10,ok,q⟩:=h
 refine ⟨_,(zL (zm (zn xL (zt wJ rfl B.len_ xX (zA (L2.pv 0) zD)) (L2.pv 1) (zc _)) (zN x9) zl)
  (zN (zT (yn (own:=["word"]) (caps:=[]) (xF rfl) rfl (yS (L2.pv 0)) (λ_ _ _ _=>zy (i:=0) (show (["word"]:List Str).Nodup by decide +kernel) rfl (Or.inl rfl)) (λ_ _ _ _=>(zO ai hr rfl (zA (L2.pv 0) zD))))))),?_⟩
 try dsimp only [zJ,Cx.nox,Cx.wish]
 refine ⟨_,rfl,a,_,rfl,.inl ha,_,rfl,rfl,_,rfl,yY (gp (by rw [List.length_map,List.length_map])) ?_⟩
 refine ⟨_,rfl,a,rfl,⟨_,ha⟩,yo (K:=K) (a:=a) (xs:=(ps.map sF).map V.str) (λi ys σ H'=>zx H' ys (ps.take i)/\(∃ o,σ=[o])/\zC H H')
  ⟨.nil,⟨none,rfl⟩,zC.refl _⟩ (λi ys σ H' _ ⟨e,_,sm⟩=>⟨sm.seq ha,by have:=Paired.length e; rw [List.length_take] at this; omega⟩) (by rw [List.length_map,List.length_map]; exact Nat.le_of_lt (zz (by omega))) ?_ ?_⟩
 ·rintro i x ys σ H' hx ⟨hz,⟨o,rfl⟩,sm⟩
  obtain ⟨p,hp,rfl⟩:∃ p,ps[i]? = some p/\x=V.str (sF p):=by
   rw [List.getElem?_map,List.getElem?_map] at hx
   cases e:ps[i]? with
   | none=>rw [e] at hx; cases hx
   | some n=>rw [e] at hx; exact ⟨n,rfl,(Option.some.inj hx).symm⟩
  refine ⟨_,rfl,p,rfl,ok p (List.mem_of_getElem? hp),λr H3 s3 e3=>⟨?_,⟨_,rfl⟩,sm.trans s3⟩⟩
  rw [y4 hp]
  exact qg e3 (zx.same s3 hz)
 rintro ys σ H' ⟨hz,⟨o,rfl⟩,sm⟩ l hl
 have e:((ps.map sF).map V.str).length=ps.length:=by rw [List.length_map,List.length_map]
 rw [e,List.take_length] at hz
 exact q l ys _ (sm.trans (zR hl _)) (sm.free hl) zP (zx.same (zR hl _) hz)
noncomputable abbrev vO:Stmt:=zp 28
theorem XH:ze ["text","many"] ["text","many"] (zK vO):=.a
theorem XI {k:Nat} {f:Addr} {fd:FuncData} (F:zg K "read_point" "read_point" vO f fd) (B:Bl mg) (au:Fn P w K mg base "read_fractions" ["words","count"] k (jO K)) (ab:Fn P w K mg base "split_text" ["text","separator"] k vH):zG P w K mg base zW (k + 1) f fd ["text","many"] qd:=by
 refine F.ok XH (λvs H Q E h=>?_) (λcdv A outer s H vs Q E hr h=>?_)
 ·obtain ⟨_,rfl,_⟩:=h
  rfl
 obtain ⟨ps,rfl,h0,n7,ok,q⟩:=h
 refine ⟨_,(zN (zT (zO au hr rfl (zA (zO ab hr rfl (zA (L2.pv 0) (zA yJ zD))) (zA (L2.pv 1) zD))))),?_⟩
 try dsimp only [zJ,Cx.nox,Cx.wish]
 have ll:=qY n7 ok
 refine ⟨_,rfl,sP ps,_,rfl,(by decide +kernel),(by omega),λl H1 s1 hl0 hl=>?_⟩
 rw [YU h0] at hl
 exact ⟨_,rfl,l,ps,rfl,zE.of hl,(by omega),ok,λl2 lv H2 s2 e0 e2 hv=>q l2 lv H2 (s1.trans s2) (s1.free e0) e2 hv⟩
noncomputable abbrev wY:Stmt:=zp 26
theorem XJ:ze ["text","count"] ["text","count"] (zK wY):=.a
theorem XM {k:Nat} {f:Addr} {fd:FuncData} (F:zg K "read_tuples" "read_tuples" wY f fd) (B:Bl mg) (ab:Fn P w K mg base "split_text" ["text","separator"] k vH) (ar:Fn P w K mg base "read_numbers" ["words","count"] k (jM K)):zG P w K mg base zW (k + 1) f fd ["text","count"] qb:=by
 refine F.ok XJ (λvs H Q E h=>?_) (λcdv A outer s H vs Q E hr h=>?_)
 ·obtain ⟨_,_,rfl,_⟩:=h
  rfl
 obtain ⟨room,n,rfl,n1,h0,RT,q⟩:=h
 refine ⟨_,(zN (zT (yn (own:=["part"]) (caps:=[(1,"count")]) (v9 (S:=zK wY) (N:=["text","count"]) rfl (by decide +kernel) rfl ⟨_,rfl⟩ rfl (by decide +kernel) (by decide +kernel)) rfl (yS (zO ab hr rfl (zA (L2.pv 0) (zA (wS rfl B.ROW_BREAK_) zD)))) (λ_ _ _ _=>zy (i:=0) (show (["part","count"]:List Str).Nodup by decide +kernel) rfl (Or.inl rfl)) (λ_ _ _ _=>(yk (show yw _ _ (λxs H Q=>∃ p ys,xs=[V.ref p]/\((zE K H p ys/\∀ l,H l=none->Q (V.ref l) (upd H l (HO.tup ys)))\/(zV K H p ys/\Q (V.ref p) H))) from gQ) rfl B.tuple_ wn (zA (zO ar hr rfl (zA (show PE _ _ (uo K _ _ _ _) from yK PySem.F.plainAttrs_str PySem.F.slot_str_split PySem.F.type_str_split qS (L2.pv 0) (zA yJ zD)) (zA (L2.pv 1) zD))) zD)))))),?_⟩
 try dsimp only [zJ,Cx.nox,Cx.wish]
 have ll:=Yl RT
 have l16:=wT
 obtain ⟨r6,n4,rok⟩:=id RT
 refine ⟨_,rfl,sR room,_,rfl,(by decide +kernel),(by omega),λa H1 s1 ha0 ha=>?_⟩
 rw [show Txt.split (sR room) (Str.ofString ", ")=room.map sW from YX h0] at ha
 have el:((room.map sW).map V.str).length=room.length:=by rw [List.length_map,List.length_map]
 refine ⟨a,rfl,⟨_,zE.of ha⟩,yo (K:=K) (a:=a) (xs:=(room.map sW).map V.str) (λi ys σ H'=>yA H' ys (room.take i)/\(∃ o,σ=[o,some (.int (n:Int))])/\zC H1 H')
  ⟨.nil,⟨none,rfl⟩,zC.refl _⟩ (λi ys σ H' _ ⟨e,_,sm⟩=>⟨zE.of (sm _ _ ha),by have:=Paired.length e; rw [List.length_take] at this; omega⟩) (by rw [el]; exact Nat.le_of_lt (zz (by omega))) ?_ ?_⟩
 ·rintro i x ys σ H' hx ⟨hz,⟨o,rfl⟩,sm⟩
  obtain ⟨r,hr',rfl⟩:∃ r,room[i]? = some r/\x=V.str (sW r):=by
   rw [List.getElem?_map,List.getElem?_map] at hx
   cases e:room[i]? with
   | none=>rw [e] at hx; cases hx
   | some n=>rw [e] at hx; exact ⟨n,rfl,(Option.some.inj hx).symm⟩
  obtain ⟨rl,rb⟩:=rok r (List.mem_of_getElem? hr')
  have lw:=jK rl n4 rb
  refine ⟨_,rfl,rfl,sW r,yC,rfl,rfl,(by decide +kernel),(by omega),λb hb=>?_⟩
  have z2:=zR hb (HO.lst ((Txt.split (sW r) yC).map V.str))
  have eb:=zP (H:=H') (a:=b) (o:=HO.lst ((Txt.split (sW r) yC).map V.str))
  rw [YT (by intro z; rw [z] at rl; have:(0:Nat)=n:=rl; omega)] at z2 eb |-
  refine ⟨_,rfl,b,r,(by rw [rl]; rfl),zE.of eb,(by omega),rb,λc H3 s3 hc0 hc=>?_⟩
  refine ⟨c,_,rfl,.inl ⟨zE.of hc,λt ht=>?_⟩⟩
  have z4:=z2.trans (s3.trans (zR ht (HO.tup (r.map V.int))))
  refine ⟨?_,⟨_,rfl⟩,sm.trans z4⟩
  rw [y4 hr']
  exact kT zP (yA.same z4 hz)
 rintro ys σ H' ⟨hz,⟨o,rfl⟩,sm⟩ l hl
 rw [el,List.take_length] at hz
 exact q l ys _ (s1.trans (sm.trans (zR hl _))) ((s1.trans sm).free hl) zP (yA.same (zR hl _) hz)
noncomputable abbrev vP:Stmt:=zp 27
theorem XN:ze ["text","many"] ["text","many"] (zK vP):=.a
theorem XO {k:Nat} {f:Addr} {fd:FuncData} (F:zg K "read_room" "read_room" vP f fd) (B:Bl mg) (aE:Fn P w K mg base "read_tuples" ["text","count"] k qb):zG P w K mg base zW (k + 1) f fd ["text","many"] qc:=by
 refine F.ok XN (λvs H Q E h=>?_) (λcdv A outer s H vs Q E hr h=>?_)
 ·obtain ⟨_,_,rfl,_⟩:=h
  rfl
 obtain ⟨room,n,rfl,RT,q⟩:=h
 refine ⟨_,(zL (zm (zn yh (L2.pv 0) (wS rfl B.NO_ROWS_) (zc _)) (zN (zT (y9 zD))) zl)
  (zN (zT (zO aE hr rfl (zA (L2.pv 0) (zA (zQ yg (L2.pv 1) zH) zD)))))),?_⟩
 try dsimp only [zJ,Cx.nox,Cx.wish]
 by_cases h0:room=[]
 ·rw [if_pos h0]
  refine ⟨_,rfl,rfl,_,rfl,xB (decide_eq_true rfl) ?_⟩
  refine ⟨(by show 0<=sizeLine; decide),λl hl=>?_⟩
  exact q l [] _ (zR hl _) hl zP (by rw [h0]; exact .nil)
 ·rw [if_neg h0]
  refine ⟨_,rfl,rfl,_,rfl,yY (decide_eq_false λz=>uO h0 (V.str.inj z)) ?_⟩
  exact ⟨_,rfl,_,rfl,_,_,rfl,rfl,room,n + 1,rfl,(by omega),h0,RT,q⟩
noncomputable abbrev vQ:Stmt:=zp 31
theorem kY:ze ["words","wide","values"] ["words","wide"] (zK vQ):=.a
theorem XQ {k:Nat} {f:Addr} {fd:FuncData} (F:zg K "read_step" "read_step" vQ f fd) (B:Bl mg) (au:Fn P w K mg base "read_fractions" ["words","count"] k (jO K)) (af:Fn P w K mg base "read_number" ["text"] k uR):zG P w K mg base zW (k + 1) f fd ["words","wide"] (qe K):=by
 refine F.ok kY (λvs H Q E h=>?_) (λcdv A outer s H vs Q E hr h=>?_)
 ·obtain ⟨_,_,_,rfl,_⟩:=h
  rfl
 obtain ⟨a,st,w,rfl,ha,ok,q⟩:=h
 refine ⟨_,(zL (zb (i:=2) kY.nd rfl (Or.inl rfl) (zO au hr rfl (zA (v2 um (L2.pv 0) (vz zH) vy) (zA (zQ yg (L2.pv 1) zH) zD))))
  (zN (zT (wH (zA (zO af hr rfl (zA (zo yz (L2.pv 0) zH (λ_ _=>rfl)) zD)) (zA (zo yz (L2.pv 2) zH (λ_ _=>rfl)) (zA (v2 um (L2.pv 2) (vz zH) vy) zD))))))),?_⟩
 try dsimp only [zJ,Cx.nox,Cx.wish]
 obtain ⟨nm,le,w6,okp⟩:=id ok
 obtain ⟨mo,fs⟩:=st
 obtain ⟨p,ps,rfl⟩:∃ p ps,fs=p :: ps:=by
  cases fs with
  | nil=>cases le
  | cons p ps=>exact ⟨p,ps,rfl⟩
 have lps:ps.length=w:=Nat.succ.inj le
 have ha':zE K H a ((sN mo :: (p :: ps).map sF).map V.str):=ha
 refine ⟨_,rfl,_,rfl,a,_,rfl,ha',λb hb=>?_⟩
 have z1:=zR hb (HO.lst (zq ((sN mo :: (p :: ps).map sF).map V.str) (some 1) none))
 have eb:=zP (H:=H) (a:=b) (o:=HO.lst (zq ((sN mo :: (p :: ps).map sF).map V.str) (some 1) none))
 have ec:zq ((sN mo :: (p :: ps).map sF).map V.str) (some 1) none=((p :: ps).map sF).map V.str:=kS _ (Nat.succ_pos _)
 rw [ec] at z1 eb |-
 refine ⟨_,rfl,_,_,rfl,rfl,b,p :: ps,(by rw [le]; rfl),zE.of eb,(by rw [le]; omega),okp,λl lv H2 s2 hl0 hl hv=>?_⟩
 have S2:=z1.trans s2
 refine ⟨_,rfl,a,_,0,_,rfl,rfl,S2.seq ha',(show yy _ ((0:Nat):Int)=_ from ul rfl),mo,rfl,nm,λH3 s3=>?_⟩
 cases hv with
 | cons hd tl=>
  obtain ⟨f,rfl,hf⟩:=hd
  rename_i tv
  refine ⟨_,rfl,l,_,0,_,rfl,rfl,zE.of (s3 _ _ hl),(show yy _ ((0:Nat):Int)=_ from ul rfl),_,rfl,_,rfl,l,_,rfl,zE.of (s3 _ _ hl),λc hc=>?_⟩
  have z4:=zR hc (HO.lst (zq (V.ref f :: tv) (some 1) none))
  have ec4:zq (V.ref f :: tv) (some 1) none=tv:=kS _ (Nat.succ_pos _)
  rw [ec4] at z4 |-
  refine ⟨(by show 3<=sizeLine; decide),λt ht=>?_⟩
  have z5:=zR ht (HO.tup [V.int mo,V.ref f,V.ref c])
  have Z:=s3.trans (z4.trans z5)
  exact q _ _ (S2.trans Z) ⟨t,f,c,p,tv,ps,rfl,zP,Z _ _ hf,z5 _ _ zP,zx.same Z tl,rfl⟩
noncomputable abbrev wZ:Stmt:=zp 30
theorem XR:ze ["text","wide"] ["text","wide"] (zK wZ):=.a
theorem XS {k:Nat} {f:Addr} {fd:FuncData} (F:zg K "read_run" "read_run" wZ f fd) (B:Bl mg) (ab:Fn P w K mg base "split_text" ["text","separator"] k vH) (aF:Fn P w K mg base "read_step" ["words","wide"] k (qe K)):zG P w K mg base zW (k + 1) f fd ["text","wide"] qf:=by
 refine F.ok XR (λvs H Q E h=>?_) (λcdv A outer s H vs Q E hr h=>?_)
 ·obtain ⟨_,_,rfl,_⟩:=h
  rfl
 obtain ⟨run,w,rfl,r6,ok,q⟩:=h
 refine ⟨_,(zL (zm (zn yh (L2.pv 0) yJ (zc _)) (zN (zT (y9 zD))) zl)
  (zN (zT (yn (own:=["part"]) (caps:=[(1,"wide")]) (v9 (S:=zK wZ) (N:=["text","wide"]) rfl (by decide +kernel) rfl ⟨_,rfl⟩ rfl (by decide +kernel) (by decide +kernel)) rfl (yS (zO ab hr rfl (zA (L2.pv 0) (zA (wS rfl B.STEP_BREAK_) zD)))) (λ_ _ _ _=>zy (i:=0) (show (["part","wide"]:List Str).Nodup by decide +kernel) rfl (Or.inl rfl)) (λ_ _ _ _=>(zO aF hr rfl (zA (show PE _ _ (uo K _ _ _ _) from yK PySem.F.plainAttrs_str PySem.F.slot_str_split PySem.F.type_str_split qS (L2.pv 0) (zA yJ zD)) (zA (L2.pv 1) zD)))))))),?_⟩
 try dsimp only [zJ,Cx.nox,Cx.wish]
 by_cases h0:run=[]
 ·subst h0
  refine ⟨_,rfl,rfl,_,rfl,xB (decide_eq_true rfl) ?_⟩
  refine ⟨(by show 0<=sizeLine; decide),λl hl=>?_⟩
  exact q l [] _ (zR hl _) hl zP .nil
 ·refine ⟨_,rfl,rfl,_,rfl,yY (decide_eq_false λz=>Yb h0 (V.str.inj z)) ?_⟩
  have ll:=Ym r6 ok
  have l16:=wT
  refine ⟨_,rfl,yE run,_,rfl,(by decide +kernel),(by omega),λa H1 s1 ha0 ha=>?_⟩
  rw [show Txt.split (yE run) (Str.ofString "; ")=run.map sS from YY h0] at ha
  have el:((run.map sS).map V.str).length=run.length:=by rw [List.length_map,List.length_map]
  refine ⟨a,rfl,⟨_,zE.of ha⟩,yo (K:=K) (a:=a) (xs:=(run.map sS).map V.str) (λi ys σ H'=>zd H' ys (run.take i)/\(∃ o,σ=[o,some (.int (w:Int))])/\zC H1 H')
   ⟨.nil,⟨none,rfl⟩,zC.refl _⟩ (λi ys σ H' _ ⟨e,_,sm⟩=>⟨zE.of (sm _ _ ha),by have:=Paired.length e; rw [List.length_take] at this; omega⟩) (by rw [el]; exact Nat.le_of_lt (zz (by omega))) ?_ ?_⟩
  ·rintro i x ys σ H' hx ⟨hz,⟨o,rfl⟩,sm⟩
   obtain ⟨r,hr',rfl⟩:∃ r,run[i]? = some r/\x=V.str (sS r):=by
    rw [List.getElem?_map,List.getElem?_map] at hx
    cases e:run[i]? with
    | none=>rw [e] at hx; cases hx
    | some n=>rw [e] at hx; exact ⟨n,rfl,(Option.some.inj hx).symm⟩
   have okr:=ok r (List.mem_of_getElem? hr')
   have lw:=jL okr
   refine ⟨_,rfl,rfl,sS r,yC,rfl,rfl,(by decide +kernel),(by omega),λb hb=>?_⟩
   have z2:=zR hb (HO.lst ((Txt.split (sS r) yC).map V.str))
   have eb:=zP (H:=H') (a:=b) (o:=HO.lst ((Txt.split (sS r) yC).map V.str))
   rw [YV] at z2 eb |-
   refine ⟨_,rfl,b,r,w,rfl,zE.of eb,okr,λv H3 s3 hv=>⟨?_,⟨_,rfl⟩,sm.trans (z2.trans s3)⟩⟩
   rw [y4 hr']
   exact kU hv (zd.same (z2.trans s3) hz)
  rintro ys σ H' ⟨hz,⟨o,rfl⟩,sm⟩ l hl
  rw [el,List.take_length] at hz
  exact q l ys _ (s1.trans (sm.trans (zR hl _))) ((s1.trans sm).free hl) zP (zd.same (zR hl _) hz)
end
noncomputable def qh:Sp:=λvs H Q _=>∃ a b:Int,vs=[.int a,.int b]/\Q (.int (Int.gcd a b)) H
noncomputable def Sm (x:Int):Prop:=0<=x/\x < 10 ^ 45
theorem Sm.bd {x:Int} (h:Sm x):Bd 150 x:=by
 have:=h.1
 have:=h.2
 show x.natAbs < 2 ^ 150
 have:(10:Int) ^ 45 < 2 ^ 150:=by decide
 omega
noncomputable def jR:Sp:=λvs H Q _=>∃ (c:Int) (j n:Nat),vs=[.int c,.int (j:Int),.int (n:Int)]/\j<=5/\n<=16/\∀ (r:Addr) (H':Hp) (xs:List Int),zC H H'->H' r=some (.lst (xs.map V.int))->xs.length=n->(∀ x∈xs,Sm x)->Q (.ref r) H'
noncomputable def uS:Sp:=λvs H Q _=>∃ x c:Int,vs=[.int x,.int c]/\Sm x/\∀ (y:Int) (H':Hp),zC H H'->Nm y->Q (.int y) H'
noncomputable def jS:Sp:=λvs H Q _=>∃ x y c:Int,vs=[.int x,.int y,.int c]/\Sm x/\Sm y/\∀ (r:Addr) (p:Int × Int) (H':Hp),zC H H'->H' r=some (.tup [.int p.1,.int p.2])->xP p->Q (.ref r) H'
noncomputable def wu:Sp:=λvs H Q _=>∃ (r:Addr) (a b:Int),vs=[.ref r]/\H r=some (.tup [.int a,.int b])/\Q (.bl true) H
theorem XT {xs:List Int} {i:Nat}:zq (xs.map V.int) (some (i:Int)) none=(xs.drop i).map V.int:=by
 have e1:HT.sIx (xs.map V.int).length 0 (some (i:Int))=min i (xs.map V.int).length:=HT.sIx_nat _ _ i
 have e2:HT.sIx (xs.map V.int).length (xs.map V.int).length none=(xs.map V.int).length:=rfl
 unfold zq
 rw [e1,e2,List.length_map]
 by_cases h:i<=xs.length
 ·rw [show min i xs.length=i by omega,<- List.map_drop,List.take_of_length_le (by rw [List.length_map,List.length_drop]; omega)]
 ·rw [show min i xs.length=xs.length by omega,Nat.sub_self,List.take_zero,List.drop_of_length_le (by omega)]
  rfl
theorem XU {t b:Int} (nt:Nm t) (nb:Nm b) (b0:0 < b):xP (t.fdiv (Int.gcd t b),b.fdiv (Int.gcd t b)):=by
 have g0:0 < Int.gcd t b:=Int.gcd_pos_of_ne_zero_right t (by omega)
 have gi:(0:Int)<=(Int.gcd t b:Int):=by omega
 have gi':(0:Int) < (Int.gcd t b:Int):=by omega
 have d1:(Int.gcd t b:Int) ∣ t:=Int.gcd_dvd_left ..
 have d2:(Int.gcd t b:Int) ∣ b:=Int.gcd_dvd_right ..
 rw [Int.fdiv_eq_ediv_of_nonneg _ gi,Int.fdiv_eq_ediv_of_nonneg _ gi]
 refine ⟨?_,?_,?_,?_⟩
 ·show (t / (Int.gcd t b:Int)).natAbs < 10 ^ 60
  rw [Int.natAbs_ediv_of_dvd d1]
  exact Nat.lt_of_le_of_lt (Nat.div_le_self ..) nt
 ·show (b / (Int.gcd t b:Int)).natAbs < 10 ^ 60
  rw [Int.natAbs_ediv_of_dvd d2]
  exact Nat.lt_of_le_of_lt (Nat.div_le_self ..) nb
 ·exact Int.ediv_pos_of_pos_of_dvd b0 gi d2
 ·exact Int.gcd_ediv_gcd_ediv_gcd g0
section
variable {P:Program} {w:World} {K:PySem.W.Frag} {mg:Str->Option Value} {base:Heap}
noncomputable abbrev vR:Stmt:=zp 33
theorem XV:ze ["_law_script","_law_k"] ["_law_script","_law_k"] (zK vR):=.a
theorem XW {k:Nat} {f:Addr} {fd:FuncData} (F:zg K "_law_cell_at" "_law_cell_at" vR f fd) (B:Bl mg):zG P w K mg base zW (k + 1) f fd ["_law_script","_law_k"] (wq K):=by
 refine F.ok XV (λvs H Q E h=>?_) (λcdv A outer s H vs Q E hr h=>?_)
 ·obtain ⟨_,_,_,rfl,_⟩:=h
  rfl
 obtain ⟨a,ns,k,rfl,hS,h0,q⟩:=h
 refine ⟨_,(zL (zm (zn jq (L2.pv 1) (zt wJ rfl B.len_ xX (zA (L2.pv 0) zD)) (zc _)) (zN (zT (zo yz (L2.pv 0) (L2.pv 1) (λ_ _=>rfl)))) zl)
  (zN (zT zH))),?_⟩
 try dsimp only [zJ,Cx.nox,Cx.wish]
 refine ⟨_,rfl,_,rfl,a,_,rfl,.inl hS,_,_,rfl,rfl,_,rfl,?_⟩
 refine yV (λc=>?_) (λc=>?_)
 ·have c':k < ((ns.map V.int).length:Int):=of_decide_eq_true c
  rw [List.length_map] at c'
  have hk:k.toNat < ns.length:=by omega
  have ek:k=((k.toNat:Nat):Int):=by omega
  have q0:yy (ns.map V.int) ((k.toNat:Nat):Int)=some (.int ns[k.toNat]):=ul (by rw [List.getElem?_map,List.getElem?_eq_getElem hk]; rfl)
  rw [<- ek] at q0
  refine ⟨_,rfl,_,rfl,a,_,k,.int (ns[k.toNat]),rfl,rfl,hS,q0,?_⟩
  ·have e:ns[k.toNat]=yZ ns k:=by unfold yZ; rw [List.getElem?_eq_getElem hk]; rfl
   rw [e]
   exact q
 ·have c':¬ k < ((ns.map V.int).length:Int):=λz=>c (decide_eq_true z)
  rw [List.length_map] at c'
  have e:(0:Int)=yZ ns k:=by unfold yZ; rw [List.getElem?_eq_none (by omega)]; rfl
  show Q (.int 0) H
  rw [e]
  exact q
noncomputable abbrev vS:Stmt:=zp 34
theorem xz:ze ["_law_cell","_law_many","_law_found","_law_rest","_law_k","_law_number_here"] ["_law_cell","_law_many"] (zK vS):=.a
theorem XX {k:Nat} {f:Addr} {fd:FuncData} (F:zg K "_law_stream" "_law_stream" vS f fd) (B:Bl mg):zG P w K mg base zW (k + 1) f fd ["_law_cell","_law_many"] uC:=by
 refine F.ok xz (λvs H Q E h=>?_) (λcdv A outer s H vs Q E hr h=>?_)
 ·obtain ⟨_,_,rfl,_⟩:=h
  rfl
 obtain ⟨c,mm,rfl,m0,m10,q⟩:=h
 refine ⟨_,(zL (zb (i:=2) xz.nd rfl (Or.inl rfl) (y9 zD))
  (zL (zm (zn jr (L2.pv 0) (zQ wF zH zH) (zc _)) (zL (zb (i:=3) xz.nd rfl (Or.inl rfl) (zQ q9 (L2.pv 0) (zQ wF zH zH)))
   (zL (xn PassesOwn.never rfl (wj rfl B.range_ (zA (L2.pv 1) zD)) (zy (i:=4) xz.nd rfl (Or.inl rfl)) (zL (x8 (yK PySem.F.plainAttrs_list PySem.F.slot_list_append PySem.F.type_list_append wK (L2.pv 2) (zA (zQ yc (L2.pv 3) zH) zD)))
    (zN (zb (i:=3) xz.nd rfl (Or.inl rfl) (zQ xr (L2.pv 3) zH)))))
   (zN (zT (L2.pv 2))))) zl)
  (zL (zb (i:=5) xz.nd rfl (Or.inl rfl) (zQ yg (zQ yc (L2.pv 0) zH) zH))
  (zL (xn PassesOwn.never rfl (wj rfl B.range_ (zA (zQ yg (L2.pv 1) zH) zD)) (zy (i:=4) xz.nd rfl (Or.inl rfl)) (zL (zb (i:=5) xz.nd rfl (Or.inl rfl) (zQ yc (zQ yg (zQ yg (zQ xA (L2.pv 5) (L2.pv 5)) (zQ xA zH (L2.pv 5))) (L2.pv 4)) zH))
   (zN (x8 (yK PySem.F.plainAttrs_list PySem.F.slot_list_append PySem.F.type_list_append wK (L2.pv 2) (zA (L2.pv 5) zD))))))
  (zN (zT (v2 um (L2.pv 2) (vz zH) vy))))))),?_⟩
 try dsimp only [zJ,Cx.nox,Cx.wish]
 have p0:(0:Int) < 2147483647:=by decide
 have b0:Bd 31 (2147483647:Int):=Bd.lit
 have big:(2147483647:Int) < 10 ^ 45:=by decide
 have bmod:∀ z:Int,Bd 31 (z.fmod 2147483647):=λz=>by
  have h1:=Int.fmod_nonneg_of_pos z p0
  have h2:=Int.fmod_lt_of_pos z p0
  have h3:(2147483647:Int).natAbs < 2 ^ 31:=b0
  show (z.fmod 2147483647).natAbs < 2 ^ 31
  omega
 refine ⟨(by show 0<=sizeLine; decide),λl hl=>?_⟩
 refine ⟨_,rfl,_,_,rfl,rfl,⟨by decide,by decide,by decide⟩,_,_,rfl,rfl,_,rfl,?_⟩
 refine yV (λcc=>?_) (λcc=>?_)
 ·refine ⟨_,rfl,_,_,rfl,rfl,⟨by decide,by decide,by decide⟩,_,_,rfl,rfl,?_⟩
  refine ⟨_,rfl,mm,rfl,(by omega),(by omega),uf (lo:=0) (n:=mm.toNat)
   (λi σ H2=>∃ (xs:List Int) (rs:Int) (kk:Option V),σ=[some (.int c),some (.int mm),some (.ref l),some (.int rs),kk,none]/\H2=upd H l (.lst (xs.map V.int))/\xs.length=i/\∀ x∈xs,0<=x/\x < 10 ^ 45)
   ⟨[],_,none,rfl,rfl,rfl,λx hx=>by cases hx⟩ ?_ ?_⟩
  ·rintro i σ H2 hi ⟨xs,rs,kk,rfl,rfl,hlen,hxs⟩
   refine ⟨_,rfl,.inl ⟨rfl,_,zE.of zP⟩,_,rfl,_,_,rfl,rfl,(show (2147483647:Int)≠0 by decide),l,_,_,rfl,rfl,zP,?_,?_⟩
   ·rw [List.length_map]
    exact zz (by omega)
   refine ⟨_,rfl,_,_,rfl,rfl,⟨(show (2147483647:Int)≠0 by decide),b0.mono⟩,?_⟩
   refine ⟨xs++[rs.fmod 2147483647],_,_,rfl,?_,?_,λx hx=>?_⟩
   ·rw [qr,List.map_append]
    rfl
   ·rw [List.length_append,hlen]
    rfl
   ·rcases List.mem_append.mp hx with hx | hx
    ·exact hxs x hx
    ·rw [List.mem_singleton.mp hx]
     have h2:=Int.fmod_lt_of_pos rs p0
     exact ⟨Int.fmod_nonneg_of_pos _ p0,by omega⟩
  ·rintro σ H2 ⟨xs,rs,kk,rfl,rfl,hlen,hxs⟩
   exact ⟨_,rfl,q l _ xs (zR hl _) hl zP hlen hxs⟩
 ·refine ⟨_,rfl,_,_,rfl,rfl,(show (2147483647:Int)≠0 by decide),_,_,rfl,rfl,?_⟩
  have bk:Bd 31 (48271:Int):=Bd.lit
  have hb0:Bd 62 (c.fmod 2147483647 + 48271):=((bmod c).add bk).mono
  refine ⟨_,rfl,_,_,rfl,rfl,mm + 2,rfl,(by omega),(by omega),uf (lo:=0) (n:=(mm + 2).toNat)
   (λi σ H2=>∃ (xs:List Int) (nh:Int) (kk:Option V),σ=[some (.int c),some (.int mm),some (.ref l),none,kk,some (.int nh)]/\H2=upd H l (.lst (xs.map V.int))/\xs.length=i/\Bd 62 nh/\∀ x∈xs,0<=x/\x < 10 ^ 45)
   ⟨[],_,none,rfl,rfl,rfl,hb0,λx hx=>by cases hx⟩ ?_ ?_⟩
  ·rintro i σ H2 hi ⟨xs,nh,kk,rfl,rfl,hlen,hnh,hxs⟩
   refine ⟨_,rfl,_,rfl,_,_,rfl,rfl,⟨hnh.mono,hnh.mono⟩,_,rfl,_,_,rfl,rfl,⟨bk.mono,hnh.mono⟩,_,_,rfl,rfl,_,rfl,_,_,rfl,rfl,_,_,rfl,rfl,(show (2147483647:Int)≠0 by decide),?_⟩
   refine ⟨_,rfl,.inl ⟨rfl,_,zE.of zP⟩,_,rfl,l,_,_,rfl,rfl,zP,?_,?_⟩
   ·rw [List.length_map]
    exact zz (by omega)
   refine ⟨xs++[(nh * nh + 48271 * nh + (0 + (i:Int))).fmod 2147483647],_,_,rfl,?_,?_,(bmod _).mono,λx hx=>?_⟩
   ·rw [qr,List.map_append]
    rfl
   ·rw [List.length_append,hlen]
    rfl
   ·rcases List.mem_append.mp hx with hx | hx
    ·exact hxs x hx
    ·rw [List.mem_singleton.mp hx]
     have h2:=Int.fmod_lt_of_pos (nh * nh + 48271 * nh + (0 + (i:Int))) p0
     exact ⟨Int.fmod_nonneg_of_pos _ p0,by omega⟩
  ·rintro σ H2 ⟨xs,nh,kk,rfl,rfl,hlen,hnh,hxs⟩
   refine ⟨_,rfl,_,rfl,l,_,rfl,zE.of zP,λp hp=>?_⟩
   have ec:zq (xs.map V.int) (some 2) none=(xs.drop 2).map V.int:=by
    have e1:HT.sIx (xs.map V.int).length 0 (some 2)=min 2 (xs.map V.int).length:=HT.sIx_nat _ 0 2
    unfold zq
    rw [e1,HT.sIx_none,List.length_map,hlen,show min 2 (mm + 2).toNat=2 by omega,<- List.map_drop,List.take_of_length_le (by rw [List.length_map,List.length_drop]; omega)]
   refine q p _ (xs.drop 2) ((zR hl _).trans (zR hp _)) ((zR hl _).free hp) (zP.trans (by rw [ec])) (by rw [List.length_drop]; omega) λx hx=>hxs x (List.mem_of_mem_drop hx)
noncomputable abbrev vT:Stmt:=zp 35
theorem XY:ze ["_law_cell","_law_k","_law_many"] ["_law_cell","_law_k","_law_many"] (zK vT):=.a
theorem XZ {k:Nat} {f:Addr} {fd:FuncData} (F:zg K "_law_draws" "_law_draws" vT f fd) (B:Bl mg) (aj:Fn P w K mg base "_law_stream" ["_law_cell","_law_many"] k uC):zG P w K mg base zW (k + 1) f fd ["_law_cell","_law_k","_law_many"] jR:=by
 refine F.ok XY (λvs H Q E h=>?_) (λcdv A outer s H vs Q E hr h=>?_)
 ·obtain ⟨_,_,_,rfl,_⟩:=h
  rfl
 obtain ⟨c,j,n,rfl,j5,n16,q⟩:=h
 refine ⟨_,(zL (zm (zn jr (L2.pv 0) (zQ wF zH zH) (zc _)) (zN (zT (v2 um (zO aj hr rfl (zA (L2.pv 0) (zA (zQ xA (L2.pv 2) (zQ yg (L2.pv 1) zH)) zD))) (vz (zQ xA (L2.pv 2) (L2.pv 1))) vy))) zl)
  (zN (zT (zO aj hr rfl (zA (zQ yg (L2.pv 0) (zQ xA zH (L2.pv 1))) (zA (L2.pv 2) zD)))))),?_⟩
 try dsimp only [zJ,Cx.nox,Cx.wish]
 have bn:Bd 10 (n:Int):=by show ((n:Int)).natAbs < 2 ^ 10; omega
 have bj:Bd 10 (j:Int):=by show ((j:Int)).natAbs < 2 ^ 10; omega
 have bj1:Bd 10 ((j:Int) + 1):=by show ((j:Int) + 1).natAbs < 2 ^ 10; omega
 have b7:Bd 13 (7919:Int):=Bd.lit
 refine ⟨_,rfl,_,_,rfl,rfl,⟨by decide,by decide,by decide⟩,_,_,rfl,rfl,_,rfl,?_⟩
 refine yV (λcc=>?_) (λcc=>?_)
 ·have hm:(n:Int) * ((j:Int) + 1)=((n * (j + 1):Nat):Int):=by push_cast; rfl
  have hk:(n:Int) * (j:Int)=((n * j:Nat):Int):=by push_cast; rfl
  have le:n * (j + 1)<=16 * 6:=Nat.mul_le_mul n16 (by omega)
  refine ⟨_,rfl,_,rfl,_,rfl,_,_,rfl,rfl,_,_,rfl,rfl,⟨bn.mono,bj1.mono⟩,_,_,rfl,?_,?_,λr H1 xs s1 hr0 hr' len bd=>?_⟩
  ·omega
  ·omega
  refine ⟨_,rfl,_,rfl,_,_,rfl,rfl,⟨bn.mono,bj.mono⟩,_,rfl,r,_,rfl,zE.of hr',λp hp=>?_⟩
  refine q p _ (xs.drop (n * j)) (s1.trans (zR hp _)) (zP.trans ?_) ?_ λx hx=>bd x (List.mem_of_mem_drop hx)
  ·show some (HO.lst (zq (xs.map V.int) (some ((n:Int) * (j:Int))) none))=_
   rw [hk,XT]
  ·rw [List.length_drop,len,hm,Nat.mul_succ]
   omega
 ·refine ⟨_,rfl,_,rfl,_,_,rfl,rfl,⟨b7.mono,bj.mono⟩,_,_,rfl,rfl,_,rfl,_,_,rfl,(by omega),(by omega),λr H1 xs s1 hr0 hr' len bd=>?_⟩
  exact q r H1 xs s1 hr' (by rw [len]; omega) bd
noncomputable abbrev x3:Stmt:=zp 36
theorem jT:ze ["_law_number_here","_law_cell","_law_size"] ["_law_number_here","_law_cell"] (zK x3):=.a
theorem Xa {k:Nat} {f:Addr} {fd:FuncData} (F:zg K "_law_number" "_law_number" x3 f fd) (B:Bl mg):zG P w K mg base zW (k + 1) f fd ["_law_number_here","_law_cell"] uS:=by
 refine F.ok jT (λvs H Q E h=>?_) (λcdv A outer s H vs Q E hr h=>?_)
 ·obtain ⟨_,_,rfl,_⟩:=h
  rfl
 obtain ⟨x,c,rfl,sx,q⟩:=h
 obtain ⟨t2,T2,R2⟩:∃ t2,yU (zJ zW P w K mg base ["_law_number_here","_law_cell","_law_size"] "_law_number" (zK x3) f cdv A outer s H E).nox ((zX x3).drop 3) t2/\∀ (sz:Int),0<=sz->sz < 10 ^ 60->t2 { nx:=λ_ H'=>Q .non H',rt:=Q } [some (.int x),some (.int c),some (.int sz)] H:=by
  refine ⟨_,(zN (zT (zQ xA (L2.pv 2) (zo yz (y9 (zA zH (zA (zQ q9 zH zH) zD))) (zQ yc (zQ xr (L2.pv 0) zH) zH) (λ_ _=>rfl))))),?_⟩
  try dsimp only [zJ,Cx.nox,Cx.wish]
  intro sz s0 s1
  have b5:Bd 4 (5:Int):=Bd.lit
  have bs:Bd 200 sz:=by
   show sz.natAbs < 2 ^ 200
   have:(10:Int) ^ 60 < 2 ^ 200:=by decide
   omega
  have g0:=Int.fmod_nonneg_of_pos (x.fdiv 5) (show (0:Int) < 2 by decide)
  have g1:=Int.fmod_lt_of_pos (x.fdiv 5) (show (0:Int) < 2 by decide)
  refine ⟨_,rfl,_,_,rfl,rfl,(by show 2<=sizeLine; decide),λl hl=>?_⟩
  obtain ⟨mm,hm,hv⟩:∃ mm:Int,yy [V.int 1,V.int (0 - 1)] ((x.fdiv 5).fmod 2)=some (.int mm)/\(mm=1\/mm = -1):=by
   rcases (by omega:(x.fdiv 5).fmod 2=0\/(x.fdiv 5).fmod 2=1) with e | e
   ·exact ⟨1,by rw [e]; rfl,.inl rfl⟩
   ·exact ⟨-1,by rw [e]; rfl,.inr rfl⟩
  have bm:Bd 4 mm:=by
   show mm.natAbs < 2 ^ 4
   omega
  refine ⟨_,rfl,_,_,rfl,rfl,⟨by decide,b5.mono⟩,_,_,rfl,rfl,(show (2:Int)≠0 by decide),l,_,_,.int mm,rfl,rfl,zE.of zP,hm,_,_,rfl,rfl,⟨bs.mono,bm.mono⟩,?_⟩
  refine q _ _ (zR hl _) ?_
  show (sz * mm).natAbs < 10 ^ 60
  rw [Int.natAbs_mul,show mm.natAbs=1 by omega]
  omega
 refine ⟨_,(zL (zb (i:=2) jT.nd rfl (Or.inl rfl) (zQ yc (zQ xr (L2.pv 0) zH) zH))
  (zL (zm (zn yh (zQ yc (L2.pv 0) zH) zH (zc _)) (zN (zb (i:=2) jT.nd rfl (Or.inl rfl) (zQ yc (zQ yg (zQ xA (L2.pv 0) zH) (L2.pv 1)) (zQ wF zH zH)))) zl)
  (zL (zm (zn yh (zQ yc (L2.pv 0) zH) zH (zc _)) (zN (zb (i:=2) jT.nd rfl (Or.inl rfl) (zQ yg (zQ wF zH zH) (zQ yc (zQ yg (zQ xA (L2.pv 0) (zQ wF zH zH)) (L2.pv 1)) (zQ xA zH (zQ wF zH zH)))))) zl)
  T2))),?_⟩
 try dsimp only [zJ,Cx.nox,Cx.wish]
 have bx:=sx.bd
 have b10:Bd 4 (10:Int):=Bd.lit
 have b4:Bd 16 (48271:Int):=Bd.lit
 have b9:Bd 4 (9:Int):=Bd.lit
 have b50:Bd 200 ((10:Int) ^ (50:Int).toNat):=Bd.lit
 have b59:Bd 200 ((10:Int) ^ (59:Int).toNat):=Bd.lit
 refine ⟨_,rfl,_,_,rfl,rfl,⟨by decide,b10.mono⟩,_,_,rfl,rfl,(show (10:Int)≠0 by decide),?_⟩
 have t0:=Int.fmod_nonneg_of_pos (x.fdiv 10) (show (0:Int) < 10 by decide)
 have t1:=Int.fmod_lt_of_pos (x.fdiv 10) (show (0:Int) < 10 by decide)
 have big:(10:Int) < 10 ^ 60:=by decide
 have big2:(10:Int) ^ (20:Int).toNat < 10 ^ 60:=by decide
 refine ⟨_,rfl,_,_,rfl,rfl,(show (5:Int)≠0 by decide),rfl,_,rfl,?_⟩
 refine yV (λ_=>?_) (λ_=>?_)
 ·refine ⟨_,rfl,_,_,rfl,rfl,⟨bx.mono,b4.mono⟩,_,rfl,_,_,rfl,rfl,_,_,rfl,rfl,⟨by decide,by decide,by decide⟩,_,_,rfl,rfl,(show (10:Int) ^ (20:Int).toNat≠0 by decide),?_⟩
  have v0:=Int.fmod_nonneg_of_pos (x * 48271 + c) (show (0:Int) < 10 ^ (20:Int).toNat by decide)
  have v1:=Int.fmod_lt_of_pos (x * 48271 + c) (show (0:Int) < 10 ^ (20:Int).toNat by decide)
  refine ⟨_,rfl,_,_,rfl,rfl,(show (5:Int)≠0 by decide),rfl,_,rfl,?_⟩
  refine yV (λ_=>?_) (λ_=>?_)
  ·refine ⟨_,_,rfl,rfl,⟨by decide,by decide,by decide⟩,_,rfl,_,_,rfl,rfl,⟨by decide,by decide,by decide⟩,_,_,rfl,rfl,⟨bx.mono,b50.mono⟩,_,rfl,_,_,rfl,rfl,_,_,rfl,rfl,⟨by decide,by decide,by decide⟩,_,_,rfl,rfl,⟨b9.mono,b59.mono⟩,_,_,rfl,rfl,(show (9:Int) * 10 ^ (59:Int).toNat≠0 by decide),_,_,rfl,rfl,?_⟩
   have u0:=Int.fmod_nonneg_of_pos (x * 10 ^ (50:Int).toNat + c) (show (0:Int) < 9 * 10 ^ (59:Int).toNat by decide)
   have u1:=Int.fmod_lt_of_pos (x * 10 ^ (50:Int).toNat + c) (show (0:Int) < 9 * 10 ^ (59:Int).toNat by decide)
   exact R2 _ (Int.add_nonneg (by decide) u0) (Int.lt_of_lt_of_le (Int.add_lt_add_left u1 _) (by decide))
  ·exact R2 _ v0 (Int.lt_trans v1 big2)
 ·refine ⟨_,rfl,_,_,rfl,rfl,(show (5:Int)≠0 by decide),rfl,_,rfl,?_⟩
  refine yV (λ_=>?_) (λ_=>?_)
  ·refine ⟨_,_,rfl,rfl,⟨by decide,by decide,by decide⟩,_,rfl,_,_,rfl,rfl,⟨by decide,by decide,by decide⟩,_,_,rfl,rfl,⟨bx.mono,b50.mono⟩,_,rfl,_,_,rfl,rfl,_,_,rfl,rfl,⟨by decide,by decide,by decide⟩,_,_,rfl,rfl,⟨b9.mono,b59.mono⟩,_,_,rfl,rfl,(show (9:Int) * 10 ^ (59:Int).toNat≠0 by decide),_,_,rfl,rfl,?_⟩
   have u0:=Int.fmod_nonneg_of_pos (x * 10 ^ (50:Int).toNat + c) (show (0:Int) < 9 * 10 ^ (59:Int).toNat by decide)
   have u1:=Int.fmod_lt_of_pos (x * 10 ^ (50:Int).toNat + c) (show (0:Int) < 9 * 10 ^ (59:Int).toNat by decide)
   exact R2 _ (Int.add_nonneg (by decide) u0) (Int.lt_of_lt_of_le (Int.add_lt_add_left u1 _) (by decide))
  ·exact R2 _ t0 (Int.lt_trans t1 big)
noncomputable abbrev vU:Stmt:=zp 37
theorem kZ:ze ["_law_one","_law_other"] ["_law_one","_law_other"] (zK vU):=.a
theorem Xb {k:Nat} {f:Addr} {fd:FuncData} (F:zg K "_law_divisor" "_law_divisor" vU f fd) (B:Bl mg):zG P w K mg base zW (k + 1) f fd ["_law_one","_law_other"] qh:=by
 refine F.ok kZ (λvs H Q E h=>?_) (λcdv A outer s H vs Q E hr h=>?_)
 ·obtain ⟨_,_,rfl,_⟩:=h
  rfl
 obtain ⟨a,b,rfl,q⟩:=h
 refine ⟨_,(zL (qz PassesOwn.never (zn xL (L2.pv 1) zH (zc _)) (zN (ZB (i:=0) (j:=1) rfl kZ.nd rfl rfl (by decide) rfl rfl (zA (L2.pv 1) (zA (zQ yc (L2.pv 0) (L2.pv 1)) zD)) rfl)))
  (zN (zT (zt uj rfl B.abs_ ur (zA (L2.pv 0) zD))))),?_⟩
 try dsimp only [zJ,Cx.nox,Cx.wish]
 refine q5 (λσ H'=>∃ c r:Int,σ=[some (.int c),some (.int r)]/\H'=H/\Int.gcd c r=Int.gcd a b) (λσ _=>match σ with | [_,some (.int r)]=>r.natAbs | _=>0) ⟨a,b,rfl,rfl,rfl⟩ ?_ ?_
 ·rintro σ H' ⟨c,r,rfl,rfl,hg⟩
  refine ⟨_,rfl,rfl,_,rfl,?_⟩
  by_cases z0:r=0
  ·subst z0
   refine xp rfl ?_
   refine ⟨_,rfl,c,rfl,?_⟩
   rw [Zj]
   rw [Int.gcd_zero_right] at hg
   rw [hg]
   exact q
  ·have ne:¬ (V.int r=V.int 0):=λe=>z0 (by injection e)
   refine xB (gn z0) ?_
   refine ⟨_,rfl,_,rfl,_,rfl,_,_,rfl,rfl,z0,_,_,rfl,?_⟩
   exact ⟨⟨r,c.fmod r,rfl,rfl,by rw [gY]; exact hg⟩,Zi z0⟩
 ·rintro σ H' Q1 Q2 h ⟨v,e,sc,k,ek,q1⟩
  exact ⟨v,e,sc,k,ek,h _ _ q1⟩
noncomputable abbrev x4:Stmt:=zp 38
theorem uT:ze ["_law_number_here","_law_other","_law_cell","_law_top","_law_bottom","_law_share"] ["_law_number_here","_law_other","_law_cell"] (zK x4):=.a
theorem Xc {k:Nat} {f:Addr} {fd:FuncData} (F:zg K "_law_value" "_law_value" x4 f fd) (B:Bl mg) (ad:Fn P w K mg base "_law_number" ["_law_number_here","_law_cell"] k uS) (aG:Fn P w K mg base "_law_divisor" ["_law_one","_law_other"] k qh):zG P w K mg base zW (k + 1) f fd ["_law_number_here","_law_other","_law_cell"] jS:=by
 refine F.ok uT (λvs H Q E h=>?_) (λcdv A outer s H vs Q E hr h=>?_)
 ·obtain ⟨_,_,_,rfl,_⟩:=h
  rfl
 obtain ⟨x,y,c,rfl,sx,sy,q⟩:=h
 obtain ⟨t2,T2,R2⟩:∃ t2,yU (zJ zW P w K mg base ["_law_number_here","_law_other","_law_cell","_law_top","_law_bottom","_law_share"] "_law_value" (zK x4) f cdv A outer s H E).nox ((zX x4).drop 3) t2/\∀ (t b:Int) (H2:Hp),zC H H2->Nm t->0 < b->Nm b->t2 { nx:=λ_ H'=>Q .non H',rt:=Q } [some (.int x),some (.int y),some (.int c),some (.int t),some (.int b),none] H2:=by
  refine ⟨_,(zL (zb (i:=5) uT.nd rfl (Or.inl rfl) (zO aG hr rfl (zA (L2.pv 3) (zA (L2.pv 4) zD))))
  (zN (zT (wH (zA (zQ xr (L2.pv 3) (L2.pv 5)) (zA (zQ xr (L2.pv 4) (L2.pv 5)) zD)))))),?_⟩
  try dsimp only [zJ,Cx.nox,Cx.wish]
  intro t b H2 S2 nt b0 nb
  have g0:0 < Int.gcd t b:=Int.gcd_pos_of_ne_zero_right t (by omega)
  have bg:Bd 200 (Int.gcd t b:Int):=by
   show ((Int.gcd t b:Nat):Int).natAbs < 2 ^ 200
   have h1:Int.gcd t b<=b.natAbs:=Nat.le_of_dvd (by omega) (Nat.gcd_dvd_right ..)
   have h2:b.natAbs < 10 ^ 60:=nb
   have h3:10 ^ 60 < 2 ^ 200:=by decide
   have:((Int.gcd t b:Nat):Int).natAbs=Int.gcd t b:=rfl
   omega
  refine ⟨_,rfl,_,rfl,t,b,rfl,?_⟩
  refine ⟨_,rfl,_,rfl,_,_,rfl,rfl,⟨by omega,bg.mono⟩,_,rfl,_,rfl,_,_,rfl,rfl,⟨by omega,bg.mono⟩,(by show 2<=sizeLine; decide),λr hr'=>?_⟩
  exact q r (t.fdiv (Int.gcd t b),b.fdiv (Int.gcd t b)) _ (S2.trans (zR hr' _)) zP (XU nt nb b0)
 refine ⟨_,(zL (zb (i:=3) uT.nd rfl (Or.inl rfl) (zO ad hr rfl (zA (L2.pv 0) (zA (L2.pv 2) zD))))
  (zL (zb (i:=4) uT.nd rfl (Or.inl rfl) (zt (ZO rfl) rfl B.max_ Zw (zA zH (zA (zt uj rfl B.abs_ ur (zA (zO ad hr rfl (zA (L2.pv 1) (zA (L2.pv 2) zD))) zD)) zD))))
  (zL (zm (zn yh (zQ yc (L2.pv 1) zH) zH (zc _)) (zN (zb (i:=4) uT.nd rfl (Or.inl rfl) zH)) zl)
  T2))),?_⟩
 try dsimp only [zJ,Cx.nox,Cx.wish]
 refine ⟨_,rfl,_,rfl,x,c,rfl,sx,λt H1 s1 nt=>?_⟩
 refine ⟨_,rfl,_,rfl,y,c,rfl,sy,λb H2 s2 nb=>?_⟩
 refine ⟨b,rfl,1,_,rfl,?_⟩
 have S2:=s1.trans s2
 have nb':b.natAbs < 10 ^ 60:=nb
 have hb0:0 < (if (if b < 0 then -b else b) > 1 then (if b < 0 then -b else b) else (1:Int)):=by split <;> omega
 have hb1:(if (if b < 0 then -b else b) > 1 then (if b < 0 then -b else b) else (1:Int)).natAbs < 10 ^ 60:=by
  have h1:(1:Int).natAbs < 10 ^ 60:=by decide
  split <;> split <;> omega
 generalize (if (if b < 0 then -b else b) > 1 then (if b < 0 then -b else b) else (1:Int))=bv at hb0 hb1 |-
 refine ⟨_,rfl,_,_,rfl,rfl,(show (7:Int)≠0 by decide),rfl,_,rfl,?_⟩
 refine yV (λ_=>?_) (λ_=>?_)
 ·exact R2 t 1 H2 S2 nt (by decide) (by decide)
 ·exact R2 t bv H2 S2 nt hb0 hb1
noncomputable abbrev vV:Stmt:=zp 39
theorem Xd:ze ["_law_value_here"] ["_law_value_here"] (zK vV):=.a
theorem Xe {k:Nat} {f:Addr} {fd:FuncData} (F:zg K "_law_text" "_law_text" vV f fd) (B:Bl mg):zG P w K mg base zW (k + 1) f fd ["_law_value_here"] xy:=by
 refine F.ok Xd (λvs H Q E h=>?_) (λcdv A outer s H vs Q E hr h=>?_)
 ·obtain ⟨_,_,_,rfl,_⟩:=h
  rfl
 obtain ⟨p,a,b,rfl,hp,na,nb,q⟩:=h
 refine ⟨_,(zL (zm (zn yh (zo yN (L2.pv 0) zH (λ_ _=>rfl)) zH (zc _)) (zN (zT (yk xi rfl B.str_ xM (zA (zo yN (L2.pv 0) zH (λ_ _=>rfl)) zD)))) zl)
  (zN (zT (zQ jG (zQ jG (yk xi rfl B.str_ xM (zA (zo yN (L2.pv 0) zH (λ_ _=>rfl)) zD)) yJ) (yk xi rfl B.str_ xM (zA (zo yN (L2.pv 0) zH (λ_ _=>rfl)) zD)))))),?_⟩
 try dsimp only [zJ,Cx.nox,Cx.wish]
 have la:=(xD na).2
 have lb:=(xD nb).2
 have l16:=wT
 refine ⟨_,rfl,p,_,1,_,rfl,rfl,zV.of hp,xb,rfl,_,rfl,?_⟩
 unfold sF at q
 by_cases e:b=1
 ·refine xB (wo e) ?_
  rw [if_pos (show (a,b).2=1 from e)] at q
  exact ⟨_,rfl,p,_,0,_,rfl,rfl,zV.of hp,wP,.inl ⟨a,rfl,na,q⟩⟩
 ·refine yY (decide_eq_false λz=>e (V.int.inj z)) ?_
  rw [if_neg (show ¬ (a,b).2=1 from e)] at q
  refine ⟨_,rfl,p,_,0,_,rfl,rfl,zV.of hp,wP,.inl ⟨a,rfl,na,?_⟩⟩
  refine ⟨_,_,rfl,rfl,?_,_,rfl,p,_,1,_,rfl,rfl,zV.of hp,xb,.inl ⟨b,rfl,nb,_,_,rfl,rfl,?_,q⟩⟩
  ·show (sN a).length + xO.length<=_
   rw [xj]; omega
  ·show (sN a++xO).length + _<=_
   rw [Str.length_append,xj]; omega
noncomputable abbrev vW:Stmt:=zp 40
theorem Xf:ze ["_law_found"] ["_law_found"] (zK vW):=.a
theorem Xg {k:Nat} {f:Addr} {fd:FuncData} (F:zg K "_law_plain" "_law_plain" vW f fd) (B:Bl mg):zG P w K mg base zW (k + 1) f fd ["_law_found"] wu:=by
 refine F.ok Xf (λvs H Q E h=>?_) (λcdv A outer s H vs Q E hr h=>?_)
 ·obtain ⟨_,_,_,rfl,_⟩:=h
  rfl
 obtain ⟨r,a,b,rfl,h,q⟩:=h
 refine ⟨_,(zL (zm (PW.pt (yR (yM (yH (zt y1 rfl B.isinstance_ y3 (zA (L2.pv 0) (zA (yt (v:=.ty "tuple") (u:=.type "tuple") rfl B.tuple_ wn rfl) zD))))) (yu (zn xL (zt wJ rfl B.len_ xX (zA (L2.pv 0) zD)) zH (zc _))))) (zN (zT yr)) zl)
  (zN (zT (we (uc (zt y1 rfl B.isinstance_ y3 (zA (zo yN (L2.pv 0) zH (λ_ _=>rfl)) (zA (yt (v:=.ty "bool") (u:=.type "bool") rfl B.bool_ uu rfl) zD)))) (wd (uc (zt y1 rfl B.isinstance_ y3 (zA (zo yN (L2.pv 0) zH (λ_ _=>rfl)) (zA (yt (v:=.ty "bool") (u:=.type "bool") rfl B.bool_ uu rfl) zD))))))))),?_⟩
 try dsimp only [zJ,Cx.nox,Cx.wish]
 refine ⟨_,rfl,_,_,_,_,rfl,.tup h,uw _,_,rfl,zU ?_⟩
 refine ⟨_,rfl,r,_,rfl,.inr (zV.of h),rfl,_,rfl,xp rfl ?_⟩
 refine ⟨_,rfl,r,_,0,_,rfl,rfl,zV.of h,wP,_,_,_,_,rfl,.int _,uv _,_,rfl,_,rfl,xU ?_⟩
 exact ⟨_,rfl,r,_,1,_,rfl,rfl,zV.of h,xb,_,_,_,_,rfl,.int _,uv _,_,rfl,q⟩
end
noncomputable def qi (K:PySem.W.Frag):Sp:=λvs H Q _=>∃ (a:Addr) (ns:List Int) (n:Nat) (c:Int),vs=[.ref a,.int (n:Int),.int c]/\zE K H a (ns.map V.int)/\n<=3/\∀ (l:Addr) (lv:List V) (room:List (List Int)) (H':Hp),zC H H'->H' l=some (.lst lv)->yA H' lv room->wy (n + 1) room->Q (.ref l) H'
noncomputable def qj:Sp:=λvs H Q _=>∃ (ra:Addr) (rv:List V) (room:List (List Int)) (n:Nat),vs=[.ref ra,.int (n:Int)]/\H ra=some (.lst rv)/\yA H rv room/\wy (n + 1) room/\∀ H',zC H H'->Q (.bl true) H'
theorem g4 (rs:List (List Int)):(!PyData.eqv (.list (rs.map za)) (.list []))=decide (rs≠[]):=by
 cases rs with
 | nil=>rfl
 | cons r rs=>rfl
noncomputable abbrev two (p:Int × Int):List Int:=[p.1,p.2]
theorem jU {K:PySem.W.Frag} {H:Hp}:∀ {pv:List V} {pts:List (Int × Int)},zx H pv pts->y2 K H pv ((pts.map two).map za)
 | _,_,.nil=>.nil
 | _,_,.cons ⟨a,e,h⟩ t=>by
  subst e
  exact .cons (.tup (zV.of h) (.cons (.int _) (.cons (.int _) .nil))) (jU t)
section
variable {P:Program} {w:World} {K:PySem.W.Frag} {mg:Str->Option Value} {base:Heap}
noncomputable abbrev wa:Stmt:=zp 41
theorem jV:ze ["_law_script","_law_many","_law_cell","_law_room_here","_law_k","_law_xs"] ["_law_script","_law_many","_law_cell"] (zK wa):=.a
theorem Xh {k:Nat} {f:Addr} {fd:FuncData} (F:zg K "_law_room" "_law_room" wa f fd) (B:Bl mg) (aa:Fn P w K mg base "_law_cell_at" ["_law_script","_law_k"] k (wq K)) (av:Fn P w K mg base "_law_draws" ["_law_cell","_law_k","_law_many"] k jR) (ad:Fn P w K mg base "_law_number" ["_law_number_here","_law_cell"] k uS):zG P w K mg base zW (k + 1) f fd ["_law_script","_law_many","_law_cell"] (qi K):=by
 refine F.ok jV (λvs H Q E h=>?_) (λcdv A outer s H vs Q E hr h=>?_)
 ·obtain ⟨_,_,_,_,rfl,_⟩:=h
  rfl
 obtain ⟨a,ns,n,c,rfl,hS,n3,q⟩:=h
 refine ⟨_,(zL (zb (i:=3) jV.nd rfl (Or.inl rfl) (y9 zD))
  (zL (xn PassesOwn.never rfl (wj rfl B.range_ (zA (zQ yc (zO aa hr rfl (zA (L2.pv 0) (zA zH zD))) zH) zD)) (zy (i:=4) jV.nd rfl (Or.inl rfl)) (zL (zb (i:=5) jV.nd rfl (Or.inl rfl) (zO av hr rfl (zA (zO aa hr rfl (zA (L2.pv 0) (zA zH zD))) (zA (L2.pv 4) (zA (zQ yg (L2.pv 1) zH) zD)))))
   (zN (x8 (yK PySem.F.plainAttrs_list PySem.F.slot_list_append PySem.F.type_list_append wK (L2.pv 3) (zA (yk gQ rfl B.tuple_ wn (zA (yn (own:=["_law_number_here"]) (caps:=[(2,"_law_cell")]) (v9 (S:=zK wa) (N:=["_law_script","_law_many","_law_cell","_law_room_here","_law_k","_law_xs"]) rfl (by decide +kernel) rfl ⟨_,rfl⟩ rfl (by decide +kernel) (by decide +kernel)) rfl (yS (L2.pv 5)) (λ_ _ _ _=>zy (i:=0) (show (["_law_number_here","_law_cell"]:List Str).Nodup by decide +kernel) rfl (Or.inl rfl)) (λ_ _ _ _=>(zO ad hr rfl (zA (L2.pv 0) (zA (L2.pv 1) zD))))) zD)) zD))))))
  (zN (zT (L2.pv 3))))),?_⟩
 try dsimp only [zJ,Cx.nox,Cx.wish]
 refine ⟨(by show 0<=sizeLine; decide),λl hl=>?_⟩
 have m0:=Int.fmod_nonneg_of_pos (yZ ns 2) (show (0:Int) < 7 by decide)
 have m1:=Int.fmod_lt_of_pos (yZ ns 2) (show (0:Int) < 7 by decide)
 refine ⟨_,rfl,a,ns,2,rfl,(zR hl _).seq hS,(by decide),_,_,rfl,rfl,(show (7:Int)≠0 by decide),(yZ ns 2).fmod 7,rfl,(by omega),(by omega),uf (lo:=0) (n:=((yZ ns 2).fmod 7).toNat)
  (λi σ H2=>∃ (lv:List V) (room:List (List Int)) (o4 o5:Option V),σ=[some (.ref a),some (.int (n:Int)),some (.int c),some (.ref l),o4,o5]/\zC H H2/\H2 l=some (.lst lv)/\yA H2 lv room/\room.length=i/\∀ r∈room,r.length=n + 1/\∀ x∈r,Nm x)
  ⟨[],[],none,none,rfl,zR hl _,zP,.nil,rfl,λr hr'=>by cases hr'⟩ ?_ ?_⟩
 ·rintro i σ H2 hi ⟨lv,room,o4,o5,rfl,sm,el,hv,len,ok⟩
  have llv:lv.length=room.length:=Paired.length hv
  refine ⟨_,rfl,a,ns,3,rfl,sm.seq hS,(by decide),_,rfl,_,rfl,_,_,rfl,rfl,yZ ns 3,i,n + 1,(by rw [Int.zero_add]; rfl),(by omega),(by omega),λr H3 xs s3 hr' lx bd=>?_⟩
  refine ⟨_,rfl,.inl ⟨rfl,_,zE.of (s3 _ _ el)⟩,_,rfl,r,rfl,⟨_,zE.of hr'⟩,yo (K:=K) (a:=r) (xs:=xs.map V.int) (λj ys σ H'=>(∃ zs:List Int,ys=zs.map V.int/\zs.length=j/\∀ z∈zs,Nm z)/\(∃ o,σ=[o,some (.int c)])/\zC H3 H')
   ⟨⟨[],rfl,rfl,λz hz=>by cases hz⟩,⟨none,rfl⟩,zC.refl _⟩ (λj ys σ H' _ ⟨⟨zs,e,lz,_⟩,_,s⟩=>⟨zE.of (s _ _ hr'),by rw [e,List.length_map]; omega⟩) (by rw [List.length_map]; exact Nat.le_of_lt (zz (by omega))) ?_ ?_⟩
  ·rintro j x ys σ H' hx ⟨⟨zs,rfl,lz,oz⟩,⟨o,rfl⟩,s⟩
   obtain ⟨z,hz,rfl⟩:=g3 hx
   refine ⟨_,rfl,_,rfl,z,c,rfl,bd z (List.mem_of_getElem? hz),λy H4 s4 ny=>⟨⟨zs++[y],by rw [List.map_append]; rfl,by rw [List.length_append,lz]; rfl,λw hw=>?_⟩,⟨_,rfl⟩,s.trans s4⟩⟩
   rcases List.mem_append.mp hw with e | e
   ·exact oz w e
   ·rw [List.mem_singleton.mp e]; exact ny
  rintro ys σ H' ⟨⟨zs,rfl,lz,oz⟩,⟨o,rfl⟩,s⟩ p hp
  rw [List.length_map] at lz
  refine ⟨p,_,rfl,.inl ⟨zE.of zP,λt ht=>?_⟩⟩
  have Z:=s3.trans (s.trans ((zR hp (HO.lst (zs.map V.int))).trans (zR ht (HO.tup (zs.map V.int)))))
  refine ⟨l,lv,_,rfl,rfl,Z _ _ el,zz (by omega),?_⟩
  refine ⟨lv++[.ref t],room++[zs],_,_,rfl,uB (sm.trans Z) hl,zP,yA.upd (Z _ _ el) (λ_ z=>nomatch z) (kT zP (yA.same Z hv)),(by rw [List.length_append,len]; rfl),λr2 h2=>?_⟩
  rcases List.mem_append.mp h2 with e | e
  ·exact ok r2 e
  ·rw [List.mem_singleton.mp e]
   exact ⟨by omega,oz⟩
 rintro σ H2 ⟨lv,room,o4,o5,rfl,sm,el,hv,len,ok⟩
 exact ⟨_,rfl,q l lv room _ sm el hv ⟨by omega,by omega,ok⟩⟩
noncomputable abbrev xl:Stmt:=zp 42
theorem uU:ze ["_law_room_here","_law_many","_law_text_here","_law_handed","_law_found"] ["_law_room_here","_law_many"] (zK xl):=.a
theorem Xi {k:Nat} {f:Addr} {fd:FuncData} (F:zg K "_law_rooms_right" "_law_rooms_right" xl f fd) (B:Bl mg) (aH:Fn P w K mg base "show_room" ["room"] k (qV K)) (ax:Fn P w K mg base "read_room" ["text","many"] k qc):zG P w K mg base zW (k + 1) f fd ["_law_room_here","_law_many"] qj:=by
 refine F.ok uU (λvs H Q E h=>?_) (λcdv A outer s H vs Q E hr h=>?_)
 ·obtain ⟨_,_,_,_,rfl,_⟩:=h
  rfl
 obtain ⟨ra,rv,room,n,rfl,hra,hrv,RT,q⟩:=h
 obtain ⟨t2,T2,R2⟩:∃ t2,yU (zJ zW P w K mg base ["_law_room_here","_law_many","_law_text_here","_law_handed","_law_found"] "_law_rooms_right" (zK xl) f cdv A outer s H E).nox ((zX xl).drop 2) t2/\∀ (H1:Hp),zC H H1->t2 { nx:=λ_ H'=>Q .non H',rt:=Q } [some (.ref ra),some (.int (n:Int)),some (.str (if room=[] then Str.ofString "all" else sR room)),none,none] H1:=by
  refine ⟨_,(zL (zb (i:=3) uU.nd rfl (Or.inl rfl) (yk j1 rfl B.list_ wN (zA (L2.pv 0) zD)))
  (zL (zm (PW.pt (yR (zn xL (zO aH hr rfl (zA (L2.pv 3) zD)) (L2.pv 2) (zc _)) (yu (zn (v7 hr.units) (L2.pv 3) (L2.pv 0) (zc _))))) (zN (zT yr)) zl)
  (zL (zb (i:=4) uU.nd rfl (Or.inl rfl) (zO ax hr rfl (zA (L2.pv 2) (zA (L2.pv 1) zD))))
  (zL (zm (PW.pt (yR (yM (yH (zt y1 rfl B.isinstance_ y3 (zA (L2.pv 4) (zA (yt (v:=.ty "list") (u:=.type "list") rfl B.list_ wN rfl) zD))))) (yR (zn (v7 hr.units) (L2.pv 4) (L2.pv 0) (zc _)) (yu (yM (yH (zt (up rfl) rfl B.all_ ut (zA (yn (own:=["_law_row"]) (caps:=[]) (xF rfl) rfl (yS (L2.pv 4)) (λ_ _ _ _=>zy (i:=0) (show (["_law_row"]:List Str).Nodup by decide +kernel) rfl (Or.inl rfl)) (λ_ _ _ _=>(zt (show yw _ _ (gc K) from y1) rfl B.isinstance_ y3 (zA (L2.pv 0) (zA (yt (v:=.ty "tuple") (u:=.type "tuple") rfl B.tuple_ wn rfl) zD))))) zD)))))))) (zN (zT yr)) zl)
  (zL (x8 (yK PySem.F.plainAttrs_list PySem.F.slot_list_append PySem.F.type_list_append wK (L2.pv 4) (zA (wH zD) zD)))
  (zN (zT (xo (j6 hr.units) (zO ax hr rfl (zA (L2.pv 2) (zA (L2.pv 1) zD))) (L2.pv 0) (zc _))))))))),?_⟩
  try dsimp only [zJ,Cx.nox,Cx.wish]
  intro H1 s1
  have lr:rv.length=room.length:=Paired.length hrv
  have r6:=RT.1
  have hra1:=s1 _ _ hra
  have hrv1:=yA.same s1 hrv
  refine ⟨_,rfl,ra,_,rfl,.inl (zE.of hra1),λhd hhd=>?_⟩
  have z2:=zR hhd (HO.lst rv)
  have ehd:=zP (H:=H1) (a:=hd) (o:=HO.lst rv)
  generalize upd H1 hd (HO.lst rv)=H2 at z2 ehd |-
  refine ⟨_,rfl,hd,rv,room,n + 1,rfl,zE.of ehd,yA.same z2 hrv1,RT,λH3 s3=>?_⟩
  refine ⟨_,rfl,rfl,_,rfl,xp rfl ?_⟩
  have z3:=z2.trans s3
  have hrv3:=yA.same z3 hrv1
  refine ⟨_,rfl,_,rfl,.list (room.map za),.lst (zE.of (s3 _ _ ehd)) (xv hrv3),.lst (zE.of (z3 _ _ hra1)) (xv hrv3),uE room,uD room,_,rfl,zU ?_⟩
  refine ⟨_,rfl,_,rfl,room,n,rfl,RT,λl lv H4 s4 l0 el hv=>?_⟩
  have llv:lv.length=room.length:=Paired.length hv
  have z4:=z3.trans s4
  have hrv4:=yA.same z4 hrv1
  refine ⟨_,rfl,_,_,_,_,rfl,.lst el,uz _,_,rfl,zU ?_⟩
  refine ⟨_,rfl,_,rfl,.list (room.map za),.lst (zE.of el) (xv hv),.lst (zE.of (z4 _ _ hra1)) (xv hrv4),uE room,uD room,_,rfl,zU ?_⟩
  refine ⟨_,rfl,l,rfl,⟨_,zE.of el⟩,yo (K:=K) (a:=l) (xs:=lv) (λi ys σ H'=>ys=(List.replicate i true).map V.bl/\(∃ o,σ=[o])/\H'=H4)
   ⟨rfl,⟨none,rfl⟩,rfl⟩ (λi ys σ H' _ ⟨e,_,e2⟩=>⟨by rw [e2]; exact zE.of el,by rw [e,List.length_map,List.length_replicate]; exact Nat.le_refl _⟩) (Nat.le_of_lt (zz (by omega))) ?_ ?_⟩
  ·rintro i x ys σ H' hx ⟨rfl,⟨o,rfl⟩,rfl⟩
   obtain ⟨r,hr',t,rfl,ht⟩:=xC hv hx
   refine ⟨_,rfl,_,_,_,_,rfl,.tup ht,uw _,?_,⟨_,rfl⟩,rfl⟩
   rw [List.replicate_succ',List.map_append]
   rfl
  rintro ys σ H' ⟨rfl,⟨o,rfl⟩,rfl⟩ p hp
  refine ⟨p,List.replicate lv.length true,rfl,zE.of zP,?_⟩
  rw [jP]
  refine ⟨_,rfl,zU ?_⟩
  have z5:=zR hp (HO.lst ((List.replicate lv.length true).map V.bl))
  have el5:=z5 _ _ el
  generalize upd H' p (HO.lst ((List.replicate lv.length true).map V.bl))=H5 at z5 el5 |-
  refine ⟨_,rfl,.inl ⟨rfl,_,zE.of el5⟩,(by show 0<=sizeLine; decide),λt ht=>?_⟩
  have z6:=zR ht (HO.tup [])
  refine ⟨l,lv,_,rfl,rfl,z6 _ _ el5,zz (by omega),?_⟩
  have f1:H1 l=none:=z3.free l0
  have z7:zC H1 (upd (upd H5 t (HO.tup [])) l (.lst (lv++[.ref t]))):=uB (z4.trans (z5.trans z6)) f1
  refine ⟨_,rfl,_,rfl,room,n,rfl,RT,λl2 lv2 H8 s8 l20 el2 hv2=>?_⟩
  have z8:=z7.trans s8
  exact ⟨_,rfl,.list (room.map za),.lst (zE.of el2) (xv hv2),.lst (zE.of (z8 _ _ hra1)) (xv (yA.same z8 hrv1)),uE room,uD room,q _ (s1.trans z8)⟩
 refine ⟨_,(zL (zb (i:=2) uU.nd rfl (Or.inl rfl) yJ)
  (zL (zm (zn (Zv hr.units) (L2.pv 0) (y9 zD) (zc _)) (zN (zb (i:=2) uU.nd rfl (Or.inl rfl) (yK PySem.F.plainAttrs_str PySem.F.slot_str_join PySem.F.type_str_join xh yJ (zA (gw (own:=["_law_row"]) (caps:=[]) (Z1 (S:=zK xl) (N:=["_law_room_here","_law_many","_law_text_here","_law_handed","_law_found"]) rfl (by decide +kernel) rfl ⟨0,rfl⟩ rfl (by decide +kernel) (by decide +kernel)) rfl (yS (L2.pv 0)) (λ_ _ _ _=>zy (i:=0) (show (["_law_row"]:List Str).Nodup by decide +kernel) rfl (Or.inl rfl)) (λ_ _ _ _=>(show PE _ _ (uo K _ _ _ _) from yK PySem.F.plainAttrs_str PySem.F.slot_str_join PySem.F.type_str_join (show v3 _ "str.join" (kN K) from xh) yJ (zA (gw (own:=["_law_number_here"]) (caps:=[]) (Z2 rfl (by decide +kernel) (by decide +kernel) (by decide +kernel) (by decide +kernel)) rfl (show PI _ _ _ (vj K _) from jk (L2.pv 0)) (λ_ _ _ _=>zy (i:=0) (show (["_law_number_here"]:List Str).Nodup by decide +kernel) rfl (Or.inl rfl)) (λ_ _ _ _=>(yk xi rfl B.str_ xM (zA (L2.pv 0) zD)))) zD)))) zD)))) zl)
  T2)),?_⟩
 try dsimp only [zJ,Cx.nox,Cx.wish]
 have lr:rv.length=room.length:=Paired.length hrv
 obtain ⟨r6,n4,rok⟩:=id RT
 refine ⟨_,rfl,(by show 0<=sizeLine; decide),λe0 he0=>?_⟩
 have y0:=zR he0 (HO.lst [])
 have hra1:=y0 _ _ hra
 have hrv1:=yA.same y0 hrv
 refine ⟨.list (room.map za),.list [],.lst (zE.of hra1) (xv hrv1),.lst (zE.of zP) .nil,uE room,rfl,uD room,(by decide),_,rfl,?_⟩
 rw [g4]
 generalize upd H e0 (HO.lst [])=H1 at y0 hra1 hrv1 |-
 by_cases ne:room=[]
 ·refine yY (decide_eq_false (λz=>z ne)) ?_
  have z:=R2 H1 y0
  rw [if_pos ne] at z
  exact z
 ·refine xB (decide_eq_true ne) ?_
  refine ⟨rfl,_,rfl,ra,rfl,⟨_,zE.of hra1⟩,yo (K:=K) (a:=ra) (xs:=rv) (λi ys σ H'=>ys=((room.take i).map sW).map V.str/\(∃ o,σ=[o])/\zC H1 H')
   ⟨rfl,⟨none,rfl⟩,zC.refl _⟩ (λi ys σ H' _ ⟨e,_,sm⟩=>⟨zE.of (sm _ _ hra1),by rw [e,List.length_map,List.length_map,List.length_take]; omega⟩) (Nat.le_of_lt (zz (by omega))) ?_ ?_⟩
  ·rintro i x ys σ H' hx ⟨rfl,⟨o,rfl⟩,sm⟩
   obtain ⟨r,hr',t,rfl,ht⟩:=xC hrv1 hx
   obtain ⟨rl,rb⟩:=rok r (List.mem_of_getElem? hr')
   have ht':=sm _ _ ht
   refine ⟨rfl,_,rfl,t,rfl,⟨_,zV.of ht'⟩,gu (K:=K) (a:=t) (xs:=r.map V.int) (λj zs σ H3=>zs=((r.take j).map sN).map V.str/\(∃ o,σ=[o])/\H3=H')
    ⟨rfl,⟨none,rfl⟩,rfl⟩ (λj zs σ H3 _ ⟨e,_,e3⟩=>⟨by rw [e3]; exact zV.of ht',by rw [e,List.length_map,List.length_map,List.length_take]; omega⟩) (by rw [List.length_map]; exact Nat.le_of_lt (zz (by omega))) ?_ ?_⟩
   ·rintro j y zs σ H3 hy ⟨rfl,⟨o2,rfl⟩,rfl⟩
    obtain ⟨z,hz,rfl⟩:=g3 hy
    refine ⟨_,rfl,.inl ⟨z,rfl,rb z (List.mem_of_getElem? hz),?_,⟨_,rfl⟩,rfl⟩⟩
    rw [y4 hz,List.map_append,List.map_append]
    rfl
   rintro zs σ H3 ⟨rfl,⟨o2,rfl⟩,rfl⟩ p hp
   rw [List.length_map,List.take_length]
   refine ⟨_,p,r.map sN,rfl,rfl,zE.of zP,xf (B:=61) (λq hq=>?_) ?_,?_,⟨_,rfl⟩,sm.trans (zR hp _)⟩
   ·obtain ⟨i,hi,rfl⟩:=List.mem_map.mp hq
    exact (xD (rb i hi)).2
   ·show (r.map sN).length * (61 + yC.length)<=_
    rw [List.length_map,yb]
    have:=Nat.mul_le_mul (show r.length<=4 by omega) (Nat.le_refl (61 + 1))
    omega
   ·rw [y4 hr',List.map_append,List.map_append]
    rfl
  rintro ys σ H' ⟨rfl,⟨o,rfl⟩,sm⟩ l hl
  rw [lr,List.take_length]
  have z:=R2 _ (y0.trans (sm.trans (zR hl (HO.lst ((room.map sW).map V.str)))))
  rw [if_neg ne] at z
  refine ⟨_,l,room.map sW,rfl,rfl,zE.of zP,xf (B:=248) (λy hy=>?_) ?_,z⟩
  ·obtain ⟨x,hx,rfl⟩:=List.mem_map.mp hy
   exact jK (rok x hx).1 n4 (rok x hx).2
  ·show (room.map sW).length * (248 + xx.length)<=_
   rw [List.length_map,wU]
   have:=Nat.mul_le_mul r6 (Nat.le_refl (248 + 2))
   omega
end
noncomputable def qk (K:PySem.W.Frag):Sp:=λvs H Q _=>∃ (a:Addr) (ns:List Int) (c:Int) (w:Nat),vs=[.ref a,.int c,.int (w:Int)]/\zE K H a (ns.map V.int)/\w<=6/\∀ (l:Addr) (lv:List V) (run:List zw) (H':Hp),zC H H'->H' l=some (.lst lv)->zd H' lv run->run.length<=6->(∀ s∈run,xk w s)->Q (.ref l) H'
noncomputable def ql:Sp:=λvs H Q _=>∃ (ra:Addr) (rv:List V) (run:List zw) (w:Nat),vs=[.ref ra,.int (w:Int)]/\H ra=some (.lst rv)/\zd H rv run/\run.length<=6/\(∀ s∈run,xk w s)/\∀ H',zC H H'->Q (.bl true) H'
noncomputable def y6 (s:zw):PyData:=.tuple [.int s.1,za (two (s.2.headD (0,1))),.list (((s.2.drop 1).map two).map za)]
theorem uV {K:PySem.W.Frag} {H:Hp}:∀ {rv:List V} {run:List zw},zd H rv run->y2 K H rv (run.map y6)
 | _,_,.nil=>.nil
 | _,_,.cons ⟨t,f,l,p,pv,ps,e,a,b,c,d,g⟩ r=>by
  subst e
  refine .cons ?_ (uV r)
  unfold y6
  rw [g]
  exact .tup (zV.of a) (.cons (.int _) (.cons (.tup (zV.of b) (.cons (.int _) (.cons (.int _) .nil))) (.cons (.lst (zE.of c) (jU d)) .nil)))
theorem Xj (s:zw):(y6 s).canLay0=true:=by
 show (true && ((true && (true && true)) && (PyData.canLayAll0 (((s.2.drop 1).map two).map za) && true)))=true
 rw [qD]
 rfl
theorem qm:∀ run:List zw,(PyData.list (run.map y6)).canLay0=true
 | []=>rfl
 | s :: r=>by
  show ((y6 s).canLay0 && (PyData.list (r.map y6)).canLay0)=true
  rw [Xj,qm r]
  rfl
theorem Xk (s:zw):(y6 s).depth<=4:=by
 show max 0 (max (max 0 (max 0 0) + 1) (max (PyData.depthAll (((s.2.drop 1).map two).map za) + 1) 0)) + 1<=4
 have:=qE ((s.2.drop 1).map two)
 omega
theorem ka:∀ run:List zw,PyData.depthAll (run.map y6)<=4
 | []=>by show 0<=4; omega
 | s :: r=>by
  show max (y6 s).depth (PyData.depthAll (r.map y6))<=4
  have:=Xk s
  have:=ka r
  omega
theorem kb (run:List zw):(PyData.list (run.map y6)).depth<=60:=by
 show PyData.depthAll (run.map y6) + 1<=60
 have:=ka run
 omega
theorem kc:yE []=Str.ofString "":=by decide +kernel
theorem Xl {l:Addr} {H:Hp} {o:HO}:zi [l] (upd H l o)=zi [l] H:=by
 funext b
 unfold zi
 by_cases e:b∈[l]
 ·rw [if_pos e,if_pos e]
 ·rw [if_neg e,if_neg e,zk (λz=>e (by rw [z]; exact List.mem_singleton_self l))]
theorem wb {xs:List Int} {i:Int} {j:Nat} (e:i=(j:Int)) (h:j < xs.length):yy (xs.map V.int) i=some (.int (xs[j]'h)):=by rw [e]; exact Z3 h
section
variable {P:Program} {w:World} {K:PySem.W.Frag} {mg:Str->Option Value} {base:Heap}
noncomputable abbrev wc:Stmt:=zp 43
theorem uW:ze ["_law_script","_law_cell","_law_wide","_law_run_here","_law_k","_law_xs","_law_pushes"] ["_law_script","_law_cell","_law_wide"] (zK wc):=.a
theorem Xm {k:Nat} {f:Addr} {fd:FuncData} (F:zg K "_law_run" "_law_run" wc f fd) (B:Bl mg) (aa:Fn P w K mg base "_law_cell_at" ["_law_script","_law_k"] k (wq K)) (av:Fn P w K mg base "_law_draws" ["_law_cell","_law_k","_law_many"] k jR) (ak:Fn P w K mg base "_law_value" ["_law_number_here","_law_other","_law_cell"] k jS) (ad:Fn P w K mg base "_law_number" ["_law_number_here","_law_cell"] k uS):zG P w K mg base zW (k + 1) f fd ["_law_script","_law_cell","_law_wide"] (qk K):=by
 refine F.ok uW (λvs H Q E h=>?_) (λcdv A outer s H vs Q E hr h=>?_)
 ·obtain ⟨_,_,_,_,rfl,_⟩:=h
  rfl
 obtain ⟨a,ns,c,w,rfl,hS,w6,q⟩:=h
 refine ⟨_,(zL (zb (i:=3) uW.nd rfl (Or.inl rfl) (y9 zD))
  (zL (xn PassesOwn.never rfl (wj rfl B.range_ (zA (zQ yc (zO aa hr rfl (zA (L2.pv 0) (zA zH zD))) zH) zD)) (zy (i:=4) uW.nd rfl (Or.inl rfl)) (zL (zb (i:=5) uW.nd rfl (Or.inr rfl) (zO av hr rfl (zA (zO aa hr rfl (zA (L2.pv 0) (zA zH zD))) (zA (L2.pv 4) (zA zH zD)))))
   (zL (gj (i:=6) uW.nd rfl rfl (own:=["_law_j"]) (caps:=[(1,"_law_cell"),(5,"_law_xs")]) (v9 (S:=zK wc) (N:=["_law_script","_law_cell","_law_wide","_law_run_here","_law_k","_law_xs","_law_pushes"]) rfl (by decide +kernel) rfl ⟨_,rfl⟩ rfl (by decide +kernel) (by decide +kernel)) rfl (wj rfl B.range_ (zA (L2.pv 2) zD)) (λ_ _ _ _=>zy (i:=0) (show (["_law_j","_law_cell","_law_xs"]:List Str).Nodup by decide +kernel) rfl (Or.inl rfl)) (λ_ _ _ _=>(zO ak hr rfl (zA (zo (show wI _ (xI K) from yz) (L2.pv 2) (zQ xA zH (L2.pv 0)) (λ_ _=>rfl)) (zA (zo (show wI _ (xI K) from yz) (L2.pv 2) (zQ yg (zQ xA zH (L2.pv 0)) zH) (λ_ _=>rfl)) (zA (L2.pv 1) zD))))) rfl)
   (zN (x8 (yK PySem.F.plainAttrs_list PySem.F.slot_list_append PySem.F.type_list_append wK (L2.pv 3) (zA (wH (zA (zt uj rfl B.abs_ ur (zA (zO ad hr rfl (zA (zo yz (L2.pv 5) zH (λ_ _=>rfl)) (zA (L2.pv 1) zD))) zD)) (zA (zO ak hr rfl (zA (zo yz (L2.pv 5) zH (λ_ _=>rfl)) (zA (zo yz (L2.pv 5) zH (λ_ _=>rfl)) (zA (L2.pv 1) zD)))) (zA (L2.pv 6) zD)))) zD)))))))
  (zN (zT (L2.pv 3))))),?_⟩
 try dsimp only [zJ,Cx.nox,Cx.wish]
 refine ⟨(by show 0<=sizeLine; decide),λl hl=>?_⟩
 have m0:=Int.fmod_nonneg_of_pos (yZ ns 4) (show (0:Int) < 7 by decide)
 have m1:=Int.fmod_lt_of_pos (yZ ns 4) (show (0:Int) < 7 by decide)
 have b2:Bd 3 (2:Int):=Bd.lit
 refine ⟨_,rfl,a,ns,4,rfl,(zR hl _).seq hS,(by decide),_,_,rfl,rfl,(show (7:Int)≠0 by decide),(yZ ns 4).fmod 7,rfl,(by omega),(by omega),uf (lo:=0) (n:=((yZ ns 4).fmod 7).toNat)
  (λi σ H2=>∃ (lv:List V) (run:List zw) (o4 o5 o6:Option V),σ=[some (.ref a),some (.int c),some (.int (w:Int)),some (.ref l),o4,o5,o6]/\zC H H2/\H2 l=some (.lst lv)/\zd (zi [l] H2) lv run/\run.length=i/\∀ s∈run,xk w s)
  ⟨[],[],none,none,none,rfl,zR hl _,zP,.nil,rfl,λr hr'=>by cases hr'⟩ ?_ ?_⟩
 ·rintro i σ H2 hi ⟨lv,run,o4,o5,o6,rfl,sm,el,hv,len,ok⟩
  have llv:lv.length=run.length:=Paired.length hv
  refine ⟨_,rfl,a,ns,5,rfl,sm.seq hS,(by decide),_,rfl,yZ ns 5,i,16,(by rw [Int.zero_add]; rfl),(by omega),(by omega),λr H3 xs s3 hr' lx bd=>?_⟩
  have sx:∀ (j:Nat) (h:j < xs.length),Sm (xs[j]'h):=λj h=>bd _ (List.getElem_mem h)
  refine ⟨_,rfl,(w:Int),rfl,(by omega),(by omega),gk (lo:=0) (n:=(w:Int).toNat) (λj zs σ H'=>(∃ ps:List (Int × Int),zx (zi [l] H') zs ps/\ps.length=j/\∀ p∈ps,xP p)/\(∃ o,σ=[o,some (.int c),some (.ref r)])/\zC H3 H')
   ⟨⟨[],.nil,rfl,λp hp=>by cases hp⟩,⟨none,rfl⟩,zC.refl _⟩ (λj zs σ H' ⟨⟨ps,e,lz,_⟩,_⟩=>by have:=Paired.length e; omega) (Nat.le_of_lt (zz (by omega))) ?_ ?_⟩
  ·rintro j zs σ H' hj ⟨⟨ps,hz,lz,oz⟩,⟨o,rfl⟩,s⟩
   have bj:Bd 10 (0 + (j:Int)):=by show (0 + (j:Int)).natAbs < 2 ^ 10; omega
   have h1:2 * j < xs.length:=by omega
   have h2:2 * j + 1 < xs.length:=by omega
   refine ⟨_,rfl,_,rfl,_,_,rfl,rfl,⟨b2.mono,bj.mono⟩,r,_,_,_,rfl,rfl,zE.of (s _ _ hr'),wb (by omega) h1,_,rfl,_,rfl,_,_,rfl,rfl,⟨b2.mono,bj.mono⟩,_,_,rfl,rfl,r,_,_,_,rfl,rfl,zE.of (s _ _ hr'),wb (by omega) h2,_,rfl,_,_,c,rfl,sx _ h1,sx _ h2,λt p H4 s4 e4 ok4=>⟨⟨ps++[p],?_,by rw [List.length_append,lz]; rfl,λp' hp'=>?_⟩,⟨_,rfl⟩,s.trans s4⟩⟩
   ·have nt:t∉[l]:=λz=>by
     have el4:=(s3.trans (s.trans s4)) _ _ el
     rw [<- List.mem_singleton.mp z,e4] at el4
     cases el4
    exact qg ((jA nt).trans e4) (zx.same (jB s4) hz)
   ·rcases List.mem_append.mp hp' with e | e
    ·exact oz p' e
    ·rw [List.mem_singleton.mp e]; exact ok4
  rintro zs σ H' ⟨⟨ps,hz,lz,oz⟩,⟨o,rfl⟩,s⟩ pl hpl
  have lps:ps.length=w:=by omega
  have S5:=s3.trans (s.trans (zR hpl (HO.lst zs)))
  have hr5:=(s.trans (zR hpl (HO.lst zs))) _ _ hr'
  have el5:=S5 _ _ el
  have epl:=zP (H:=H') (a:=pl) (o:=HO.lst zs)
  have hz5:zx (zi [l] (upd H' pl (HO.lst zs))) zs ps:=zx.same (jB (zR hpl _)) hz
  have npl:pl∉[l]:=λz=>by
   rw [List.mem_singleton.mp z,(s3.trans s) _ _ el] at hpl
   cases hpl
  generalize upd H' pl (HO.lst zs)=H5 at S5 hr5 el5 epl hz5 |-
  refine ⟨_,rfl,.inl ⟨rfl,_,zE.of el5⟩,?_⟩
  refine ⟨_,rfl,r,_,_,_,rfl,rfl,zE.of hr5,wb (j:=14) rfl (by omega),_,rfl,_,c,rfl,sx 14 (by omega),λy H6 s6 ny=>?_⟩
  have ny':y.natAbs < 10 ^ 60:=ny
  refine ⟨y,rfl,?_⟩
  refine ⟨_,rfl,r,_,_,_,rfl,rfl,zE.of (s6 _ _ hr5),wb (j:=12) rfl (by omega),_,rfl,r,_,_,_,rfl,rfl,zE.of (s6 _ _ hr5),wb (j:=13) rfl (by omega),_,rfl,_,_,c,rfl,sx 12 (by omega),sx 13 (by omega),λf p H7 s7 e7 ok7=>?_⟩
  have S7:=s6.trans s7
  refine ⟨_,rfl,(by show 3<=sizeLine; decide),λt ht=>?_⟩
  have z8:=zR ht (HO.tup [V.int (if y < 0 then -y else y),V.ref f,V.ref pl])
  have S8:=S7.trans z8
  refine ⟨l,lv,_,rfl,rfl,S8 _ _ el5,zz (by omega),?_⟩
  have ah:∀ {b:Addr} {o:HO},(∀ ys,o≠.lst ys)->upd H7 t (HO.tup [V.int (if y < 0 then -y else y),V.ref f,V.ref pl]) b=some o->zi [l] (upd H7 t (HO.tup [V.int (if y < 0 then -y else y),V.ref f,V.ref pl])) b=some o:=λ{b o} no e=>(jA λz=>by
   rw [List.mem_singleton.mp z,S8 _ _ el5] at e
   exact no _ (Option.some.inj e).symm).trans e
  refine ⟨lv++[.ref t],run++[(if y < 0 then -y else y,p :: ps)],_,_,_,rfl,uB (sm.trans (S5.trans S8)) hl,zP,?_,(by rw [List.length_append,len]; rfl),λs2 h2=>?_⟩
  ·rw [Xl]
   exact kU ⟨t,f,pl,p,zs,ps,rfl,ah (λ_ z=>nomatch z) zP,ah (λ_ z=>nomatch z) (z8 _ _ e7),(jA npl).trans (S8 _ _ epl),zx.same (jB S8) hz5,rfl⟩ (zd.same (jB (S5.trans S8)) hv)
  ·rcases List.mem_append.mp h2 with e | e
   ·exact ok s2 e
   ·rw [List.mem_singleton.mp e]
    refine ⟨?_,by show (p :: ps).length=_; rw [List.length_cons,lps],w6,λp' hp'=>?_⟩
    ·show (if y < 0 then -y else y).natAbs < 10 ^ 60
     split <;> omega
    ·rcases List.mem_cons.mp hp' with e | e
     ·rw [e]; exact ok7
     ·exact oz p' e
 rintro σ H2 ⟨lv,run,o4,o5,o6,rfl,sm,el,hv,len,ok⟩
 exact ⟨_,rfl,q l lv run _ sm el (zd.same Z7 hv) (by omega) ok⟩
end
noncomputable def wr (K:PySem.W.Frag):Sp:=λvs H Q _=>∃ (a:Addr) (ns:List Int),vs=[.ref a]/\zE K H a (ns.map V.int)/\ns.length<=63/\∀ H',Q (.bl true) H'
section
variable {P:Program} {w:World} {K:PySem.W.Frag} {mg:Str->Option Value} {base:Heap}
noncomputable abbrev vX:Stmt:=zp 44
theorem x5:ze ["_law_run_here","_law_wide","_law_parts","_law_mode","_law_steering","_law_pushes","_law_text_here","_law_found","_law_step"] ["_law_run_here","_law_wide"] (zK vX):=.a
theorem Xn {k:Nat} {f:Addr} {fd:FuncData} (F:zg K "_law_runs_right" "_law_runs_right" vX f fd) (B:Bl mg) (ac:Fn P w K mg base "_law_text" ["_law_value_here"] k xy) (ay:Fn P w K mg base "show_run" ["run"] k (qX K)) (aw:Fn P w K mg base "read_run" ["text","wide"] k qf) (ag:Fn P w K mg base "_law_plain" ["_law_found"] k wu):zG P w K mg base zW (k + 1) f fd ["_law_run_here","_law_wide"] ql:=by
 refine F.ok x5 (λvs H Q E h=>?_) (λcdv A outer s H vs Q E hr h=>?_)
 ·obtain ⟨_,_,_,_,rfl,_⟩:=h
  rfl
 obtain ⟨ra,rv,run,w,rfl,hra,hrv,r6,ok,q⟩:=h
 refine ⟨_,(zL (zb (i:=2) x5.nd rfl (Or.inl rfl) (y9 zD))
  (zL (xn PassesOwn.never rfl (yS (L2.pv 0)) (ZA rfl (jh (zy (i:=3) x5.nd rfl (Or.inl rfl)) (jh (zy (i:=4) x5.nd rfl (Or.inl rfl)) (jh (zy (i:=5) x5.nd rfl (Or.inl rfl)) kz)))) (zN (x8 (yK PySem.F.plainAttrs_list PySem.F.slot_list_append PySem.F.type_list_append wK (L2.pv 2) (zA (yK PySem.F.plainAttrs_str PySem.F.slot_str_join PySem.F.type_str_join xh yJ (zA (zQ gS (y9 (zA (yk xi rfl B.str_ xM (zA (L2.pv 3) zD)) (zA (zO ac hr rfl (zA (L2.pv 4) zD)) zD))) (yn (own:=["_law_value_here"]) (caps:=[]) (xF rfl) rfl (yS (L2.pv 5)) (λ_ _ _ _=>zy (i:=0) (show (["_law_value_here"]:List Str).Nodup by decide +kernel) rfl (Or.inl rfl)) (λ_ _ _ _=>(zO ac hr rfl (zA (L2.pv 0) zD))))) zD)) zD)))))
  (zL (zb (i:=6) x5.nd rfl (Or.inl rfl) (yK PySem.F.plainAttrs_str PySem.F.slot_str_join PySem.F.type_str_join xh yJ (zA (L2.pv 2) zD)))
  (zL (zm (zn xL (zO ay hr rfl (zA (yk j1 rfl B.list_ wN (zA (L2.pv 0) zD)) zD)) (L2.pv 6) (zc _)) (zN (zT yr)) zl)
  (zL (zb (i:=7) x5.nd rfl (Or.inl rfl) (zO aw hr rfl (zA (L2.pv 6) (zA (L2.pv 1) zD))))
  (zL (zm (PW.pt (yR (yM (yH (zt y1 rfl B.isinstance_ y3 (zA (L2.pv 7) (zA (yt (v:=.ty "list") (u:=.type "list") rfl B.list_ wN rfl) zD))))) (yu (zn (v7 hr.units) (L2.pv 7) (L2.pv 0) (zc _))))) (zN (zT yr)) zl)
  (zL (xn PassesOwn.never rfl (yS (L2.pv 7)) (zy (i:=8) x5.nd rfl (Or.inl rfl)) (zL (zm (PW.pt (yR (yM (yH (zt y1 rfl B.isinstance_ y3 (zA (L2.pv 8) (zA (yt (v:=.ty "tuple") (u:=.type "tuple") rfl B.tuple_ wn rfl) zD))))) (yR (yH (zt y1 rfl B.isinstance_ y3 (zA (zo yN (L2.pv 8) zH (λ_ _=>rfl)) (zA (yt (v:=.ty "bool") (u:=.type "bool") rfl B.bool_ uu rfl) zD)))) (yu (yM (yH (zt y1 rfl B.isinstance_ y3 (zA (zo yN (L2.pv 8) zH (λ_ _=>rfl)) (zA (yt (v:=.ty "list") (u:=.type "list") rfl B.list_ wN rfl) zD))))))))) (zN (zT yr)) zl)
   (zN (zm (PW.pt (yR (yM (yH (zO ag hr rfl (zA (zo yN (L2.pv 8) zH (λ_ _=>rfl)) zD)))) (yu (yM (yH (zt (up rfl) rfl B.all_ ut (zA (yn (own:=["_law_value_here"]) (caps:=[]) (xF rfl) rfl (yS (zo yN (L2.pv 8) zH (λ_ _=>rfl))) (λ_ _ _ _=>zy (i:=0) (show (["_law_value_here"]:List Str).Nodup by decide +kernel) rfl (Or.inl rfl)) (λ_ _ _ _=>(zO ag hr rfl (zA (L2.pv 0) zD)))) zD))))))) (zN (zT yr)) zl))))
  (zL (x8 (yK PySem.F.plainAttrs_list PySem.F.slot_list_append PySem.F.type_list_append wK (L2.pv 7) (zA kr zD)))
  (zN (zT (we (xo (j6 hr.units) (zO aw hr rfl (zA (L2.pv 6) (zA (L2.pv 1) zD))) (L2.pv 0) (zc _)) (we (xo yh (zO ay hr rfl (zA (y9 zD) zD)) yJ (zc _)) (wd (xo (j6 hr.units) (zO aw hr rfl (zA yJ (zA (L2.pv 1) zD))) (y9 zD) (zc _))))))))))))))),?_⟩
 try dsimp only [zJ,Cx.nox,Cx.wish]
 have lr:rv.length=run.length:=Paired.length hrv
 refine ⟨(by show 0<=sizeLine; decide),λpa hpa=>?_⟩
 refine ⟨_,rfl,ra,rfl,⟨_,zE.of (zR hpa _ _ _ hra)⟩,jm (K:=K) (a:=ra) (xs:=rv) (λi σ H2=>(∃ o3 o4 o5:Option V,σ=[some (.ref ra),some (.int (w:Int)),some (.ref pa),o3,o4,o5,none,none,none])/\zC H H2/\H2 pa=some (.lst (((run.take i).map sS).map V.str)))
  ⟨⟨none,none,none,rfl⟩,zR hpa _,zP⟩ (λi σ H2 _ ⟨_,sm,_⟩=>zE.of (sm _ _ hra)) ?_ ?_⟩
 ·rintro i x σ H2 hx ⟨⟨o3,o4,o5,rfl⟩,sm,epa⟩
  obtain ⟨st,hst,hsv⟩:=xC hrv hx
  obtain ⟨t,f,l,p,pv,ps,rfl,ht,hf,hl,hpv,e⟩:=hsv.same sm
  obtain ⟨nm,le,w6,okp⟩:=ok st (List.mem_of_getElem? hst)
  obtain ⟨mo,fs⟩:=st
  cases (show fs=p :: ps from e)
  have lps:ps.length=w:=Nat.succ.inj le
  have lpv:pv.length=ps.length:=Paired.length hpv
  have hi:=(List.getElem?_eq_some_iff.mp hst).1
  have okp1:=okp p List.mem_cons_self
  refine ⟨t,_,rfl,zV.of ht,rfl,_,_,rfl,_,_,rfl,_,_,rfl,rfl,?_⟩
  refine ⟨_,rfl,.inl ⟨rfl,_,zE.of epa⟩,rfl,?_⟩
  refine ⟨_,rfl,.inl ⟨mo,rfl,nm,?_⟩⟩
  refine ⟨_,rfl,f,p.1,p.2,rfl,hf,okp1.1,okp1.2.1,?_⟩
  refine ⟨(by show 2<=sizeLine; decide),λl1 hl1=>?_⟩
  have z1:=zR hl1 (HO.lst [V.str (sN mo),V.str (sF (p.1,p.2))])
  have el1:=zP (H:=H2) (a:=l1) (o:=HO.lst [V.str (sN mo),V.str (sF (p.1,p.2))])
  generalize upd H2 l1 (HO.lst [V.str (sN mo),V.str (sF (p.1,p.2))])=H3 at z1 el1 |-
  refine ⟨_,rfl,l,rfl,⟨_,zE.of (z1 _ _ hl)⟩,yo (K:=K) (a:=l) (xs:=pv) (λj ys σ H'=>ys=((ps.take j).map sF).map V.str/\(∃ o,σ=[o])/\H'=H3)
   ⟨rfl,⟨none,rfl⟩,rfl⟩ (λj ys σ H' _ ⟨e,_,e2⟩=>⟨by rw [e2]; exact zE.of (z1 _ _ hl),by rw [e,List.length_map,List.length_map,List.length_take]; omega⟩) (Nat.le_of_lt (zz (by omega))) ?_ ?_⟩
  ·rintro j y ys σ H' hy ⟨rfl,⟨o,rfl⟩,rfl⟩
   obtain ⟨p',hp',t',rfl,ht'⟩:=xC hpv hy
   have okp':=okp p' (List.mem_cons_of_mem _ (List.mem_of_getElem? hp'))
   refine ⟨_,rfl,t',p'.1,p'.2,rfl,z1 _ _ ht',okp'.1,okp'.2.1,?_,⟨_,rfl⟩,rfl⟩
   rw [y4 hp',List.map_append,List.map_append]
   rfl
  rintro ys σ H' ⟨rfl,⟨o,rfl⟩,rfl⟩ l2 hl2
  rw [lpv,List.take_length]
  have z2:=zR hl2 (HO.lst ((ps.map sF).map V.str))
  refine ⟨l1,l2,_,_,rfl,rfl,z2 _ _ el1,zP,?_,λl3 hl3=>?_⟩
  ·rw [List.length_map,List.length_map]
   exact Nat.le_of_lt (zz (by simp only [List.length_cons,List.length_nil]; omega))
  have z3:=zR hl3 (HO.lst ([V.str (sN mo),V.str (sF (p.1,p.2))]++(ps.map sF).map V.str))
  have Z:=z1.trans (z2.trans z3)
  refine ⟨_,l3,[sN mo,sF p]++ps.map sF,rfl,rfl,zE.of zP,xf (B:=123) (λq hq=>?_) ?_,?_⟩
  ·rcases List.mem_append.mp hq with e | e
   ·rcases List.mem_cons.mp e with e | e
    ·rw [e]; have:=(xD (i:=mo) nm).2; omega
    ·rw [List.mem_singleton.mp e]; exact wx ⟨okp1.1,okp1.2.1⟩
   ·obtain ⟨p',hp',rfl⟩:=List.mem_map.mp e
    have okp':=okp p' (List.mem_cons_of_mem _ hp')
    exact wx ⟨okp'.1,okp'.2.1⟩
  ·show ([sN mo,sF p]++ps.map sF).length * (123 + yC.length)<=_
   rw [List.length_append,List.length_map,yb]
   have:=Nat.mul_le_mul (show [sN mo,sF p].length + ps.length<=8 by simp only [List.length_cons,List.length_nil]; omega) (Nat.le_refl (123 + 1))
   omega
  refine ⟨pa,_,_,rfl,rfl,Z _ _ epa,?_,⟨_,_,_,rfl⟩,uB (sm.trans Z) hpa,zP.trans ?_⟩
  ·rw [List.length_map,List.length_map,List.length_take]
   exact zz (by omega)
  ·rw [y4 hst,List.map_append,List.map_append]
   rfl
 rintro σ H2 ⟨⟨o3,o4,o5,rfl⟩,sm,epa⟩
 rw [lr,List.take_length] at epa
 refine ⟨rfl,_,rfl,_,pa,run.map sS,rfl,rfl,zE.of epa,xf (B:=2002) (λq hq=>?_) ?_,?_⟩
 ·obtain ⟨s,hs,rfl⟩:=List.mem_map.mp hq
  exact jL (ok s hs)
 ·show (run.map sS).length * (2002 + xg.length)<=_
  rw [List.length_map,wV]
  have:=Nat.mul_le_mul r6 (Nat.le_refl (2002 + 2))
  omega
 have hra2:=sm _ _ hra
 have hrv2:=zd.same sm hrv
 refine ⟨_,rfl,ra,_,rfl,.inl (zE.of hra2),λhd hhd=>?_⟩
 have z3:=zR hhd (HO.lst rv)
 refine ⟨hd,rv,run,w,rfl,zE.of zP,zd.same z3 hrv2,r6,ok,λH4 s4=>?_⟩
 refine ⟨_,rfl,rfl,_,rfl,xp rfl ?_⟩
 have S4:=sm.trans (z3.trans s4)
 clear s4 z3 hra2 hrv2 epa sm
 refine ⟨_,rfl,_,rfl,run,w,rfl,r6,ok,λl lv H5 s5 l0 el hv=>?_⟩
 have llv:lv.length=run.length:=Paired.length hv
 have S5:=S4.trans s5
 refine ⟨_,rfl,_,_,_,_,rfl,.lst el,uz _,_,rfl,zU ?_⟩
 refine ⟨_,rfl,_,rfl,.list (run.map y6),.lst (zE.of el) (uV hv),.lst (zE.of (S5 _ _ hra)) (uV (zd.same S5 hrv)),qm run,kb run,_,rfl,zU ?_⟩
 refine ⟨_,rfl,l,rfl,⟨_,zE.of el⟩,jm (K:=K) (a:=l) (xs:=lv) (λi σ H2=>(∃ o3 o4 o5 o8:Option V,σ=[some (.ref ra),some (.int (w:Int)),some (.ref pa),o3,o4,o5,some (.str (yE run)),some (.ref l),o8])/\zC H5 H2)
  ⟨⟨_,_,_,none,rfl⟩,zC.refl _⟩ (λi σ H2 _ ⟨_,sm⟩=>zE.of (sm _ _ el)) ?_ ?_⟩
 ·rintro i x σ H6 hx ⟨⟨o3,o4,o5,o8,rfl⟩,sm⟩
  obtain ⟨st,hst,hsv⟩:=xC hv hx
  obtain ⟨t,f,pl,p,pv,ps,rfl,ht,hf,hl,hpv,e⟩:=hsv.same sm
  obtain ⟨nm,le,w6,okp⟩:=ok st (List.mem_of_getElem? hst)
  have lps:ps.length=w:=by rw [e] at le; exact Nat.succ.inj le
  have lpv:pv.length=ps.length:=Paired.length hpv
  refine ⟨_,rfl,_,_,_,_,rfl,.tup ht,uw _,_,rfl,zU ?_⟩
  refine ⟨_,rfl,t,_,0,_,rfl,rfl,zV.of ht,rfl,_,_,_,_,rfl,.int _,uv _,_,rfl,zU ?_⟩
  refine ⟨_,rfl,t,_,2,_,rfl,rfl,zV.of ht,rfl,_,_,_,_,rfl,.lst hl,uz _,_,rfl,zU ?_⟩
  refine ⟨_,rfl,t,_,1,_,rfl,rfl,zV.of ht,rfl,f,p.1,p.2,rfl,hf,_,rfl,zU ?_⟩
  refine ⟨_,rfl,t,_,2,_,rfl,rfl,zV.of ht,rfl,pl,rfl,⟨_,zE.of hl⟩,yo (K:=K) (a:=pl) (xs:=pv) (λj ys σ H'=>ys=(List.replicate j true).map V.bl/\(∃ o,σ=[o])/\H'=H6)
   ⟨rfl,⟨none,rfl⟩,rfl⟩ (λj ys σ H' _ ⟨e,_,e2⟩=>⟨by rw [e2]; exact zE.of hl,by rw [e,List.length_map,List.length_replicate]; exact Nat.le_refl _⟩) (Nat.le_of_lt (zz (by omega))) ?_ ?_⟩
  ·rintro j y ys σ H' hy ⟨rfl,⟨o,rfl⟩,rfl⟩
   obtain ⟨p',hp',t',rfl,ht'⟩:=xC hpv hy
   refine ⟨_,rfl,t',p'.1,p'.2,rfl,ht',?_,⟨_,rfl⟩,rfl⟩
   rw [List.replicate_succ',List.map_append]
   rfl
  rintro ys σ H' ⟨rfl,⟨o,rfl⟩,rfl⟩ b hb
  refine ⟨b,List.replicate pv.length true,rfl,zE.of zP,?_⟩
  rw [jP]
  exact ⟨_,rfl,zU ⟨⟨_,_,_,_,rfl⟩,sm.trans (zR hb _)⟩⟩
 rintro σ H6 ⟨⟨o3,o4,o5,o8,rfl⟩,s6⟩
 refine ⟨_,rfl,.inl ⟨rfl,_,zE.of (s6 _ _ el)⟩,?_⟩
 refine ⟨l,lv,_,rfl,rfl,s6 _ _ el,zz (by omega),?_⟩
 have f0:H l=none:=S4.free l0
 have S7:zC H (upd H6 l (.lst (lv++[.non]))):=uB (S5.trans s6) f0
 generalize upd H6 l (.lst (lv++[.non]))=H7 at S7 |-
 refine ⟨_,rfl,_,rfl,run,w,rfl,r6,ok,λl2 lv2 H8 s8 l20 el2 hv2=>?_⟩
 have S8:=S7.trans s8
 refine ⟨_,rfl,.list (run.map y6),.lst (zE.of el2) (uV hv2),.lst (zE.of (S8 _ _ hra)) (uV (zd.same S8 hrv)),qm run,kb run,_,rfl,xU ?_⟩
 refine ⟨(by show 0<=sizeLine; decide),λe hee=>?_⟩
 have z9:=zR hee (HO.lst [])
 refine ⟨e,[],[],w,rfl,zE.of zP,.nil,(by show 0<=6; decide),(λs hs=>by cases hs),λH9 s9=>?_⟩
 refine ⟨rfl,_,rfl,xB (decide_eq_true (by rw [kc])) ?_⟩
 refine ⟨_,rfl,[],w,(by rw [kc]; rfl),(by show 0<=6; decide),(λs hs=>by cases hs),λl3 lv3 H10 s10 l30 el3 hv3=>?_⟩
 cases hv3
 refine ⟨(by show 0<=sizeLine; decide),λe2 he2=>?_⟩
 have z11:=zR he2 (HO.lst [])
 exact ⟨.list [],.lst (zE.of (z11 _ _ el3)) .nil,.lst (zE.of zP) .nil,rfl,(by decide),q _ (S8.trans (z9.trans (s9.trans (s10.trans z11))))⟩
end
section
variable {P:Program} {w:World} {K:PySem.W.Frag} {mg:Str->Option Value} {base:Heap}
noncomputable abbrev xQ:Stmt:=zp 45
theorem xm:ze ["_law_script","_law_cell","_law_many","_law_wide","_law_xs","_law_point","_law_value_here","_law_text_here","_law_found"] ["_law_script"] (zK xQ):=.a
theorem Xo {k:Nat} {f:Addr} {fd:FuncData} (F:zg K "law" "law" xQ f fd) (B:Bl mg) (aa:Fn P w K mg base "_law_cell_at" ["_law_script","_law_k"] k (wq K)) (aj:Fn P w K mg base "_law_stream" ["_law_cell","_law_many"] k uC) (ak:Fn P w K mg base "_law_value" ["_law_number_here","_law_other","_law_cell"] k jS) (ai:Fn P w K mg base "read_fraction" ["text"] k jN) (ac:Fn P w K mg base "_law_text" ["_law_value_here"] k xy) (ap:Fn P w K mg base "show_fraction" ["value"] k xy) (ag:Fn P w K mg base "_law_plain" ["_law_found"] k wu) (aq:Fn P w K mg base "show_point" ["point"] k (jJ K)) (aI:Fn P w K mg base "read_point" ["text","many"] k qd) (aJ:Fn P w K mg base "_law_runs_right" ["_law_run_here","_law_wide"] k ql) (aK:Fn P w K mg base "_law_run" ["_law_script","_law_cell","_law_wide"] k (qk K)) (aL:Fn P w K mg base "_law_rooms_right" ["_law_room_here","_law_many"] k qj) (aM:Fn P w K mg base "_law_room" ["_law_script","_law_many","_law_cell"] k (qi K)):zG P w K mg base zW (k + 1) f fd ["_law_script"] (wr K):=by
 refine F.ok xm (λvs H Q E h=>?_) (λcdv A outer s H vs Q E hr h=>?_)
 ·obtain ⟨_,_,rfl,_⟩:=h
  rfl
 obtain ⟨a,ns,rfl,hS,hn63,q⟩:=h
 refine ⟨_,(zL (zb (i:=1) xm.nd rfl (Or.inr rfl) (zO aa hr rfl (zA (L2.pv 0) (zA zH zD))))
  (zL (zb (i:=2) xm.nd rfl (Or.inl rfl) (zQ yg zH (zQ yc (L2.pv 1) zH)))
  (zL (zb (i:=3) xm.nd rfl (Or.inl rfl) (zQ yc (zQ xr (L2.pv 1) zH) zH))
  (zL (zb (i:=4) xm.nd rfl (Or.inr rfl) (zO aj hr rfl (zA (zO aa hr rfl (zA (L2.pv 0) (zA zH zD))) (zA zH zD))))
  (zL (gj (i:=5) xm.nd rfl rfl (own:=["_law_k"]) (caps:=[(1,"_law_cell"),(4,"_law_xs")]) (v9 (S:=zK xQ) (N:=["_law_script","_law_cell","_law_many","_law_wide","_law_xs","_law_point","_law_value_here","_law_text_here","_law_found"]) rfl (by decide +kernel) rfl ⟨_,rfl⟩ rfl (by decide +kernel) (by decide +kernel)) rfl (wj rfl B.range_ (zA (L2.pv 2) zD)) (λ_ _ _ _=>zy (i:=0) (show (["_law_k","_law_cell","_law_xs"]:List Str).Nodup by decide +kernel) rfl (Or.inl rfl)) (λ_ _ _ _=>(zO ak hr rfl (zA (zo (show wI _ (xI K) from yz) (L2.pv 2) (zQ xA zH (L2.pv 0)) (λ_ _=>rfl)) (zA (zo (show wI _ (xI K) from yz) (L2.pv 2) (zQ yg (zQ xA zH (L2.pv 0)) zH) (λ_ _=>rfl)) (zA (L2.pv 1) zD))))) rfl)
  (zL (xn PassesOwn.never rfl (yS (L2.pv 5)) (zy (i:=6) xm.nd rfl (Or.inl rfl)) (zL (zm (PW.pt (yR (zn xL (zO ap hr rfl (zA (L2.pv 6) zD)) (zO ac hr rfl (zA (L2.pv 6) zD)) (zc _)) (yu (zn (v7 hr.units) (zO ai hr rfl (zA (zO ac hr rfl (zA (L2.pv 6) zD)) zD)) (L2.pv 6) (zc _))))) (zN (zT yr)) zl)
   (zN (zm (yM (yH (zO ag hr rfl (zA (zO ai hr rfl (zA (zO ac hr rfl (zA (L2.pv 6) zD)) zD)) zD)))) (zN (zT yr)) zl))))
  (zL (zb (i:=7) xm.nd rfl (Or.inl rfl) (yK PySem.F.plainAttrs_str PySem.F.slot_str_join PySem.F.type_str_join xh yJ (zA (yn (own:=["_law_value_here"]) (caps:=[]) (xF rfl) rfl (yS (L2.pv 5)) (λ_ _ _ _=>zy (i:=0) (show (["_law_value_here"]:List Str).Nodup by decide +kernel) rfl (Or.inl rfl)) (λ_ _ _ _=>(zO ac hr rfl (zA (L2.pv 0) zD)))) zD)))
  (zL (zm (zn xL (zO aq hr rfl (zA (yk j1 rfl B.list_ wN (zA (L2.pv 5) zD)) zD)) (L2.pv 7) (zc _)) (zN (zT yr)) zl)
  (zL (zb (i:=8) xm.nd rfl (Or.inl rfl) (zO aI hr rfl (zA (L2.pv 7) (zA (L2.pv 2) zD))))
  (zL (zm (PW.pt (yR (yM (yH (zt y1 rfl B.isinstance_ y3 (zA (L2.pv 8) (zA (yt (v:=.ty "list") (u:=.type "list") rfl B.list_ wN rfl) zD))))) (yR (zn (v7 hr.units) (L2.pv 8) (L2.pv 5) (zc _)) (yu (yM (yH (zt (up rfl) rfl B.all_ ut (zA (yn (own:=["_law_value_here"]) (caps:=[]) (xF rfl) rfl (yS (L2.pv 8)) (λ_ _ _ _=>zy (i:=0) (show (["_law_value_here"]:List Str).Nodup by decide +kernel) rfl (Or.inl rfl)) (λ_ _ _ _=>(zO ag hr rfl (zA (L2.pv 0) zD)))) zD)))))))) (zN (zT yr)) zl)
  (zN (zT (we (zO aL hr rfl (zA (zO aM hr rfl (zA (L2.pv 0) (zA (L2.pv 2) (zA (L2.pv 1) zD)))) (zA (L2.pv 2) zD))) (wd (zO aJ hr rfl (zA (zO aK hr rfl (zA (L2.pv 0) (zA (L2.pv 1) (zA (L2.pv 3) zD)))) (zA (L2.pv 3) zD))))))))))))))))),?_⟩
 try dsimp only [zJ,Cx.nox,Cx.wish]
 have b3:Bd 2 (3:Int):=Bd.lit
 have b2:Bd 3 (2:Int):=Bd.lit
 refine ⟨_,rfl,a,ns,0,rfl,hS,(by decide),?_⟩
 generalize yZ ns 0=c
 have f1:=Int.fmod_nonneg_of_pos c (show (0:Int) < 3 by decide)
 have f2:=Int.fmod_lt_of_pos c (show (0:Int) < 3 by decide)
 have g1:=Int.fmod_nonneg_of_pos (c.fdiv 3) (show (0:Int) < 7 by decide)
 have g2:=Int.fmod_lt_of_pos (c.fdiv 3) (show (0:Int) < 7 by decide)
 refine ⟨_,rfl,_,_,rfl,rfl,(show (3:Int)≠0 by decide),_,_,rfl,rfl,?_⟩
 refine ⟨_,rfl,_,_,rfl,rfl,⟨by decide,b3.mono⟩,_,_,rfl,rfl,(show (7:Int)≠0 by decide),?_⟩
 obtain ⟨n,hn⟩:∃ n:Nat,1 + c.fmod 3=(n:Int):=⟨(1 + c.fmod 3).toNat,by omega⟩
 obtain ⟨w,hw⟩:∃ w:Nat,(c.fdiv 3).fmod 7=(w:Int):=⟨((c.fdiv 3).fmod 7).toNat,by omega⟩
 have n1:1<=n:=by omega
 have n3:n<=3:=by omega
 have w6:w<=6:=by omega
 refine ⟨_,rfl,a,ns,1,rfl,hS,(by decide),yZ ns 1,8,rfl,(by decide),(by decide),λr H1 xs s1 hr0 hr' lx bd=>?_⟩
 have lx8:xs.length=8:=lx
 have sx:∀ (j:Nat) (h:j < xs.length),Sm (xs[j]'h):=λj h=>bd _ (List.getElem_mem h)
 refine ⟨_,rfl,1 + c.fmod 3,rfl,(by omega),(by omega),gk (lo:=0) (n:=(1 + c.fmod 3).toNat) (λj zs σ H'=>(∃ ps:List (Int × Int),zx H' zs ps/\ps.length=j/\∀ p∈ps,xP p)/\(∃ o,σ=[o,some (.int c),some (.ref r)])/\zC H1 H')
  ⟨⟨[],.nil,rfl,λp hp=>by cases hp⟩,⟨none,rfl⟩,zC.refl _⟩ (λj zs σ H' ⟨⟨ps,e,lz,_⟩,_⟩=>by have:=Paired.length e; omega) (Nat.le_of_lt (zz (by omega))) ?_ ?_⟩
 ·rintro j zs σ H' hj ⟨⟨ps,hz,lz,oz⟩,⟨o,rfl⟩,s⟩
  have bj:Bd 10 (0 + (j:Int)):=by show (0 + (j:Int)).natAbs < 2 ^ 10; omega
  have h1:2 * j < xs.length:=by omega
  have h2:2 * j + 1 < xs.length:=by omega
  refine ⟨_,rfl,_,rfl,_,_,rfl,rfl,⟨b2.mono,bj.mono⟩,r,_,_,_,rfl,rfl,zE.of (s _ _ hr'),wb (by omega) h1,_,rfl,_,rfl,_,_,rfl,rfl,⟨b2.mono,bj.mono⟩,_,_,rfl,rfl,r,_,_,_,rfl,rfl,zE.of (s _ _ hr'),wb (by omega) h2,_,rfl,_,_,c,rfl,sx _ h1,sx _ h2,λt p H4 s4 e4 ok4=>⟨⟨ps++[p],qg e4 (zx.same s4 hz),by rw [List.length_append,lz]; rfl,λp' hp'=>?_⟩,⟨_,rfl⟩,s.trans s4⟩⟩
  rcases List.mem_append.mp hp' with e | e
  ·exact oz p' e
  ·rw [List.mem_singleton.mp e]; exact ok4
 rintro pv σ H' ⟨⟨pts,hv0,lz,ok⟩,⟨o,rfl⟩,s⟩ pl hpl
 have lpt:pts.length=n:=by omega
 have S3:=s1.trans (s.trans (zR hpl (HO.lst pv)))
 have epl:=zP (H:=H') (a:=pl) (o:=HO.lst pv)
 have hpt:=zx.same (zR hpl (HO.lst pv)) hv0
 have lpv:pv.length=pts.length:=Paired.length hpt
 clear hr' hr0 s1 s hv0 hpl bd sx
 generalize upd H' pl (HO.lst pv)=H3 at S3 epl hpt |-
 refine ⟨_,rfl,pl,rfl,⟨_,zE.of epl⟩,jm (K:=K) (a:=pl) (xs:=pv) (λi σ H2=>(∃ o6:Option V,σ=[some (.ref a),some (.int c),some (.int (1 + c.fmod 3)),some (.int ((c.fdiv 3).fmod 7)),some (.ref r),some (.ref pl),o6,none,none])/\zC H3 H2)
  ⟨⟨none,rfl⟩,zC.refl _⟩ (λi σ H2 _ ⟨_,sm⟩=>zE.of (sm _ _ epl)) ?_ ?_⟩
 ·rintro i x σ H4 hx ⟨⟨o6,rfl⟩,sm⟩
  obtain ⟨p,hp,t,rfl,ht0⟩:=xC hpt hx
  have ht:=sm _ _ ht0
  have okp:=ok p (List.mem_of_getElem? hp)
  refine ⟨_,rfl,t,p.1,p.2,rfl,ht,okp.1,okp.2.1,_,rfl,t,p.1,p.2,rfl,ht,okp.1,okp.2.1,rfl,_,rfl,xp rfl ?_⟩
  refine ⟨_,rfl,t,p.1,p.2,rfl,ht,okp.1,okp.2.1,p,rfl,okp,λr2 H5 s5 e5=>?_⟩
  refine ⟨_,rfl,za (two p),.tup (zV.of e5) (.cons (.int _) (.cons (.int _) .nil)),.tup (zV.of (s5 _ _ ht)) (.cons (.int _) (.cons (.int _) .nil)),rfl,(by show 1<=60; decide),_,rfl,zU ?_⟩
  refine ⟨_,rfl,t,p.1,p.2,rfl,s5 _ _ ht,okp.1,okp.2.1,p,rfl,okp,λr3 H6 s6 e6=>?_⟩
  exact ⟨r3,p.1,p.2,rfl,e6,_,rfl,zU ⟨⟨_,rfl⟩,sm.trans (s5.trans s6)⟩⟩
 rintro σ H4 ⟨⟨o6,rfl⟩,s4⟩
 have epl4:=s4 _ _ epl
 have hpt4:=zx.same s4 hpt
 have S4:=S3.trans s4
 clear epl hpt S3 s4
 refine ⟨rfl,_,rfl,pl,rfl,⟨_,zE.of epl4⟩,yo (K:=K) (a:=pl) (xs:=pv) (λj ys σ H'=>ys=((pts.take j).map sF).map V.str/\(∃ o,σ=[o])/\H'=H4)
  ⟨rfl,⟨none,rfl⟩,rfl⟩ (λj ys σ H' _ ⟨e,_,e2⟩=>⟨by rw [e2]; exact zE.of epl4,by rw [e,List.length_map,List.length_map,List.length_take]; omega⟩) (Nat.le_of_lt (zz (by omega))) ?_ ?_⟩
 ·rintro j y ys σ H' hy ⟨rfl,⟨o,rfl⟩,rfl⟩
  obtain ⟨p',hp',t',rfl,ht'⟩:=xC hpt4 hy
  have okp':=ok p' (List.mem_of_getElem? hp')
  refine ⟨_,rfl,t',p'.1,p'.2,rfl,ht',okp'.1,okp'.2.1,?_,⟨_,rfl⟩,rfl⟩
  rw [y4 hp',List.map_append,List.map_append]
  rfl
 rintro ys σ H' ⟨rfl,⟨o,rfl⟩,rfl⟩ l hl
 rw [lpv,List.take_length]
 have z5:=zR hl (HO.lst ((pts.map sF).map V.str))
 refine ⟨_,l,pts.map sF,rfl,rfl,zE.of zP,xf (B:=123) (λq hq=>?_) ?_,?_⟩
 ·obtain ⟨p,hp,rfl⟩:=List.mem_map.mp hq
  exact wx ⟨(ok p hp).1,(ok p hp).2.1⟩
 ·show (pts.map sF).length * (123 + yC.length)<=_
  rw [List.length_map,yb]
  have:=Nat.mul_le_mul (show pts.length<=3 by omega) (Nat.le_refl (123 + 1))
  omega
 generalize upd H' l (HO.lst ((pts.map sF).map V.str))=H5 at z5 |-
 refine ⟨_,rfl,pl,_,rfl,.inl (zE.of (z5 _ _ epl4)),λhd hhd=>?_⟩
 have z6:=z5.trans (zR hhd (HO.lst pv))
 refine ⟨hd,pv,pts,rfl,zE.of zP,zx.same z6 hpt4,(by omega),ok,λH7 s7=>?_⟩
 refine ⟨_,rfl,rfl,_,rfl,xp rfl ?_⟩
 have z7:=z6.trans s7
 refine ⟨_,rfl,_,rfl,pts,(by rw [lpt,<- hn]; rfl),(by intro z; rw [z] at lpt; have:(0:Nat)=n:=lpt; omega),(by omega),ok,λl8 lv8 H8 s8 l80 el8 hv8=>?_⟩
 have z8:=z7.trans s8
 have llv:lv8.length=pts.length:=Paired.length hv8
 refine ⟨_,rfl,_,_,_,_,rfl,.lst el8,uz _,_,rfl,zU ?_⟩
 refine ⟨_,rfl,_,rfl,.list ((pts.map two).map za),.lst (zE.of el8) (jU hv8),.lst (zE.of (z8 _ _ epl4)) (jU (zx.same z8 hpt4)),uE _,uD _,_,rfl,zU ?_⟩
 refine ⟨_,rfl,l8,rfl,⟨_,zE.of el8⟩,yo (K:=K) (a:=l8) (xs:=lv8) (λj ys σ H'=>ys=(List.replicate j true).map V.bl/\(∃ o,σ=[o])/\H'=H8)
  ⟨rfl,⟨none,rfl⟩,rfl⟩ (λj ys σ H' _ ⟨e,_,e2⟩=>⟨by rw [e2]; exact zE.of el8,by rw [e,List.length_map,List.length_replicate]; exact Nat.le_refl _⟩) (Nat.le_of_lt (zz (by omega))) ?_ ?_⟩
 ·rintro j y ys σ H' hy ⟨rfl,⟨o,rfl⟩,rfl⟩
  obtain ⟨p',hp',t',rfl,ht'⟩:=xC hv8 hy
  refine ⟨_,rfl,t',p'.1,p'.2,rfl,ht',?_,⟨_,rfl⟩,rfl⟩
  rw [List.replicate_succ',List.map_append]
  rfl
 rintro ys σ H9 ⟨rfl,⟨o,rfl⟩,rfl⟩ b hb
 refine ⟨b,List.replicate lv8.length true,rfl,zE.of zP,?_⟩
 rw [jP]
 refine ⟨_,rfl,zU ?_⟩
 have S9:=S4.trans (z8.trans (zR hb (HO.lst ((List.replicate lv8.length true).map V.bl))))
 generalize upd H9 b (HO.lst ((List.replicate lv8.length true).map V.bl))=H10 at S9 |-
 refine ⟨_,rfl,_,rfl,_,rfl,a,ns,n,c,(by rw [<- hn]; rfl),S9.seq hS,n3,λra rv room H11 s11 era hrv RT=>?_⟩
 refine ⟨_,rfl,ra,rv,room,n,(by rw [<- hn]; rfl),era,hrv,RT,λH12 s12=>⟨_,rfl,xU ?_⟩⟩
 refine ⟨_,rfl,_,rfl,_,rfl,a,ns,c,w,(by rw [<- hw]; rfl),(S9.trans (s11.trans s12)).seq hS,w6,λla lv run H13 s13 ela hrun r6 okr=>?_⟩
 exact ⟨_,rfl,la,lv,run,w,(by rw [<- hw]; rfl),ela,hrun,r6,okr,λH14 _=>q _⟩
end
end K91
namespace L2
theorem yp {α:Type} {P:List α->Prop} (h:∀ x0:α,P [x0]):∀ us:List α,us.length=1->P us
 | [x0],_=>h x0
theorem yq {α:Type} {P:List α->Prop} (h:∀ x0 x1:α,P [x0,x1]):∀ us:List α,us.length=2->P us
 | [x0,x1],_=>h x0 x1
theorem jW {α:Type} {P:List α->Prop} (h:∀ x0 x1 x2:α,P [x0,x1,x2]):∀ us:List α,us.length=3->P us
 | [x0,x1,x2],_=>h x0 x1 x2
end L2
namespace K91
open PySem L2 Sh
theorem all_mk {l:W.OpenLaw} {w:World} {K:W.Frag} {h:Heap} {mg:Str->Option Value} {fa f0 f1 f2 f3 f4 f5 f6 f7 f8 f9 f10 f11 f12 f13 f14 f15 f16 f17 f18 f19 f20 f21 f22 f23 f24 f25 f26 f27 f28 f29 f30 f31 f32 f33:Addr} (X:K.In h) (G:h.Ns mainGlobals mg) (hfa:mg "law" = some (.ref fa))
  {od0 an0 od1 an1 od2 an2 od3 an3 od4 an4 od5 an5 od6 an6 od7 an7 od8 an8 od9 an9 od10 an10 od11 an11 od12 an12 od13 an13 od14 an14 od15 an15 od16 an16 od17 an17 od18 an18 od19 an19 od20 an20 od21 an21 od22 an22 od23 an23 od24 an24 od25 an25 od26 an26 od27 an27 od28 an28 od29 an29 od30 an30 od31 an31 od32 an32 od33 an33:Option Addr} {sl0 sl1 sl2 sl3 sl4 sl5 sl6 sl7 sl8 sl9 sl10 sl11 sl12 sl13 sl14 sl15 sl16 sl17 sl18 sl19 sl20 sl21 sl22 sl23 sl24 sl25 sl26 sl27 sl28 sl29 sl30 sl31 sl32 sl33:Array (Option Value)} {oc0 kV0 dc0 pm0 cd0 ct0 oc1 kV1 dc1 pm1 cd1 ct1 oc2 kV2 dc2 pm2 cd2 ct2 oc3 kV3 dc3 pm3 cd3 ct3 oc4 kV4 dc4 pm4 cd4 ct4 oc5 kV5 dc5 pm5 cd5 ct5 oc6 kV6 dc6 pm6 cd6 ct6 oc7 kV7 dc7 pm7 cd7 ct7 oc8 kV8 dc8 pm8 cd8 ct8 oc9 kV9 dc9 pm9 cd9 ct9 oc10 kV10 dc10 pm10 cd10 ct10 oc11 kV11 dc11 pm11 cd11 ct11 oc12 kV12 dc12 pm12 cd12 ct12 oc13 kV13 dc13 pm13 cd13 ct13 oc14 kV14 dc14 pm14 cd14 ct14 oc15 kV15 dc15 pm15 cd15 ct15 oc16 kV16 dc16 pm16 cd16 ct16 oc17 kV17 dc17 pm17 cd17 ct17 oc18 kV18 dc18 pm18 cd18 ct18 oc19 kV19 dc19 pm19 cd19 ct19 oc20 kV20 dc20 pm20 cd20 ct20 oc21 kV21 dc21 pm21 cd21 ct21 oc22 kV22 dc22 pm22 cd22 ct22 oc23 kV23 dc23 pm23 cd23 ct23 oc24 kV24 dc24 pm24 cd24 ct24 oc25 kV25 dc25 pm25 cd25 ct25 oc26 kV26 dc26 pm26 cd26 ct26 oc27 kV27 dc27 pm27 cd27 ct27 oc28 kV28 dc28 pm28 cd28 ct28 oc29 kV29 dc29 pm29 cd29 ct29 oc30 kV30 dc30 pm30 cd30 ct30 oc31 kV31 dc31 pm31 cd31 ct31 oc32 kV32 dc32 pm32 cd32 ct32 oc33 kV33 dc33 pm33 cd33 ct33:Value}
  {T3:Addr} {ocT3:Value} {odT3:Option Addr} {nT3:Nat} {slT3:Array (Option Value)} {tk3:Tok}
  (a0:W.nsIn K mainGlobals "is_whole" = some (some (.ref f0))) (l0:K.lookup f0=some ⟨oc0,od0,.func (W.fnOf "is_whole" "is_whole" (zZ wz) (zX wz) (zK wz) .none kV0 dc0 pm0 an0 cd0 ct0),sl0⟩) (c0:W.codeIn K cd0 "is_whole" = true) (k0:W.keepIn K (.ref f0)=true)
  (a1:W.nsIn K mainGlobals "common_divisor" = some (some (.ref f1))) (l1:K.lookup f1=some ⟨oc1,od1,.func (W.fnOf "common_divisor" "common_divisor" (zZ w4) (zX w4) (zK w4) .none kV1 dc1 pm1 an1 cd1 ct1),sl1⟩) (c1:W.codeIn K cd1 "common_divisor" = true) (k1:W.keepIn K (.ref f1)=true)
  (a2:W.nsIn K mainGlobals "is_fraction" = some (some (.ref f2))) (l2:K.lookup f2=some ⟨oc2,od2,.func (W.fnOf "is_fraction" "is_fraction" (zZ w8) (zX w8) (zK w8) .none kV2 dc2 pm2 an2 cd2 ct2),sl2⟩) (c2:W.codeIn K cd2 "is_fraction" = true) (k2:W.keepIn K (.ref f2)=true)
  (a3:W.nsIn K mainGlobals "fraction" = some (some (.ref f3))) (l3:K.lookup f3=some ⟨oc3,od3,.func (W.fnOf "fraction" "fraction" (zZ vA) (zX vA) (zK vA) (.ref T3) kV3 dc3 pm3 an3 cd3 ct3),sl3⟩) (c3:W.codeIn K cd3 "fraction" = true) (k3:W.keepIn K (.ref f3)=true)
  (t3:K.lookup T3=some ⟨ocT3,odT3,.seq #[.int 1 tk3] nT3,slT3⟩)
  (a4:W.nsIn K mainGlobals "show_words" = some (some (.ref f4))) (l4:K.lookup f4=some ⟨oc4,od4,.func (W.fnOf "show_words" "show_words" (zZ vB) (zX vB) (zK vB) .none kV4 dc4 pm4 an4 cd4 ct4),sl4⟩) (c4:W.codeIn K cd4 "show_words" = true) (k4:W.keepIn K (.ref f4)=true)
  (a5:W.nsIn K mainGlobals "show_fraction" = some (some (.ref f5))) (l5:K.lookup f5=some ⟨oc5,od5,.func (W.fnOf "show_fraction" "show_fraction" (zZ vC) (zX vC) (zK vC) .none kV5 dc5 pm5 an5 cd5 ct5),sl5⟩) (c5:W.codeIn K cd5 "show_fraction" = true) (k5:W.keepIn K (.ref f5)=true)
  (a6:W.nsIn K mainGlobals "show_room" = some (some (.ref f6))) (l6:K.lookup f6=some ⟨oc6,od6,.func (W.fnOf "show_room" "show_room" (zZ vD) (zX vD) (zK vD) .none kV6 dc6 pm6 an6 cd6 ct6),sl6⟩) (c6:W.codeIn K cd6 "show_room" = true) (k6:W.keepIn K (.ref f6)=true)
  (a7:W.nsIn K mainGlobals "show_point" = some (some (.ref f7))) (l7:K.lookup f7=some ⟨oc7,od7,.func (W.fnOf "show_point" "show_point" (zZ vE) (zX vE) (zK vE) .none kV7 dc7 pm7 an7 cd7 ct7),sl7⟩) (c7:W.codeIn K cd7 "show_point" = true) (k7:W.keepIn K (.ref f7)=true)
  (a8:W.nsIn K mainGlobals "show_step" = some (some (.ref f8))) (l8:K.lookup f8=some ⟨oc8,od8,.func (W.fnOf "show_step" "show_step" (zZ vF) (zX vF) (zK vF) .none kV8 dc8 pm8 an8 cd8 ct8),sl8⟩) (c8:W.codeIn K cd8 "show_step" = true) (k8:W.keepIn K (.ref f8)=true)
  (a9:W.nsIn K mainGlobals "show_run" = some (some (.ref f9))) (l9:K.lookup f9=some ⟨oc9,od9,.func (W.fnOf "show_run" "show_run" (zZ vG) (zX vG) (zK vG) .none kV9 dc9 pm9 an9 cd9 ct9),sl9⟩) (c9:W.codeIn K cd9 "show_run" = true) (k9:W.keepIn K (.ref f9)=true)
  (a10:W.nsIn K mainGlobals "split_text" = some (some (.ref f10))) (l10:K.lookup f10=some ⟨oc10,od10,.func (W.fnOf "split_text" "split_text" (zZ vI) (zX vI) (zK vI) .none kV10 dc10 pm10 an10 cd10 ct10),sl10⟩) (c10:W.codeIn K cd10 "split_text" = true) (k10:W.keepIn K (.ref f10)=true)
  (a11:W.nsIn K mainGlobals "are_figures" = some (some (.ref f11))) (l11:K.lookup f11=some ⟨oc11,od11,.func (W.fnOf "are_figures" "are_figures" (zZ vJ) (zX vJ) (zK vJ) .none kV11 dc11 pm11 an11 cd11 ct11),sl11⟩) (c11:W.codeIn K cd11 "are_figures" = true) (k11:W.keepIn K (.ref f11)=true)
  (a12:W.nsIn K mainGlobals "read_number" = some (some (.ref f12))) (l12:K.lookup f12=some ⟨oc12,od12,.func (W.fnOf "read_number" "read_number" (zZ vK) (zX vK) (zK vK) .none kV12 dc12 pm12 an12 cd12 ct12),sl12⟩) (c12:W.codeIn K cd12 "read_number" = true) (k12:W.keepIn K (.ref f12)=true)
  (a13:W.nsIn K mainGlobals "read_numbers" = some (some (.ref f13))) (l13:K.lookup f13=some ⟨oc13,od13,.func (W.fnOf "read_numbers" "read_numbers" (zZ vL) (zX vL) (zK vL) .none kV13 dc13 pm13 an13 cd13 ct13),sl13⟩) (c13:W.codeIn K cd13 "read_numbers" = true) (k13:W.keepIn K (.ref f13)=true)
  (a14:W.nsIn K mainGlobals "read_fraction" = some (some (.ref f14))) (l14:K.lookup f14=some ⟨oc14,od14,.func (W.fnOf "read_fraction" "read_fraction" (zZ vM) (zX vM) (zK vM) .none kV14 dc14 pm14 an14 cd14 ct14),sl14⟩) (c14:W.codeIn K cd14 "read_fraction" = true) (k14:W.keepIn K (.ref f14)=true)
  (a15:W.nsIn K mainGlobals "read_fractions" = some (some (.ref f15))) (l15:K.lookup f15=some ⟨oc15,od15,.func (W.fnOf "read_fractions" "read_fractions" (zZ vN) (zX vN) (zK vN) .none kV15 dc15 pm15 an15 cd15 ct15),sl15⟩) (c15:W.codeIn K cd15 "read_fractions" = true) (k15:W.keepIn K (.ref f15)=true)
  (a16:W.nsIn K mainGlobals "read_point" = some (some (.ref f16))) (l16:K.lookup f16=some ⟨oc16,od16,.func (W.fnOf "read_point" "read_point" (zZ vO) (zX vO) (zK vO) .none kV16 dc16 pm16 an16 cd16 ct16),sl16⟩) (c16:W.codeIn K cd16 "read_point" = true) (k16:W.keepIn K (.ref f16)=true)
  (a17:W.nsIn K mainGlobals "read_tuples" = some (some (.ref f17))) (l17:K.lookup f17=some ⟨oc17,od17,.func (W.fnOf "read_tuples" "read_tuples" (zZ wY) (zX wY) (zK wY) .none kV17 dc17 pm17 an17 cd17 ct17),sl17⟩) (c17:W.codeIn K cd17 "read_tuples" = true) (k17:W.keepIn K (.ref f17)=true)
  (a18:W.nsIn K mainGlobals "read_room" = some (some (.ref f18))) (l18:K.lookup f18=some ⟨oc18,od18,.func (W.fnOf "read_room" "read_room" (zZ vP) (zX vP) (zK vP) .none kV18 dc18 pm18 an18 cd18 ct18),sl18⟩) (c18:W.codeIn K cd18 "read_room" = true) (k18:W.keepIn K (.ref f18)=true)
  (a19:W.nsIn K mainGlobals "read_step" = some (some (.ref f19))) (l19:K.lookup f19=some ⟨oc19,od19,.func (W.fnOf "read_step" "read_step" (zZ vQ) (zX vQ) (zK vQ) .none kV19 dc19 pm19 an19 cd19 ct19),sl19⟩) (c19:W.codeIn K cd19 "read_step" = true) (k19:W.keepIn K (.ref f19)=true)
  (a20:W.nsIn K mainGlobals "read_run" = some (some (.ref f20))) (l20:K.lookup f20=some ⟨oc20,od20,.func (W.fnOf "read_run" "read_run" (zZ wZ) (zX wZ) (zK wZ) .none kV20 dc20 pm20 an20 cd20 ct20),sl20⟩) (c20:W.codeIn K cd20 "read_run" = true) (k20:W.keepIn K (.ref f20)=true)
  (a21:W.nsIn K mainGlobals "_law_cell_at" = some (some (.ref f21))) (l21:K.lookup f21=some ⟨oc21,od21,.func (W.fnOf "_law_cell_at" "_law_cell_at" (zZ vR) (zX vR) (zK vR) .none kV21 dc21 pm21 an21 cd21 ct21),sl21⟩) (c21:W.codeIn K cd21 "_law_cell_at" = true) (k21:W.keepIn K (.ref f21)=true)
  (a22:W.nsIn K mainGlobals "_law_stream" = some (some (.ref f22))) (l22:K.lookup f22=some ⟨oc22,od22,.func (W.fnOf "_law_stream" "_law_stream" (zZ vS) (zX vS) (zK vS) .none kV22 dc22 pm22 an22 cd22 ct22),sl22⟩) (c22:W.codeIn K cd22 "_law_stream" = true) (k22:W.keepIn K (.ref f22)=true)
  (a23:W.nsIn K mainGlobals "_law_draws" = some (some (.ref f23))) (l23:K.lookup f23=some ⟨oc23,od23,.func (W.fnOf "_law_draws" "_law_draws" (zZ vT) (zX vT) (zK vT) .none kV23 dc23 pm23 an23 cd23 ct23),sl23⟩) (c23:W.codeIn K cd23 "_law_draws" = true) (k23:W.keepIn K (.ref f23)=true)
  (a24:W.nsIn K mainGlobals "_law_number" = some (some (.ref f24))) (l24:K.lookup f24=some ⟨oc24,od24,.func (W.fnOf "_law_number" "_law_number" (zZ x3) (zX x3) (zK x3) .none kV24 dc24 pm24 an24 cd24 ct24),sl24⟩) (c24:W.codeIn K cd24 "_law_number" = true) (k24:W.keepIn K (.ref f24)=true)
  (a25:W.nsIn K mainGlobals "_law_divisor" = some (some (.ref f25))) (l25:K.lookup f25=some ⟨oc25,od25,.func (W.fnOf "_law_divisor" "_law_divisor" (zZ vU) (zX vU) (zK vU) .none kV25 dc25 pm25 an25 cd25 ct25),sl25⟩) (c25:W.codeIn K cd25 "_law_divisor" = true) (k25:W.keepIn K (.ref f25)=true)
  (a26:W.nsIn K mainGlobals "_law_value" = some (some (.ref f26))) (l26:K.lookup f26=some ⟨oc26,od26,.func (W.fnOf "_law_value" "_law_value" (zZ x4) (zX x4) (zK x4) .none kV26 dc26 pm26 an26 cd26 ct26),sl26⟩) (c26:W.codeIn K cd26 "_law_value" = true) (k26:W.keepIn K (.ref f26)=true)
  (a27:W.nsIn K mainGlobals "_law_text" = some (some (.ref f27))) (l27:K.lookup f27=some ⟨oc27,od27,.func (W.fnOf "_law_text" "_law_text" (zZ vV) (zX vV) (zK vV) .none kV27 dc27 pm27 an27 cd27 ct27),sl27⟩) (c27:W.codeIn K cd27 "_law_text" = true) (k27:W.keepIn K (.ref f27)=true)
  (a28:W.nsIn K mainGlobals "_law_plain" = some (some (.ref f28))) (l28:K.lookup f28=some ⟨oc28,od28,.func (W.fnOf "_law_plain" "_law_plain" (zZ vW) (zX vW) (zK vW) .none kV28 dc28 pm28 an28 cd28 ct28),sl28⟩) (c28:W.codeIn K cd28 "_law_plain" = true) (k28:W.keepIn K (.ref f28)=true)
  (a29:W.nsIn K mainGlobals "_law_room" = some (some (.ref f29))) (l29:K.lookup f29=some ⟨oc29,od29,.func (W.fnOf "_law_room" "_law_room" (zZ wa) (zX wa) (zK wa) .none kV29 dc29 pm29 an29 cd29 ct29),sl29⟩) (c29:W.codeIn K cd29 "_law_room" = true) (k29:W.keepIn K (.ref f29)=true)
  (a30:W.nsIn K mainGlobals "_law_rooms_right" = some (some (.ref f30))) (l30:K.lookup f30=some ⟨oc30,od30,.func (W.fnOf "_law_rooms_right" "_law_rooms_right" (zZ xl) (zX xl) (zK xl) .none kV30 dc30 pm30 an30 cd30 ct30),sl30⟩) (c30:W.codeIn K cd30 "_law_rooms_right" = true) (k30:W.keepIn K (.ref f30)=true)
  (a31:W.nsIn K mainGlobals "_law_run" = some (some (.ref f31))) (l31:K.lookup f31=some ⟨oc31,od31,.func (W.fnOf "_law_run" "_law_run" (zZ wc) (zX wc) (zK wc) .none kV31 dc31 pm31 an31 cd31 ct31),sl31⟩) (c31:W.codeIn K cd31 "_law_run" = true) (k31:W.keepIn K (.ref f31)=true)
  (a32:W.nsIn K mainGlobals "_law_runs_right" = some (some (.ref f32))) (l32:K.lookup f32=some ⟨oc32,od32,.func (W.fnOf "_law_runs_right" "_law_runs_right" (zZ vX) (zX vX) (zK vX) .none kV32 dc32 pm32 an32 cd32 ct32),sl32⟩) (c32:W.codeIn K cd32 "_law_runs_right" = true) (k32:W.keepIn K (.ref f32)=true)
  (a33:W.nsIn K mainGlobals "law" = some (some (.ref f33))) (l33:K.lookup f33=some ⟨oc33,od33,.func (W.fnOf "law" "law" (zZ xQ) (zX xQ) (zK xQ) .none kV33 dc33 pm33 an33 cd33 ct33),sl33⟩) (c33:W.codeIn K cd33 "law" = true) (k33:W.keepIn K (.ref f33)=true)
  (z0:W.nsIn K mainGlobals "isinstance" = some none)
  (z1:W.nsIn K mainGlobals "int" = some none)
  (z2:W.nsIn K mainGlobals "bool" = some none)
  (z3:W.nsIn K mainGlobals "tuple" = some none)
  (z4:W.nsIn K mainGlobals "len" = some none)
  (z5:W.nsIn K mainGlobals "abs" = some none)
  (z6:W.nsIn K mainGlobals "list" = some none)
  (z7:W.nsIn K mainGlobals "range" = some none)
  (z8:W.nsIn K mainGlobals "max" = some none)
  (z9:W.nsIn K mainGlobals "all" = some none)
  (z10:W.nsIn K mainGlobals "str" = some none)
  {gt0:Tok} (cst0:W.nsIn K mainGlobals "FIGURES" = some (some (.str (Str.ofString "0123456789") gt0)))
  {gt1:Tok} (cst1:W.nsIn K mainGlobals "MOST_FIGURES" = some (some (.int 60 gt1)))
  {gt2:Tok} (cst2:W.nsIn K mainGlobals "NO_ROWS" = some (some (.str (Str.ofString "all") gt2)))
  {gt3:Tok} (cst3:W.nsIn K mainGlobals "ROW_BREAK" = some (some (.str (Str.ofString ", ") gt3)))
  {gt4:Tok} (cst4:W.nsIn K mainGlobals "STEP_BREAK" = some (some (.str (Str.ofString "; ") gt4)))
  : ∃ fd:FuncData,(∀ (s:Shared) (v:Value),BindsTo s fd ⟨[v],[]⟩ [("_law_script",v)])/\∀ base:Heap,K.In base->base.Ns mainGlobals mg->zG l.prog w K mg base zW 9 fa fd ["_law_script"] (wr K):=by
 have e:=hfa.symm.trans (W.mg_of X G a33)
 cases e
 have B:Bl mg:=⟨W.mg_none_of X G z0,W.mg_none_of X G z1,W.mg_none_of X G z2,W.mg_none_of X G z3,W.mg_none_of X G z4,W.mg_none_of X G z5,W.mg_none_of X G z6,W.mg_none_of X G z7,W.mg_none_of X G z8,W.mg_none_of X G z9,W.mg_none_of X G z10,⟨_,W.mg_of X G cst0⟩,⟨_,W.mg_of X G cst1⟩,⟨_,W.mg_of X G cst2⟩,⟨_,W.mg_of X G cst3⟩,⟨_,W.mg_of X G cst4⟩⟩
 have F0:=zr (st:=wz) l0 c0 k0
 have b0:=F0.binds (ps:=["thing"]) λ_ _ _ _ _ _ us hl=>by revert us; exact L2.yp (λ_=>rfl)
 have F1:=zr (st:=w4) l1 c1 k1
 have b1:=F1.binds (ps:=["numbers"]) λ_ _ _ _ _ _ us hl=>by revert us; exact L2.yp (λ_=>rfl)
 have F2:=zr (st:=w8) l2 c2 k2
 have b2:=F2.binds (ps:=["thing"]) λ_ _ _ _ _ _ us hl=>by revert us; exact L2.yp (λ_=>rfl)
 have F3:=Zt (st:=vA) l3 c3 k3 t3 rfl
 have b3:=F3.binds (ps:=["top","bottom"]) λ_ _ _ _ _ _ _ us hl=>by revert us; exact L2.yq (λ_ _=>⟨_,rfl,rfl⟩)
 have bd3:=F3.binds1 (ps:=["top","bottom"]) λ_ _ _ _ _ _ _ us hl=>match us,hl with | [_],_=>⟨_,rfl,rfl⟩
 have F4:=zr (st:=vB) l4 c4 k4
 have b4:=F4.binds (ps:=["words"]) λ_ _ _ _ _ _ us hl=>by revert us; exact L2.yp (λ_=>rfl)
 have F5:=zr (st:=vC) l5 c5 k5
 have b5:=F5.binds (ps:=["value"]) λ_ _ _ _ _ _ us hl=>by revert us; exact L2.yp (λ_=>rfl)
 have F6:=zr (st:=vD) l6 c6 k6
 have b6:=F6.binds (ps:=["room"]) λ_ _ _ _ _ _ us hl=>by revert us; exact L2.yp (λ_=>rfl)
 have F7:=zr (st:=vE) l7 c7 k7
 have b7:=F7.binds (ps:=["point"]) λ_ _ _ _ _ _ us hl=>by revert us; exact L2.yp (λ_=>rfl)
 have F8:=zr (st:=vF) l8 c8 k8
 have b8:=F8.binds (ps:=["step"]) λ_ _ _ _ _ _ us hl=>by revert us; exact L2.yp (λ_=>rfl)
 have F9:=zr (st:=vG) l9 c9 k9
 have b9:=F9.binds (ps:=["run"]) λ_ _ _ _ _ _ us hl=>by revert us; exact L2.yp (λ_=>rfl)
 have F10:=zr (st:=vI) l10 c10 k10
 have b10:=F10.binds (ps:=["text","separator"]) λ_ _ _ _ _ _ us hl=>by revert us; exact L2.yq (λ_ _=>rfl)
 have F11:=zr (st:=vJ) l11 c11 k11
 have b11:=F11.binds (ps:=["text"]) λ_ _ _ _ _ _ us hl=>by revert us; exact L2.yp (λ_=>rfl)
 have F12:=zr (st:=vK) l12 c12 k12
 have b12:=F12.binds (ps:=["text"]) λ_ _ _ _ _ _ us hl=>by revert us; exact L2.yp (λ_=>rfl)
 have F13:=zr (st:=vL) l13 c13 k13
 have b13:=F13.binds (ps:=["words","count"]) λ_ _ _ _ _ _ us hl=>by revert us; exact L2.yq (λ_ _=>rfl)
 have F14:=zr (st:=vM) l14 c14 k14
 have b14:=F14.binds (ps:=["text"]) λ_ _ _ _ _ _ us hl=>by revert us; exact L2.yp (λ_=>rfl)
 have F15:=zr (st:=vN) l15 c15 k15
 have b15:=F15.binds (ps:=["words","count"]) λ_ _ _ _ _ _ us hl=>by revert us; exact L2.yq (λ_ _=>rfl)
 have F16:=zr (st:=vO) l16 c16 k16
 have b16:=F16.binds (ps:=["text","many"]) λ_ _ _ _ _ _ us hl=>by revert us; exact L2.yq (λ_ _=>rfl)
 have F17:=zr (st:=wY) l17 c17 k17
 have b17:=F17.binds (ps:=["text","count"]) λ_ _ _ _ _ _ us hl=>by revert us; exact L2.yq (λ_ _=>rfl)
 have F18:=zr (st:=vP) l18 c18 k18
 have b18:=F18.binds (ps:=["text","many"]) λ_ _ _ _ _ _ us hl=>by revert us; exact L2.yq (λ_ _=>rfl)
 have F19:=zr (st:=vQ) l19 c19 k19
 have b19:=F19.binds (ps:=["words","wide"]) λ_ _ _ _ _ _ us hl=>by revert us; exact L2.yq (λ_ _=>rfl)
 have F20:=zr (st:=wZ) l20 c20 k20
 have b20:=F20.binds (ps:=["text","wide"]) λ_ _ _ _ _ _ us hl=>by revert us; exact L2.yq (λ_ _=>rfl)
 have F21:=zr (st:=vR) l21 c21 k21
 have b21:=F21.binds (ps:=["_law_script","_law_k"]) λ_ _ _ _ _ _ us hl=>by revert us; exact L2.yq (λ_ _=>rfl)
 have F22:=zr (st:=vS) l22 c22 k22
 have b22:=F22.binds (ps:=["_law_cell","_law_many"]) λ_ _ _ _ _ _ us hl=>by revert us; exact L2.yq (λ_ _=>rfl)
 have F23:=zr (st:=vT) l23 c23 k23
 have b23:=F23.binds (ps:=["_law_cell","_law_k","_law_many"]) λ_ _ _ _ _ _ us hl=>by revert us; exact L2.jW (λ_ _ _=>rfl)
 have F24:=zr (st:=x3) l24 c24 k24
 have b24:=F24.binds (ps:=["_law_number_here","_law_cell"]) λ_ _ _ _ _ _ us hl=>by revert us; exact L2.yq (λ_ _=>rfl)
 have F25:=zr (st:=vU) l25 c25 k25
 have b25:=F25.binds (ps:=["_law_one","_law_other"]) λ_ _ _ _ _ _ us hl=>by revert us; exact L2.yq (λ_ _=>rfl)
 have F26:=zr (st:=x4) l26 c26 k26
 have b26:=F26.binds (ps:=["_law_number_here","_law_other","_law_cell"]) λ_ _ _ _ _ _ us hl=>by revert us; exact L2.jW (λ_ _ _=>rfl)
 have F27:=zr (st:=vV) l27 c27 k27
 have b27:=F27.binds (ps:=["_law_value_here"]) λ_ _ _ _ _ _ us hl=>by revert us; exact L2.yp (λ_=>rfl)
 have F28:=zr (st:=vW) l28 c28 k28
 have b28:=F28.binds (ps:=["_law_found"]) λ_ _ _ _ _ _ us hl=>by revert us; exact L2.yp (λ_=>rfl)
 have F29:=zr (st:=wa) l29 c29 k29
 have b29:=F29.binds (ps:=["_law_script","_law_many","_law_cell"]) λ_ _ _ _ _ _ us hl=>by revert us; exact L2.jW (λ_ _ _=>rfl)
 have F30:=zr (st:=xl) l30 c30 k30
 have b30:=F30.binds (ps:=["_law_room_here","_law_many"]) λ_ _ _ _ _ _ us hl=>by revert us; exact L2.yq (λ_ _=>rfl)
 have F31:=zr (st:=wc) l31 c31 k31
 have b31:=F31.binds (ps:=["_law_script","_law_cell","_law_wide"]) λ_ _ _ _ _ _ us hl=>by revert us; exact L2.jW (λ_ _ _=>rfl)
 have F32:=zr (st:=vX) l32 c32 k32
 have b32:=F32.binds (ps:=["_law_run_here","_law_wide"]) λ_ _ _ _ _ _ us hl=>by revert us; exact L2.yq (λ_ _=>rfl)
 have F33:=zr (st:=xQ) l33 c33 k33
 have b33:=F33.binds (ps:=["_law_script"]) λ_ _ _ _ _ _ us hl=>by revert us; exact L2.yp (λ_=>rfl)
 refine ⟨W.fnOf "law" "law" (zZ xQ) (zX xQ) (zK xQ) .none kV33 dc33 pm33 an33 cd33 ct33,λs v=>.of_eq rfl,λbase _ _=>?_⟩
 have N0:Fn l.prog w K mg base "is_whole" ["thing"] 1 wt:=⟨_,_,Yo (k:=0) F0 B ,W.mg_of X G a0,k0,b0⟩
 have N1:Fn l.prog w K mg base "common_divisor" ["numbers"] 1 (jH K):=⟨_,_,Yp (k:=0) F1 B ,W.mg_of X G a1,k1,b1⟩
 have N2:Fn l.prog w K mg base "is_fraction" ["thing"] 2 qT:=⟨_,_,Yr (k:=1) F2 B N0.mono N1.mono,W.mg_of X G a2,k2,b2⟩
 have N3:xu l.prog w K mg base "fraction" ["top","bottom"] 2 qU (.int 1):=⟨_,_,_,Ys (k:=1) F3 B N0.mono N1.mono,W.mg_of X G a3,k3,b3,bd3,⟨_,rfl⟩⟩
 have N4:Fn l.prog w K mg base "show_words" ["words"] 1 (jI K):=⟨_,_,Yu (k:=0) F4 B ,W.mg_of X G a4,k4,b4⟩
 have N5:Fn l.prog w K mg base "show_fraction" ["value"] 1 xy:=⟨_,_,Yw (k:=0) F5 B ,W.mg_of X G a5,k5,b5⟩
 have N6:Fn l.prog w K mg base "show_room" ["room"] 2 (qV K):=⟨_,_,Yy (k:=1) F6 B N4.mono,W.mg_of X G a6,k6,b6⟩
 have N7:Fn l.prog w K mg base "show_point" ["point"] 2 (jJ K):=⟨_,_,Y0 (k:=1) F7 B N5.mono,W.mg_of X G a7,k7,b7⟩
 have N8:Fn l.prog w K mg base "show_step" ["step"] 3 qW:=⟨_,_,Y2 (k:=2) F8 B N4.mono N7.mono,W.mg_of X G a8,k8,b8⟩
 have N9:Fn l.prog w K mg base "show_run" ["run"] 4 (qX K):=⟨_,_,Y4 (k:=3) F9 B N8.mono,W.mg_of X G a9,k9,b9⟩
 have N10:Fn l.prog w K mg base "split_text" ["text","separator"] 1 vH:=⟨_,_,Y8 (k:=0) F10 B ,W.mg_of X G a10,k10,b10⟩
 have N11:Fn l.prog w K mg base "are_figures" ["text"] 1 qa:=⟨_,_,XA (k:=0) F11 B ,W.mg_of X G a11,k11,b11⟩
 have N12:Fn l.prog w K mg base "read_number" ["text"] 2 uR:=⟨_,_,XB (k:=1) F12 B N11.mono,W.mg_of X G a12,k12,b12⟩
 have N13:Fn l.prog w K mg base "read_numbers" ["words","count"] 3 (jM K):=⟨_,_,XD (k:=2) F13 B N12.mono,W.mg_of X G a13,k13,b13⟩
 have N14:Fn l.prog w K mg base "read_fraction" ["text"] 4 jN:=⟨_,_,XE (k:=3) F14 B N10.mono N3.mono N12.mono N13.mono N2.mono,W.mg_of X G a14,k14,b14⟩
 have N15:Fn l.prog w K mg base "read_fractions" ["words","count"] 5 (jO K):=⟨_,_,XG (k:=4) F15 B N14.mono,W.mg_of X G a15,k15,b15⟩
 have N16:Fn l.prog w K mg base "read_point" ["text","many"] 6 qd:=⟨_,_,XI (k:=5) F16 B N15.mono N10.mono,W.mg_of X G a16,k16,b16⟩
 have N17:Fn l.prog w K mg base "read_tuples" ["text","count"] 4 qb:=⟨_,_,XM (k:=3) F17 B N10.mono N13.mono,W.mg_of X G a17,k17,b17⟩
 have N18:Fn l.prog w K mg base "read_room" ["text","many"] 5 qc:=⟨_,_,XO (k:=4) F18 B N17.mono,W.mg_of X G a18,k18,b18⟩
 have N19:Fn l.prog w K mg base "read_step" ["words","wide"] 6 (qe K):=⟨_,_,XQ (k:=5) F19 B N15.mono N12.mono,W.mg_of X G a19,k19,b19⟩
 have N20:Fn l.prog w K mg base "read_run" ["text","wide"] 7 qf:=⟨_,_,XS (k:=6) F20 B N10.mono N19.mono,W.mg_of X G a20,k20,b20⟩
 have N21:Fn l.prog w K mg base "_law_cell_at" ["_law_script","_law_k"] 1 (wq K):=⟨_,_,XW (k:=0) F21 B ,W.mg_of X G a21,k21,b21⟩
 have N22:Fn l.prog w K mg base "_law_stream" ["_law_cell","_law_many"] 1 uC:=⟨_,_,XX (k:=0) F22 B ,W.mg_of X G a22,k22,b22⟩
 have N23:Fn l.prog w K mg base "_law_draws" ["_law_cell","_law_k","_law_many"] 2 jR:=⟨_,_,XZ (k:=1) F23 B N22.mono,W.mg_of X G a23,k23,b23⟩
 have N24:Fn l.prog w K mg base "_law_number" ["_law_number_here","_law_cell"] 1 uS:=⟨_,_,Xa (k:=0) F24 B ,W.mg_of X G a24,k24,b24⟩
 have N25:Fn l.prog w K mg base "_law_divisor" ["_law_one","_law_other"] 1 qh:=⟨_,_,Xb (k:=0) F25 B ,W.mg_of X G a25,k25,b25⟩
 have N26:Fn l.prog w K mg base "_law_value" ["_law_number_here","_law_other","_law_cell"] 2 jS:=⟨_,_,Xc (k:=1) F26 B N24.mono N25.mono,W.mg_of X G a26,k26,b26⟩
 have N27:Fn l.prog w K mg base "_law_text" ["_law_value_here"] 1 xy:=⟨_,_,Xe (k:=0) F27 B ,W.mg_of X G a27,k27,b27⟩
 have N28:Fn l.prog w K mg base "_law_plain" ["_law_found"] 1 wu:=⟨_,_,Xg (k:=0) F28 B ,W.mg_of X G a28,k28,b28⟩
 have N29:Fn l.prog w K mg base "_law_room" ["_law_script","_law_many","_law_cell"] 3 (qi K):=⟨_,_,Xh (k:=2) F29 B N21.mono N23.mono N24.mono,W.mg_of X G a29,k29,b29⟩
 have N30:Fn l.prog w K mg base "_law_rooms_right" ["_law_room_here","_law_many"] 6 qj:=⟨_,_,Xi (k:=5) F30 B N6.mono N18.mono,W.mg_of X G a30,k30,b30⟩
 have N31:Fn l.prog w K mg base "_law_run" ["_law_script","_law_cell","_law_wide"] 3 (qk K):=⟨_,_,Xm (k:=2) F31 B N21.mono N23.mono N26.mono N24.mono,W.mg_of X G a31,k31,b31⟩
 have N32:Fn l.prog w K mg base "_law_runs_right" ["_law_run_here","_law_wide"] 8 ql:=⟨_,_,Xn (k:=7) F32 B N27.mono N9.mono N20.mono N28.mono,W.mg_of X G a32,k32,b32⟩
 exact Xo (k:=8) F33 B N21.mono N22.mono N26.mono N14.mono N27.mono N5.mono N28.mono N7.mono N16.mono N32.mono N31.mono N30.mono N29.mono
theorem walk {l:PySem.W.OpenLaw} {q:Program} {loose:List Str} {XP:(Str->Option Value)->Heap->Prop} {YP:World->Heap->Prop} {d:DefRec} {K:Params->PySem.W.Frag} (hn:l.most=some 63) (hdf:d.params.defaults=[])
  (hY:∀ (w:World) (h:Heap),YP w h->(K w.params).In h)
  (F:∀ (w:World) (mg:Str->Option Value) (fa:Addr) (h:Heap),(K w.params).In h->h.Ns mainGlobals mg->mg d.name=some (.ref fa)->
   ∃ fd:FuncData,(∀ (s:Shared) (u:Value),BindsTo s fd ⟨[u],[]⟩ [("_law_script",u)])/\∀ base:Heap,(K w.params).In base->base.Ns mainGlobals mg->zG l.prog w (K w.params) mg base zW 9 fa fd ["_law_script"] (wr (K w.params))) :
  PySem.W.WalkO q loose XP YP l.row.toRowW d [] (λf vs=>PySem.call f vs):=
 L2.Zg (n:=63) (k:=9) (x:="_law_script") (CX:=λ_=>zW) (sp:=λw=>wr (K w.params)) hn (by decide) hdf ⟨rfl,by decide,by decide⟩ hY F (λ_ _ a ns hl _ hS=>⟨a,ns,rfl,hS,hl,λ_=>rfl⟩) λ_ _ _ _ _ z=>z
end K91
open PySem PySem.W PyProof.Rows
set_option maxRecDepth 100000 in
set_option maxHeartbeats 0 in
theorem PySem.Challenge.cw_steadyhand_k91_points_rooms_runs_as_text_holds : PySem.Challenge.rw_steadyhand_k91_points_rooms_runs_as_text.Holds := by
 w_on; o_law
 refine holds_open (q:=H91.vw) (loose:=H91.lo) (Xt:=H91.xt) (XP:=XL H91.vw []) (Yf:=(kHook H91.KK H91.ks H91.ke).obs) (Ya:=(kHook H91.KK H91.ks H91.ke).val) (YP:=(kHook H91.KK H91.ks H91.ke).says) H91.left
  (kHook H91.KK H91.ks H91.ke).of (kHook H91.KK H91.ks H91.ke).keeps
  (λs e=>xl_of s (Bool.and_eq_true_iff.mp e).1) XL.keeps (by rfl) (by rfl) (by rfl)
  (λs e=>recFacts_of (Bool.and_eq_true_iff.mp e).2) (by rfl) (by assumption) (by decide +kernel)
  ⟨rfl,rfl,rfl,rfl,rfl,by decide +kernel⟩ ?hw ?hc
 case hw=>w_witness2
 rename_i sd
 clear sd
 k_fill
 refine K91.walk (l:=PySem.Challenge.rw_steadyhand_k91_points_rooms_runs_as_text) rfl rfl (λw h Y=>PySem.W.kIn_of Y) ?F
 case F=>
  intro w mg fa h KX G hmg
  refine' K91.all_mk KX G hmg ?a0 ?l0 ?c0 ?k0 ?a1 ?l1 ?c1 ?k1 ?a2 ?l2 ?c2 ?k2 ?a3 ?l3 ?c3 ?k3 ?t3 ?a4 ?l4 ?c4 ?k4 ?a5 ?l5 ?c5 ?k5 ?a6 ?l6 ?c6 ?k6 ?a7 ?l7 ?c7 ?k7 ?a8 ?l8 ?c8 ?k8 ?a9 ?l9 ?c9 ?k9 ?a10 ?l10 ?c10 ?k10 ?a11 ?l11 ?c11 ?k11 ?a12 ?l12 ?c12 ?k12 ?a13 ?l13 ?c13 ?k13 ?a14 ?l14 ?c14 ?k14 ?a15 ?l15 ?c15 ?k15 ?a16 ?l16 ?c16 ?k16 ?a17 ?l17 ?c17 ?k17 ?a18 ?l18 ?c18 ?k18 ?a19 ?l19 ?c19 ?k19 ?a20 ?l20 ?c20 ?k20 ?a21 ?l21 ?c21 ?k21 ?a22 ?l22 ?c22 ?k22 ?a23 ?l23 ?c23 ?k23 ?a24 ?l24 ?c24 ?k24 ?a25 ?l25 ?c25 ?k25 ?a26 ?l26 ?c26 ?k26 ?a27 ?l27 ?c27 ?k27 ?a28 ?l28 ?c28 ?k28 ?a29 ?l29 ?c29 ?k29 ?a30 ?l30 ?c30 ?k30 ?a31 ?l31 ?c31 ?k31 ?a32 ?l32 ?c32 ?k32 ?a33 ?l33 ?c33 ?k33 ?z0 ?z1 ?z2 ?z3 ?z4 ?z5 ?z6 ?z7 ?z8 ?z9 ?z10 ?cst0 ?cst1 ?cst2 ?cst3 ?cst4
  (case a0|l0|c0|k0|a1|l1|c1|k1|a2|l2|c2|k2|a3|l3|c3|k3|t3|a4|l4|c4|k4|a5|l5|c5|k5|a6|l6|c6|k6|a7|l7|c7|k7|a8|l8|c8|k8|a9|l9|c9|k9|a10|l10|c10|k10|a11|l11|c11|k11|a12|l12|c12|k12|a13|l13|c13|k13|a14|l14|c14|k14|a15|l15|c15|k15|a16|l16|c16|k16|a17|l17|c17|k17|a18|l18|c18|k18|a19|l19|c19|k19|a20|l20|c20|k20|a21|l21|c21|k21|a22|l22|c22|k22|a23|l23|c23|k23|a24|l24|c24|k24|a25|l25|c25|k25|a26|l26|c26|k26|a27|l27|c27|k27|a28|l28|c28|k28|a29|l29|c29|k29|a30|l30|c30|k30|a31|l31|c31|k31|a32|l32|c32|k32|a33|l33|c33|k33|z0|z1|z2|z3|z4|z5|z6|z7|z8|z9|z10|cst0|cst1|cst2|cst3|cst4=>k_is)
#print axioms PySem.Challenge.cw_steadyhand_k91_points_rooms_runs_as_text_holds
