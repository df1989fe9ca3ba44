import PyProof.Rows.All
import Wide.All
import OpenK.AllK
import Wide.FinOn
import Lean
import PyProof.EqAt
import PyProof.EqKinds
import PyProof.TupleCall
import PyProof.NeKinds
import PyProof.FactsAll.list
import PyProof.ListMulRoad
import PyProof.FactsAll.tuple
import PyProof.Rows.TupAdd
import PyProof.Rows.SortRuns
import KE.KDictSum
import PyProof.Rows.SortWalk
import PyProof.StrOps2
import PyProof.WalkInts
import PyProof.StationsW
import PyProof.RulesAs
import OpenK.KOwn
import OpenK.KMake
import PyProof.ExcClass3
import PyProof.ExcInit
import PyProof.InstStoreFacts
import PyProof.ExcAttrAll.ValueError
import PyProof.NsDelKeeps
import KE.KTryMore
import KE.KIsAll
import OpenK.KCls
import PyProof.DictWalks
import PySem.Challenge.RW_papervault_k21_laid_and_told
set_option Elab.async false
set_option linter.all false
set_option maxRecDepth 100000
set_option maxHeartbeats 4000000
namespace L2
open PySem
def inClass (s : Stmt) (j : Nat) : Stmt := match s with
  | .ClassDef _ _ _ body _ _ _ _ _ _ _ => body.getD j (.Pass ⟨0, 0, 0, 0⟩)
  | _ => .Pass ⟨0, 0, 0, 0⟩
def defArgs (s : Stmt) : Arguments := match s with
  | .FunctionDef _ a _ _ _ _ _ _ _ _ => a
  | _ => { posonlyargs := [], args := [], vararg := none, kwonlyargs := [], kw_defaults := [], kwarg := none, defaults := [] }
def defBody (s : Stmt) : List Stmt := match s with
  | .FunctionDef _ _ b _ _ _ _ _ _ _ => b
  | _ => []
def defScope (s : Stmt) : Scope := match s with
  | .FunctionDef _ _ _ _ _ _ sc _ _ _ => sc
  | _ => { kind := .function, names := [], isGenerator := false, isCoroutine := false }
end L2
namespace Pv
open PySem
def top (i : Nat) : Stmt := PySem.Challenge.pw_papervault_k21_laid_and_told.main.body.getD i (.Pass ⟨0, 0, 0, 0⟩)
end Pv
namespace Pv
open PySem PySem.W
noncomputable def KK : Params → Frag := fun P =>
  List.cons (Prod.mk (nat_lit 2) (Obj.mk Value.none none (Data.dict #[]) #[])) (
  List.cons (Prod.mk (nat_lit 3) (Obj.mk (Value.type "dict") none (Data.dict #[DictEntry.mk (PyData.keyHash P (Str.ofString "__name__")) (Value.str (Str.ofString "__name__") 165) (Value.str (Str.ofString "law_papervault_k21_laid_and_told") 569), DictEntry.mk (PyData.keyHash P (Str.ofString "__doc__")) (Value.str (Str.ofString "__doc__") 166) Value.none, DictEntry.mk (PyData.keyHash P (Str.ofString "__package__")) (Value.str (Str.ofString "__package__") 167) Value.none, DictEntry.mk (PyData.keyHash P (Str.ofString "__loader__")) (Value.str (Str.ofString "__loader__") 168) (Value.builtin "__main__.__loader__#opaque"), DictEntry.mk (PyData.keyHash P (Str.ofString "__spec__")) (Value.str (Str.ofString "__spec__") 169) Value.none, DictEntry.mk (PyData.keyHash P (Str.ofString "__annotations__")) (Value.str (Str.ofString "__annotations__") 170) (Value.ref 6), DictEntry.mk (PyData.keyHash P (Str.ofString "__builtins__")) (Value.str (Str.ofString "__builtins__") 171) (Value.ref 4), DictEntry.mk (PyData.keyHash P (Str.ofString "__file__")) (Value.str (Str.ofString "__file__") 173) (Value.str (Str.ofString "/claim/cut.py") 172), DictEntry.mk (PyData.keyHash P (Str.ofString "__cached__")) (Value.str (Str.ofString "__cached__") 174) Value.none, DictEntry.mk (PyData.keyHash P (Str.ofString "VaultError")) (Value.str (Str.ofString "VaultError") 206) (Value.ref 24), DictEntry.mk (PyData.keyHash P (Str.ofString "NoThing")) (Value.str (Str.ofString "NoThing") 222) (Value.ref 37), DictEntry.mk (PyData.keyHash P (Str.ofString "NoPaper")) (Value.str (Str.ofString "NoPaper") 238) (Value.ref 49), DictEntry.mk (PyData.keyHash P (Str.ofString "BadThing")) (Value.str (Str.ofString "BadThing") 254) (Value.ref 61), DictEntry.mk (PyData.keyHash P (Str.ofString "Clash")) (Value.str (Str.ofString "Clash") 281) (Value.ref 80), DictEntry.mk (PyData.keyHash P (Str.ofString "NotOn")) (Value.str (Str.ofString "NotOn") 297) (Value.ref 92), DictEntry.mk (PyData.keyHash P (Str.ofString "NoState")) (Value.str (Str.ofString "NoState") 313) (Value.ref 104), DictEntry.mk (PyData.keyHash P (Str.ofString "NoName")) (Value.str (Str.ofString "NoName") 329) (Value.ref 116), DictEntry.mk (PyData.keyHash P (Str.ofString "NoTable")) (Value.str (Str.ofString "NoTable") 345) (Value.ref 128), DictEntry.mk (PyData.keyHash P (Str.ofString "NoColumn")) (Value.str (Str.ofString "NoColumn") 361) (Value.ref 140), DictEntry.mk (PyData.keyHash P (Str.ofString "NoRow")) (Value.str (Str.ofString "NoRow") 377) (Value.ref 152), DictEntry.mk (PyData.keyHash P (Str.ofString "NoQuestion")) (Value.str (Str.ofString "NoQuestion") 393) (Value.ref 164), DictEntry.mk (PyData.keyHash P (Str.ofString "NoPlan")) (Value.str (Str.ofString "NoPlan") 409) (Value.ref 176), DictEntry.mk (PyData.keyHash P (Str.ofString "NoStep")) (Value.str (Str.ofString "NoStep") 425) (Value.ref 188), DictEntry.mk (PyData.keyHash P (Str.ofString "NotSo")) (Value.str (Str.ofString "NotSo") 441) (Value.ref 200), DictEntry.mk (PyData.keyHash P (Str.ofString "NoCommand")) (Value.str (Str.ofString "NoCommand") 457) (Value.ref 212), DictEntry.mk (PyData.keyHash P (Str.ofString "seal")) (Value.str (Str.ofString "seal") 468) (Value.ref 221), DictEntry.mk (PyData.keyHash P (Str.ofString "codes")) (Value.str (Str.ofString "codes") 474) (Value.ref 226), DictEntry.mk (PyData.keyHash P (Str.ofString "number_of")) (Value.str (Str.ofString "number_of") 483) (Value.ref 233), DictEntry.mk (PyData.keyHash P (Str.ofString "rising")) (Value.str (Str.ofString "rising") 491) (Value.ref 238), DictEntry.mk (PyData.keyHash P (Str.ofString "Vault")) (Value.str (Str.ofString "Vault") 545) (Value.ref 276), DictEntry.mk (PyData.keyHash P (Str.ofString "Keeper")) (Value.str (Str.ofString "Keeper") 568) (Value.ref 297), DictEntry.mk (PyData.keyHash P (Str.ofString "_law_row")) (Value.str (Str.ofString "_law_row") 578) (Value.ref 306), DictEntry.mk (PyData.keyHash P (Str.ofString "_law_take")) (Value.str (Str.ofString "_law_take") 587) (Value.ref 313), DictEntry.mk (PyData.keyHash P (Str.ofString "_law_text")) (Value.str (Str.ofString "_law_text") 593) (Value.ref 318), DictEntry.mk (PyData.keyHash P (Str.ofString "_law_thing")) (Value.str (Str.ofString "_law_thing") 599) (Value.ref 323), DictEntry.mk (PyData.keyHash P (Str.ofString "_law_same")) (Value.str (Str.ofString "_law_same") 609) (Value.ref 330), DictEntry.mk (PyData.keyHash P (Str.ofString "_law_refused")) (Value.str (Str.ofString "_law_refused") 620) (Value.ref 337), DictEntry.mk (PyData.keyHash P (Str.ofString "_law_laid")) (Value.str (Str.ofString "_law_laid") 632) (Value.ref 344), DictEntry.mk (PyData.keyHash P (Str.ofString "_law_told")) (Value.str (Str.ofString "_law_told") 641) (Value.ref 351), DictEntry.mk (PyData.keyHash P (Str.ofString "_law_new")) (Value.str (Str.ofString "_law_new") 650) (Value.ref 358), DictEntry.mk (PyData.keyHash P (Str.ofString "_law_kept")) (Value.str (Str.ofString "_law_kept") 656) (Value.ref 363), DictEntry.mk (PyData.keyHash P (Str.ofString "law")) (Value.str (Str.ofString "law") 672) (Value.ref 370)] 42) #[])) (
  List.cons (Prod.mk (nat_lit 15) (Obj.mk (Value.type "tuple") none (Data.seq #[Value.type "ValueError"]) #[])) (
  List.cons (Prod.mk (nat_lit 22) (Obj.mk (Value.type "tuple") none (Data.seq #[]) #[])) (
  List.cons (Prod.mk (nat_lit 23) (Obj.mk (Value.type "dict") none (Data.dict #[DictEntry.mk (PyData.keyHash P (Str.ofString "__module__")) (Value.str (Str.ofString "__module__") 196) (Value.str (Str.ofString "papervault.errors") 187), DictEntry.mk (PyData.keyHash P (Str.ofString "__firstlineno__")) (Value.str (Str.ofString "__firstlineno__") 200) (Value.int 2 199), DictEntry.mk (PyData.keyHash P (Str.ofString "__static_attributes__")) (Value.str (Str.ofString "__static_attributes__") 201) (Value.ref 22), DictEntry.mk (PyData.keyHash P (Str.ofString "__weakref__")) (Value.str (Str.ofString "__weakref__") 203) (Value.ref 25), DictEntry.mk (PyData.keyHash P (Str.ofString "__doc__")) (Value.str (Str.ofString "__doc__") 204) Value.none] 3) #[])) (
  List.cons (Prod.mk (nat_lit 24) (Obj.mk (Value.type "type") none (Data.cls (ClassData.mk (Str.ofString "VaultError") [Value.type "ValueError"] [Value.ref 24, Value.type "ValueError", Value.type "Exception", Value.type "BaseException", Value.type "object"] 23 (Str.ofString "VaultError") true [] [Value.ref 37, Value.ref 49, Value.ref 61, Value.ref 80, Value.ref 92, Value.ref 104, Value.ref 116, Value.ref 128, Value.ref 140, Value.ref 152, Value.ref 164, Value.ref 176, Value.ref 188, Value.ref 200, Value.ref 212] false none false)) #[some (Value.ref 15), none, some (Value.str (Str.ofString "VaultError") 189), some (Value.str (Str.ofString "VaultError") 197), some (Value.builtin "ValueError.__new__"), some (Value.bool true)])) (
  List.cons (Prod.mk (nat_lit 25) (Obj.mk (Value.type "getset_descriptor") none (Data.fields #[Value.str (Str.ofString "__weakref__") 202, Value.ref 24, Value.builtin "ExceptionGroup.__weakref__", Value.none]) #[])) (
  List.cons (Prod.mk (nat_lit 28) (Obj.mk (Value.type "tuple") none (Data.seq #[Value.ref 24]) #[])) (
  List.cons (Prod.mk (nat_lit 35) (Obj.mk (Value.type "tuple") none (Data.seq #[]) #[])) (
  List.cons (Prod.mk (nat_lit 36) (Obj.mk (Value.type "dict") none (Data.dict #[DictEntry.mk (PyData.keyHash P (Str.ofString "__module__")) (Value.str (Str.ofString "__module__") 214) (Value.str (Str.ofString "papervault.errors") 187), DictEntry.mk (PyData.keyHash P (Str.ofString "__firstlineno__")) (Value.str (Str.ofString "__firstlineno__") 218) (Value.int 4 217), DictEntry.mk (PyData.keyHash P (Str.ofString "__static_attributes__")) (Value.str (Str.ofString "__static_attributes__") 219) (Value.ref 35), DictEntry.mk (PyData.keyHash P (Str.ofString "__doc__")) (Value.str (Str.ofString "__doc__") 220) Value.none] 2) #[])) (
  List.cons (Prod.mk (nat_lit 37) (Obj.mk (Value.type "type") none (Data.cls (ClassData.mk (Str.ofString "NoThing") [Value.ref 24] [Value.ref 37, Value.ref 24, Value.type "ValueError", Value.type "Exception", Value.type "BaseException", Value.type "object"] 36 (Str.ofString "NoThing") true [] [] false none false)) #[some (Value.ref 28), none, some (Value.str (Str.ofString "NoThing") 207), some (Value.str (Str.ofString "NoThing") 215), some (Value.builtin "ValueError.__new__"), some (Value.bool true)])) (
  List.cons (Prod.mk (nat_lit 40) (Obj.mk (Value.type "tuple") none (Data.seq #[Value.ref 24]) #[])) (
  List.cons (Prod.mk (nat_lit 47) (Obj.mk (Value.type "tuple") none (Data.seq #[]) #[])) (
  List.cons (Prod.mk (nat_lit 48) (Obj.mk (Value.type "dict") none (Data.dict #[DictEntry.mk (PyData.keyHash P (Str.ofString "__module__")) (Value.str (Str.ofString "__module__") 230) (Value.str (Str.ofString "papervault.errors") 187), DictEntry.mk (PyData.keyHash P (Str.ofString "__firstlineno__")) (Value.str (Str.ofString "__firstlineno__") 234) (Value.int 6 233), DictEntry.mk (PyData.keyHash P (Str.ofString "__static_attributes__")) (Value.str (Str.ofString "__static_attributes__") 235) (Value.ref 47), DictEntry.mk (PyData.keyHash P (Str.ofString "__doc__")) (Value.str (Str.ofString "__doc__") 236) Value.none] 2) #[])) (
  List.cons (Prod.mk (nat_lit 49) (Obj.mk (Value.type "type") none (Data.cls (ClassData.mk (Str.ofString "NoPaper") [Value.ref 24] [Value.ref 49, Value.ref 24, Value.type "ValueError", Value.type "Exception", Value.type "BaseException", Value.type "object"] 48 (Str.ofString "NoPaper") true [] [] false none false)) #[some (Value.ref 40), none, some (Value.str (Str.ofString "NoPaper") 223), some (Value.str (Str.ofString "NoPaper") 231), some (Value.builtin "ValueError.__new__"), some (Value.bool true)])) (
  List.cons (Prod.mk (nat_lit 52) (Obj.mk (Value.type "tuple") none (Data.seq #[Value.ref 24]) #[])) (
  List.cons (Prod.mk (nat_lit 59) (Obj.mk (Value.type "tuple") none (Data.seq #[]) #[])) (
  List.cons (Prod.mk (nat_lit 60) (Obj.mk (Value.type "dict") none (Data.dict #[DictEntry.mk (PyData.keyHash P (Str.ofString "__module__")) (Value.str (Str.ofString "__module__") 246) (Value.str (Str.ofString "papervault.errors") 187), DictEntry.mk (PyData.keyHash P (Str.ofString "__firstlineno__")) (Value.str (Str.ofString "__firstlineno__") 250) (Value.int 8 249), DictEntry.mk (PyData.keyHash P (Str.ofString "__static_attributes__")) (Value.str (Str.ofString "__static_attributes__") 251) (Value.ref 59), DictEntry.mk (PyData.keyHash P (Str.ofString "__doc__")) (Value.str (Str.ofString "__doc__") 252) Value.none] 2) #[])) (
  List.cons (Prod.mk (nat_lit 61) (Obj.mk (Value.type "type") none (Data.cls (ClassData.mk (Str.ofString "BadThing") [Value.ref 24] [Value.ref 61, Value.ref 24, Value.type "ValueError", Value.type "Exception", Value.type "BaseException", Value.type "object"] 60 (Str.ofString "BadThing") true [] [] false none false)) #[some (Value.ref 52), none, some (Value.str (Str.ofString "BadThing") 239), some (Value.str (Str.ofString "BadThing") 247), some (Value.builtin "ValueError.__new__"), some (Value.bool true)])) (
  List.cons (Prod.mk (nat_lit 64) (Obj.mk (Value.type "tuple") none (Data.seq #[Value.ref 24]) #[])) (
  List.cons (Prod.mk (nat_lit 71) (Obj.mk (Value.type "tuple") none (Data.seq #[]) #[])) (
  List.cons (Prod.mk (nat_lit 73) (Obj.mk (Value.type "tuple") none (Data.seq #[Value.str (Str.ofString "self") 270, Value.str (Str.ofString "one") 271, Value.str (Str.ofString "other") 272]) #[])) (
  List.cons (Prod.mk (nat_lit 74) (Obj.mk (Value.type "tuple") none (Data.seq #[]) #[])) (
  List.cons (Prod.mk (nat_lit 76) (Obj.mk (Value.type "code") none (Data.fields #[Value.str (Str.ofString "__init__") 267, Value.str (Str.ofString "Clash.__init__") 268, Value.str (Str.ofString "/claim/cut.py") 269, Value.int 12 0, Value.int 3 0, Value.int 0 0, Value.int 0 0, Value.int 3 0, Value.ref 71, Value.bool true, Value.int 181 0, Value.ref 72, Value.none, Value.ref 73, Value.ref 74, Value.ref 75, Value.int 273 0, Value.int 12 0, Value.str (Str.ofString "/claim/cut.py") 274]) #[])) (
  List.cons (Prod.mk (nat_lit 77) (Obj.mk (Value.type "function") (none) (Data.func (FuncData.mk (Str.ofString "__init__") (Str.ofString "Clash.__init__") (L2.defArgs (L2.inClass (Pv.top 5) 0)) (FuncBody.stmts (L2.defBody (L2.inClass (Pv.top 5) 0))) (L2.defScope (L2.inClass (Pv.top 5) 0)) (3) ([]) (Value.none) (Value.none) (Value.none) (Value.str (Str.ofString "papervault.errors") 187) (none) (Value.ref 76) (Value.none) (0))) (#[]))) (
  List.cons (Prod.mk (nat_lit 78) (Obj.mk (Value.type "tuple") none (Data.seq #[Value.str (Str.ofString "one") 276, Value.str (Str.ofString "other") 277]) #[])) (
  List.cons (Prod.mk (nat_lit 79) (Obj.mk (Value.type "dict") none (Data.dict #[DictEntry.mk (PyData.keyHash P (Str.ofString "__module__")) (Value.str (Str.ofString "__module__") 262) (Value.str (Str.ofString "papervault.errors") 187), DictEntry.mk (PyData.keyHash P (Str.ofString "__firstlineno__")) (Value.str (Str.ofString "__firstlineno__") 266) (Value.int 10 265), DictEntry.mk (PyData.keyHash P (Str.ofString "__init__")) (Value.str (Str.ofString "__init__") 275) (Value.ref 77), DictEntry.mk (PyData.keyHash P (Str.ofString "__static_attributes__")) (Value.str (Str.ofString "__static_attributes__") 278) (Value.ref 78), DictEntry.mk (PyData.keyHash P (Str.ofString "__doc__")) (Value.str (Str.ofString "__doc__") 279) Value.none] 2) #[])) (
  List.cons (Prod.mk (nat_lit 80) (Obj.mk (Value.type "type") none (Data.cls (ClassData.mk (Str.ofString "Clash") [Value.ref 24] [Value.ref 80, Value.ref 24, Value.type "ValueError", Value.type "Exception", Value.type "BaseException", Value.type "object"] 79 (Str.ofString "Clash") true [] [] false none false)) #[some (Value.ref 64), none, some (Value.str (Str.ofString "Clash") 255), some (Value.str (Str.ofString "Clash") 263), some (Value.builtin "ValueError.__new__"), some (Value.bool true)])) (
  List.cons (Prod.mk (nat_lit 83) (Obj.mk (Value.type "tuple") none (Data.seq #[Value.ref 24]) #[])) (
  List.cons (Prod.mk (nat_lit 90) (Obj.mk (Value.type "tuple") none (Data.seq #[]) #[])) (
  List.cons (Prod.mk (nat_lit 91) (Obj.mk (Value.type "dict") none (Data.dict #[DictEntry.mk (PyData.keyHash P (Str.ofString "__module__")) (Value.str (Str.ofString "__module__") 289) (Value.str (Str.ofString "papervault.errors") 187), DictEntry.mk (PyData.keyHash P (Str.ofString "__firstlineno__")) (Value.str (Str.ofString "__firstlineno__") 293) (Value.int 15 292), DictEntry.mk (PyData.keyHash P (Str.ofString "__static_attributes__")) (Value.str (Str.ofString "__static_attributes__") 294) (Value.ref 90), DictEntry.mk (PyData.keyHash P (Str.ofString "__doc__")) (Value.str (Str.ofString "__doc__") 295) Value.none] 2) #[])) (
  List.cons (Prod.mk (nat_lit 92) (Obj.mk (Value.type "type") none (Data.cls (ClassData.mk (Str.ofString "NotOn") [Value.ref 24] [Value.ref 92, Value.ref 24, Value.type "ValueError", Value.type "Exception", Value.type "BaseException", Value.type "object"] 91 (Str.ofString "NotOn") true [] [] false none false)) #[some (Value.ref 83), none, some (Value.str (Str.ofString "NotOn") 282), some (Value.str (Str.ofString "NotOn") 290), some (Value.builtin "ValueError.__new__"), some (Value.bool true)])) (
  List.cons (Prod.mk (nat_lit 95) (Obj.mk (Value.type "tuple") none (Data.seq #[Value.ref 24]) #[])) (
  List.cons (Prod.mk (nat_lit 102) (Obj.mk (Value.type "tuple") none (Data.seq #[]) #[])) (
  List.cons (Prod.mk (nat_lit 103) (Obj.mk (Value.type "dict") none (Data.dict #[DictEntry.mk (PyData.keyHash P (Str.ofString "__module__")) (Value.str (Str.ofString "__module__") 305) (Value.str (Str.ofString "papervault.errors") 187), DictEntry.mk (PyData.keyHash P (Str.ofString "__firstlineno__")) (Value.str (Str.ofString "__firstlineno__") 309) (Value.int 17 308), DictEntry.mk (PyData.keyHash P (Str.ofString "__static_attributes__")) (Value.str (Str.ofString "__static_attributes__") 310) (Value.ref 102), DictEntry.mk (PyData.keyHash P (Str.ofString "__doc__")) (Value.str (Str.ofString "__doc__") 311) Value.none] 2) #[])) (
  List.cons (Prod.mk (nat_lit 104) (Obj.mk (Value.type "type") none (Data.cls (ClassData.mk (Str.ofString "NoState") [Value.ref 24] [Value.ref 104, Value.ref 24, Value.type "ValueError", Value.type "Exception", Value.type "BaseException", Value.type "object"] 103 (Str.ofString "NoState") true [] [] false none false)) #[some (Value.ref 95), none, some (Value.str (Str.ofString "NoState") 298), some (Value.str (Str.ofString "NoState") 306), some (Value.builtin "ValueError.__new__"), some (Value.bool true)])) (
  List.cons (Prod.mk (nat_lit 107) (Obj.mk (Value.type "tuple") none (Data.seq #[Value.ref 24]) #[])) (
  List.cons (Prod.mk (nat_lit 114) (Obj.mk (Value.type "tuple") none (Data.seq #[]) #[])) (
  List.cons (Prod.mk (nat_lit 115) (Obj.mk (Value.type "dict") none (Data.dict #[DictEntry.mk (PyData.keyHash P (Str.ofString "__module__")) (Value.str (Str.ofString "__module__") 321) (Value.str (Str.ofString "papervault.errors") 187), DictEntry.mk (PyData.keyHash P (Str.ofString "__firstlineno__")) (Value.str (Str.ofString "__firstlineno__") 325) (Value.int 19 324), DictEntry.mk (PyData.keyHash P (Str.ofString "__static_attributes__")) (Value.str (Str.ofString "__static_attributes__") 326) (Value.ref 114), DictEntry.mk (PyData.keyHash P (Str.ofString "__doc__")) (Value.str (Str.ofString "__doc__") 327) Value.none] 2) #[])) (
  List.cons (Prod.mk (nat_lit 116) (Obj.mk (Value.type "type") none (Data.cls (ClassData.mk (Str.ofString "NoName") [Value.ref 24] [Value.ref 116, Value.ref 24, Value.type "ValueError", Value.type "Exception", Value.type "BaseException", Value.type "object"] 115 (Str.ofString "NoName") true [] [] false none false)) #[some (Value.ref 107), none, some (Value.str (Str.ofString "NoName") 314), some (Value.str (Str.ofString "NoName") 322), some (Value.builtin "ValueError.__new__"), some (Value.bool true)])) (
  List.cons (Prod.mk (nat_lit 119) (Obj.mk (Value.type "tuple") none (Data.seq #[Value.ref 24]) #[])) (
  List.cons (Prod.mk (nat_lit 126) (Obj.mk (Value.type "tuple") none (Data.seq #[]) #[])) (
  List.cons (Prod.mk (nat_lit 127) (Obj.mk (Value.type "dict") none (Data.dict #[DictEntry.mk (PyData.keyHash P (Str.ofString "__module__")) (Value.str (Str.ofString "__module__") 337) (Value.str (Str.ofString "papervault.errors") 187), DictEntry.mk (PyData.keyHash P (Str.ofString "__firstlineno__")) (Value.str (Str.ofString "__firstlineno__") 341) (Value.int 21 340), DictEntry.mk (PyData.keyHash P (Str.ofString "__static_attributes__")) (Value.str (Str.ofString "__static_attributes__") 342) (Value.ref 126), DictEntry.mk (PyData.keyHash P (Str.ofString "__doc__")) (Value.str (Str.ofString "__doc__") 343) Value.none] 2) #[])) (
  List.cons (Prod.mk (nat_lit 128) (Obj.mk (Value.type "type") none (Data.cls (ClassData.mk (Str.ofString "NoTable") [Value.ref 24] [Value.ref 128, Value.ref 24, Value.type "ValueError", Value.type "Exception", Value.type "BaseException", Value.type "object"] 127 (Str.ofString "NoTable") true [] [] false none false)) #[some (Value.ref 119), none, some (Value.str (Str.ofString "NoTable") 330), some (Value.str (Str.ofString "NoTable") 338), some (Value.builtin "ValueError.__new__"), some (Value.bool true)])) (
  List.cons (Prod.mk (nat_lit 131) (Obj.mk (Value.type "tuple") none (Data.seq #[Value.ref 24]) #[])) (
  List.cons (Prod.mk (nat_lit 138) (Obj.mk (Value.type "tuple") none (Data.seq #[]) #[])) (
  List.cons (Prod.mk (nat_lit 139) (Obj.mk (Value.type "dict") none (Data.dict #[DictEntry.mk (PyData.keyHash P (Str.ofString "__module__")) (Value.str (Str.ofString "__module__") 353) (Value.str (Str.ofString "papervault.errors") 187), DictEntry.mk (PyData.keyHash P (Str.ofString "__firstlineno__")) (Value.str (Str.ofString "__firstlineno__") 357) (Value.int 23 356), DictEntry.mk (PyData.keyHash P (Str.ofString "__static_attributes__")) (Value.str (Str.ofString "__static_attributes__") 358) (Value.ref 138), DictEntry.mk (PyData.keyHash P (Str.ofString "__doc__")) (Value.str (Str.ofString "__doc__") 359) Value.none] 2) #[])) (
  List.cons (Prod.mk (nat_lit 140) (Obj.mk (Value.type "type") none (Data.cls (ClassData.mk (Str.ofString "NoColumn") [Value.ref 24] [Value.ref 140, Value.ref 24, Value.type "ValueError", Value.type "Exception", Value.type "BaseException", Value.type "object"] 139 (Str.ofString "NoColumn") true [] [] false none false)) #[some (Value.ref 131), none, some (Value.str (Str.ofString "NoColumn") 346), some (Value.str (Str.ofString "NoColumn") 354), some (Value.builtin "ValueError.__new__"), some (Value.bool true)])) (
  List.cons (Prod.mk (nat_lit 143) (Obj.mk (Value.type "tuple") none (Data.seq #[Value.ref 24]) #[])) (
  List.cons (Prod.mk (nat_lit 150) (Obj.mk (Value.type "tuple") none (Data.seq #[]) #[])) (
  List.cons (Prod.mk (nat_lit 151) (Obj.mk (Value.type "dict") none (Data.dict #[DictEntry.mk (PyData.keyHash P (Str.ofString "__module__")) (Value.str (Str.ofString "__module__") 369) (Value.str (Str.ofString "papervault.errors") 187), DictEntry.mk (PyData.keyHash P (Str.ofString "__firstlineno__")) (Value.str (Str.ofString "__firstlineno__") 373) (Value.int 25 372), DictEntry.mk (PyData.keyHash P (Str.ofString "__static_attributes__")) (Value.str (Str.ofString "__static_attributes__") 374) (Value.ref 150), DictEntry.mk (PyData.keyHash P (Str.ofString "__doc__")) (Value.str (Str.ofString "__doc__") 375) Value.none] 2) #[])) (
  List.cons (Prod.mk (nat_lit 152) (Obj.mk (Value.type "type") none (Data.cls (ClassData.mk (Str.ofString "NoRow") [Value.ref 24] [Value.ref 152, Value.ref 24, Value.type "ValueError", Value.type "Exception", Value.type "BaseException", Value.type "object"] 151 (Str.ofString "NoRow") true [] [] false none false)) #[some (Value.ref 143), none, some (Value.str (Str.ofString "NoRow") 362), some (Value.str (Str.ofString "NoRow") 370), some (Value.builtin "ValueError.__new__"), some (Value.bool true)])) (
  List.cons (Prod.mk (nat_lit 155) (Obj.mk (Value.type "tuple") none (Data.seq #[Value.ref 24]) #[])) (
  List.cons (Prod.mk (nat_lit 162) (Obj.mk (Value.type "tuple") none (Data.seq #[]) #[])) (
  List.cons (Prod.mk (nat_lit 163) (Obj.mk (Value.type "dict") none (Data.dict #[DictEntry.mk (PyData.keyHash P (Str.ofString "__module__")) (Value.str (Str.ofString "__module__") 385) (Value.str (Str.ofString "papervault.errors") 187), DictEntry.mk (PyData.keyHash P (Str.ofString "__firstlineno__")) (Value.str (Str.ofString "__firstlineno__") 389) (Value.int 27 388), DictEntry.mk (PyData.keyHash P (Str.ofString "__static_attributes__")) (Value.str (Str.ofString "__static_attributes__") 390) (Value.ref 162), DictEntry.mk (PyData.keyHash P (Str.ofString "__doc__")) (Value.str (Str.ofString "__doc__") 391) Value.none] 2) #[])) (
  List.cons (Prod.mk (nat_lit 164) (Obj.mk (Value.type "type") none (Data.cls (ClassData.mk (Str.ofString "NoQuestion") [Value.ref 24] [Value.ref 164, Value.ref 24, Value.type "ValueError", Value.type "Exception", Value.type "BaseException", Value.type "object"] 163 (Str.ofString "NoQuestion") true [] [] false none false)) #[some (Value.ref 155), none, some (Value.str (Str.ofString "NoQuestion") 378), some (Value.str (Str.ofString "NoQuestion") 386), some (Value.builtin "ValueError.__new__"), some (Value.bool true)])) (
  List.cons (Prod.mk (nat_lit 167) (Obj.mk (Value.type "tuple") none (Data.seq #[Value.ref 24]) #[])) (
  List.cons (Prod.mk (nat_lit 174) (Obj.mk (Value.type "tuple") none (Data.seq #[]) #[])) (
  List.cons (Prod.mk (nat_lit 175) (Obj.mk (Value.type "dict") none (Data.dict #[DictEntry.mk (PyData.keyHash P (Str.ofString "__module__")) (Value.str (Str.ofString "__module__") 401) (Value.str (Str.ofString "papervault.errors") 187), DictEntry.mk (PyData.keyHash P (Str.ofString "__firstlineno__")) (Value.str (Str.ofString "__firstlineno__") 405) (Value.int 29 404), DictEntry.mk (PyData.keyHash P (Str.ofString "__static_attributes__")) (Value.str (Str.ofString "__static_attributes__") 406) (Value.ref 174), DictEntry.mk (PyData.keyHash P (Str.ofString "__doc__")) (Value.str (Str.ofString "__doc__") 407) Value.none] 2) #[])) (
  List.cons (Prod.mk (nat_lit 176) (Obj.mk (Value.type "type") none (Data.cls (ClassData.mk (Str.ofString "NoPlan") [Value.ref 24] [Value.ref 176, Value.ref 24, Value.type "ValueError", Value.type "Exception", Value.type "BaseException", Value.type "object"] 175 (Str.ofString "NoPlan") true [] [] false none false)) #[some (Value.ref 167), none, some (Value.str (Str.ofString "NoPlan") 394), some (Value.str (Str.ofString "NoPlan") 402), some (Value.builtin "ValueError.__new__"), some (Value.bool true)])) (
  List.cons (Prod.mk (nat_lit 179) (Obj.mk (Value.type "tuple") none (Data.seq #[Value.ref 24]) #[])) (
  List.cons (Prod.mk (nat_lit 186) (Obj.mk (Value.type "tuple") none (Data.seq #[]) #[])) (
  List.cons (Prod.mk (nat_lit 187) (Obj.mk (Value.type "dict") none (Data.dict #[DictEntry.mk (PyData.keyHash P (Str.ofString "__module__")) (Value.str (Str.ofString "__module__") 417) (Value.str (Str.ofString "papervault.errors") 187), DictEntry.mk (PyData.keyHash P (Str.ofString "__firstlineno__")) (Value.str (Str.ofString "__firstlineno__") 421) (Value.int 31 420), DictEntry.mk (PyData.keyHash P (Str.ofString "__static_attributes__")) (Value.str (Str.ofString "__static_attributes__") 422) (Value.ref 186), DictEntry.mk (PyData.keyHash P (Str.ofString "__doc__")) (Value.str (Str.ofString "__doc__") 423) Value.none] 2) #[])) (
  List.cons (Prod.mk (nat_lit 188) (Obj.mk (Value.type "type") none (Data.cls (ClassData.mk (Str.ofString "NoStep") [Value.ref 24] [Value.ref 188, Value.ref 24, Value.type "ValueError", Value.type "Exception", Value.type "BaseException", Value.type "object"] 187 (Str.ofString "NoStep") true [] [] false none false)) #[some (Value.ref 179), none, some (Value.str (Str.ofString "NoStep") 410), some (Value.str (Str.ofString "NoStep") 418), some (Value.builtin "ValueError.__new__"), some (Value.bool true)])) (
  List.cons (Prod.mk (nat_lit 191) (Obj.mk (Value.type "tuple") none (Data.seq #[Value.ref 24]) #[])) (
  List.cons (Prod.mk (nat_lit 198) (Obj.mk (Value.type "tuple") none (Data.seq #[]) #[])) (
  List.cons (Prod.mk (nat_lit 199) (Obj.mk (Value.type "dict") none (Data.dict #[DictEntry.mk (PyData.keyHash P (Str.ofString "__module__")) (Value.str (Str.ofString "__module__") 433) (Value.str (Str.ofString "papervault.errors") 187), DictEntry.mk (PyData.keyHash P (Str.ofString "__firstlineno__")) (Value.str (Str.ofString "__firstlineno__") 437) (Value.int 33 436), DictEntry.mk (PyData.keyHash P (Str.ofString "__static_attributes__")) (Value.str (Str.ofString "__static_attributes__") 438) (Value.ref 198), DictEntry.mk (PyData.keyHash P (Str.ofString "__doc__")) (Value.str (Str.ofString "__doc__") 439) Value.none] 2) #[])) (
  List.cons (Prod.mk (nat_lit 200) (Obj.mk (Value.type "type") none (Data.cls (ClassData.mk (Str.ofString "NotSo") [Value.ref 24] [Value.ref 200, Value.ref 24, Value.type "ValueError", Value.type "Exception", Value.type "BaseException", Value.type "object"] 199 (Str.ofString "NotSo") true [] [] false none false)) #[some (Value.ref 191), none, some (Value.str (Str.ofString "NotSo") 426), some (Value.str (Str.ofString "NotSo") 434), some (Value.builtin "ValueError.__new__"), some (Value.bool true)])) (
  List.cons (Prod.mk (nat_lit 203) (Obj.mk (Value.type "tuple") none (Data.seq #[Value.ref 24]) #[])) (
  List.cons (Prod.mk (nat_lit 210) (Obj.mk (Value.type "tuple") none (Data.seq #[]) #[])) (
  List.cons (Prod.mk (nat_lit 211) (Obj.mk (Value.type "dict") none (Data.dict #[DictEntry.mk (PyData.keyHash P (Str.ofString "__module__")) (Value.str (Str.ofString "__module__") 449) (Value.str (Str.ofString "papervault.errors") 187), DictEntry.mk (PyData.keyHash P (Str.ofString "__firstlineno__")) (Value.str (Str.ofString "__firstlineno__") 453) (Value.int 35 452), DictEntry.mk (PyData.keyHash P (Str.ofString "__static_attributes__")) (Value.str (Str.ofString "__static_attributes__") 454) (Value.ref 210), DictEntry.mk (PyData.keyHash P (Str.ofString "__doc__")) (Value.str (Str.ofString "__doc__") 455) Value.none] 2) #[])) (
  List.cons (Prod.mk (nat_lit 212) (Obj.mk (Value.type "type") none (Data.cls (ClassData.mk (Str.ofString "NoCommand") [Value.ref 24] [Value.ref 212, Value.ref 24, Value.type "ValueError", Value.type "Exception", Value.type "BaseException", Value.type "object"] 211 (Str.ofString "NoCommand") true [] [] false none false)) #[some (Value.ref 203), none, some (Value.str (Str.ofString "NoCommand") 442), some (Value.str (Str.ofString "NoCommand") 450), some (Value.builtin "ValueError.__new__"), some (Value.bool true)])) (
  List.cons (Prod.mk (nat_lit 215) (Obj.mk (Value.type "tuple") none (Data.seq #[]) #[])) (
  List.cons (Prod.mk (nat_lit 217) (Obj.mk (Value.type "tuple") none (Data.seq #[Value.str (Str.ofString "thing") 463, Value.str (Str.ofString "folded") 464, Value.str (Str.ofString "code") 465]) #[])) (
  List.cons (Prod.mk (nat_lit 218) (Obj.mk (Value.type "tuple") none (Data.seq #[]) #[])) (
  List.cons (Prod.mk (nat_lit 220) (Obj.mk (Value.type "code") none (Data.fields #[Value.str (Str.ofString "seal") 460, Value.str (Str.ofString "seal") 461, Value.str (Str.ofString "/claim/cut.py") 462, Value.int 38 0, Value.int 1 0, Value.int 0 0, Value.int 0 0, Value.int 3 0, Value.ref 215, Value.bool true, Value.int 181 0, Value.ref 216, Value.none, Value.ref 217, Value.ref 218, Value.ref 219, Value.int 466 0, Value.int 38 0, Value.str (Str.ofString "/claim/cut.py") 467]) #[])) (
  List.cons (Prod.mk (nat_lit 221) (Obj.mk (Value.type "function") (none) (Data.func (FuncData.mk (Str.ofString "seal") (Str.ofString "seal") (L2.defArgs (Pv.top 18)) (FuncBody.stmts (L2.defBody (Pv.top 18))) (L2.defScope (Pv.top 18)) (3) ([]) (Value.none) (Value.none) (Value.none) (Value.str (Str.ofString "papervault.seals") 458) (none) (Value.ref 220) (Value.none) (0))) (#[]))) (
  List.cons (Prod.mk (nat_lit 222) (Obj.mk (Value.type "tuple") none (Data.seq #[]) #[])) (
  List.cons (Prod.mk (nat_lit 225) (Obj.mk (Value.type "code") none (Data.fields #[Value.str (Str.ofString "codes") 469, Value.str (Str.ofString "codes") 470, Value.str (Str.ofString "/claim/cut.py") 471, Value.int 43 0, Value.int 1 0, Value.int 0 0, Value.int 0 0, Value.int 3 0, Value.ref 222, Value.bool true, Value.int 181 0, Value.ref 223, Value.none, Value.none, Value.none, Value.ref 224, Value.int 472 0, Value.int 43 0, Value.str (Str.ofString "/claim/cut.py") 473]) #[])) (
  List.cons (Prod.mk (nat_lit 226) (Obj.mk (Value.type "function") (none) (Data.func (FuncData.mk (Str.ofString "codes") (Str.ofString "codes") (L2.defArgs (Pv.top 19)) (FuncBody.stmts (L2.defBody (Pv.top 19))) (L2.defScope (Pv.top 19)) (3) ([]) (Value.none) (Value.none) (Value.none) (Value.str (Str.ofString "papervault.seals") 458) (none) (Value.ref 225) (Value.none) (0))) (#[]))) (
  List.cons (Prod.mk (nat_lit 227) (Obj.mk (Value.type "tuple") none (Data.seq #[]) #[])) (
  List.cons (Prod.mk (nat_lit 229) (Obj.mk (Value.type "tuple") none (Data.seq #[Value.str (Str.ofString "signs") 478, Value.str (Str.ofString "number") 479, Value.str (Str.ofString "sign") 480]) #[])) (
  List.cons (Prod.mk (nat_lit 230) (Obj.mk (Value.type "tuple") none (Data.seq #[]) #[])) (
  List.cons (Prod.mk (nat_lit 232) (Obj.mk (Value.type "code") none (Data.fields #[Value.str (Str.ofString "number_of") 475, Value.str (Str.ofString "number_of") 476, Value.str (Str.ofString "/claim/cut.py") 477, Value.int 56 0, Value.int 1 0, Value.int 0 0, Value.int 0 0, Value.int 3 0, Value.ref 227, Value.bool true, Value.int 181 0, Value.ref 228, Value.none, Value.ref 229, Value.ref 230, Value.ref 231, Value.int 481 0, Value.int 56 0, Value.str (Str.ofString "/claim/cut.py") 482]) #[])) (
  List.cons (Prod.mk (nat_lit 233) (Obj.mk (Value.type "function") (none) (Data.func (FuncData.mk (Str.ofString "number_of") (Str.ofString "number_of") (L2.defArgs (Pv.top 20)) (FuncBody.stmts (L2.defBody (Pv.top 20))) (L2.defScope (Pv.top 20)) (3) ([]) (Value.none) (Value.none) (Value.none) (Value.str (Str.ofString "papervault.seals") 458) (none) (Value.ref 232) (Value.none) (0))) (#[]))) (
  List.cons (Prod.mk (nat_lit 234) (Obj.mk (Value.type "tuple") none (Data.seq #[]) #[])) (
  List.cons (Prod.mk (nat_lit 237) (Obj.mk (Value.type "code") none (Data.fields #[Value.str (Str.ofString "rising") 486, Value.str (Str.ofString "rising") 487, Value.str (Str.ofString "/claim/cut.py") 488, Value.int 62 0, Value.int 1 0, Value.int 0 0, Value.int 0 0, Value.int 3 0, Value.ref 234, Value.bool true, Value.int 181 0, Value.ref 235, Value.none, Value.none, Value.none, Value.ref 236, Value.int 489 0, Value.int 62 0, Value.str (Str.ofString "/claim/cut.py") 490]) #[])) (
  List.cons (Prod.mk (nat_lit 238) (Obj.mk (Value.type "function") (none) (Data.func (FuncData.mk (Str.ofString "rising") (Str.ofString "rising") (L2.defArgs (Pv.top 22)) (FuncBody.stmts (L2.defBody (Pv.top 22))) (L2.defScope (Pv.top 22)) (3) ([]) (Value.none) (Value.none) (Value.none) (Value.str (Str.ofString "papervault.vaults") 484) (none) (Value.ref 237) (Value.none) (0))) (#[]))) (
  List.cons (Prod.mk (nat_lit 246) (Obj.mk (Value.type "tuple") none (Data.seq #[]) #[])) (
  List.cons (Prod.mk (nat_lit 248) (Obj.mk (Value.type "tuple") none (Data.seq #[Value.str (Str.ofString "self") 507]) #[])) (
  List.cons (Prod.mk (nat_lit 249) (Obj.mk (Value.type "tuple") none (Data.seq #[]) #[])) (
  List.cons (Prod.mk (nat_lit 251) (Obj.mk (Value.type "code") none (Data.fields #[Value.str (Str.ofString "__init__") 504, Value.str (Str.ofString "Vault.__init__") 505, Value.str (Str.ofString "/claim/cut.py") 506, Value.int 66 0, Value.int 1 0, Value.int 0 0, Value.int 0 0, Value.int 3 0, Value.ref 246, Value.bool true, Value.int 181 0, Value.ref 247, Value.none, Value.ref 248, Value.ref 249, Value.ref 250, Value.int 508 0, Value.int 66 0, Value.str (Str.ofString "/claim/cut.py") 509]) #[])) (
  List.cons (Prod.mk (nat_lit 252) (Obj.mk (Value.type "function") (none) (Data.func (FuncData.mk (Str.ofString "__init__") (Str.ofString "Vault.__init__") (L2.defArgs (L2.inClass (Pv.top 23) 0)) (FuncBody.stmts (L2.defBody (L2.inClass (Pv.top 23) 0))) (L2.defScope (L2.inClass (Pv.top 23) 0)) (3) ([]) (Value.none) (Value.none) (Value.none) (Value.str (Str.ofString "papervault.vaults") 484) (none) (Value.ref 251) (Value.none) (0))) (#[]))) (
  List.cons (Prod.mk (nat_lit 253) (Obj.mk (Value.type "tuple") none (Data.seq #[]) #[])) (
  List.cons (Prod.mk (nat_lit 255) (Obj.mk (Value.type "tuple") none (Data.seq #[Value.str (Str.ofString "self") 514, Value.str (Str.ofString "number") 515, Value.str (Str.ofString "thing") 516]) #[])) (
  List.cons (Prod.mk (nat_lit 256) (Obj.mk (Value.type "tuple") none (Data.seq #[]) #[])) (
  List.cons (Prod.mk (nat_lit 258) (Obj.mk (Value.type "code") none (Data.fields #[Value.str (Str.ofString "refuse_clash") 511, Value.str (Str.ofString "Vault.refuse_clash") 512, Value.str (Str.ofString "/claim/cut.py") 513, Value.int 69 0, Value.int 3 0, Value.int 0 0, Value.int 0 0, Value.int 3 0, Value.ref 253, Value.bool true, Value.int 181 0, Value.ref 254, Value.none, Value.ref 255, Value.ref 256, Value.ref 257, Value.int 517 0, Value.int 69 0, Value.str (Str.ofString "/claim/cut.py") 518]) #[])) (
  List.cons (Prod.mk (nat_lit 259) (Obj.mk (Value.type "function") (none) (Data.func (FuncData.mk (Str.ofString "refuse_clash") (Str.ofString "Vault.refuse_clash") (L2.defArgs (L2.inClass (Pv.top 23) 1)) (FuncBody.stmts (L2.defBody (L2.inClass (Pv.top 23) 1))) (L2.defScope (L2.inClass (Pv.top 23) 1)) (3) ([]) (Value.none) (Value.none) (Value.none) (Value.str (Str.ofString "papervault.vaults") 484) (none) (Value.ref 258) (Value.none) (0))) (#[]))) (
  List.cons (Prod.mk (nat_lit 260) (Obj.mk (Value.type "tuple") none (Data.seq #[]) #[])) (
  List.cons (Prod.mk (nat_lit 262) (Obj.mk (Value.type "tuple") none (Data.seq #[Value.str (Str.ofString "self") 523, Value.str (Str.ofString "thing") 524, Value.str (Str.ofString "number") 525]) #[])) (
  List.cons (Prod.mk (nat_lit 263) (Obj.mk (Value.type "tuple") none (Data.seq #[]) #[])) (
  List.cons (Prod.mk (nat_lit 265) (Obj.mk (Value.type "code") none (Data.fields #[Value.str (Str.ofString "lay") 520, Value.str (Str.ofString "Vault.lay") 521, Value.str (Str.ofString "/claim/cut.py") 522, Value.int 73 0, Value.int 2 0, Value.int 0 0, Value.int 0 0, Value.int 3 0, Value.ref 260, Value.bool true, Value.int 181 0, Value.ref 261, Value.none, Value.ref 262, Value.ref 263, Value.ref 264, Value.int 526 0, Value.int 73 0, Value.str (Str.ofString "/claim/cut.py") 527]) #[])) (
  List.cons (Prod.mk (nat_lit 266) (Obj.mk (Value.type "function") (none) (Data.func (FuncData.mk (Str.ofString "lay") (Str.ofString "Vault.lay") (L2.defArgs (L2.inClass (Pv.top 23) 2)) (FuncBody.stmts (L2.defBody (L2.inClass (Pv.top 23) 2))) (L2.defScope (L2.inClass (Pv.top 23) 2)) (3) ([]) (Value.none) (Value.none) (Value.none) (Value.str (Str.ofString "papervault.vaults") 484) (none) (Value.ref 265) (Value.none) (0))) (#[]))) (
  List.cons (Prod.mk (nat_lit 267) (Obj.mk (Value.type "tuple") none (Data.seq #[]) #[])) (
  List.cons (Prod.mk (nat_lit 269) (Obj.mk (Value.type "tuple") none (Data.seq #[Value.str (Str.ofString "self") 532, Value.str (Str.ofString "number") 533]) #[])) (
  List.cons (Prod.mk (nat_lit 270) (Obj.mk (Value.type "tuple") none (Data.seq #[]) #[])) (
  List.cons (Prod.mk (nat_lit 272) (Obj.mk (Value.type "code") none (Data.fields #[Value.str (Str.ofString "thing") 529, Value.str (Str.ofString "Vault.thing") 530, Value.str (Str.ofString "/claim/cut.py") 531, Value.int 79 0, Value.int 2 0, Value.int 0 0, Value.int 0 0, Value.int 3 0, Value.ref 267, Value.bool true, Value.int 181 0, Value.ref 268, Value.none, Value.ref 269, Value.ref 270, Value.ref 271, Value.int 534 0, Value.int 79 0, Value.str (Str.ofString "/claim/cut.py") 535]) #[])) (
  List.cons (Prod.mk (nat_lit 273) (Obj.mk (Value.type "function") (none) (Data.func (FuncData.mk (Str.ofString "thing") (Str.ofString "Vault.thing") (L2.defArgs (L2.inClass (Pv.top 23) 3)) (FuncBody.stmts (L2.defBody (L2.inClass (Pv.top 23) 3))) (L2.defScope (L2.inClass (Pv.top 23) 3)) (3) ([]) (Value.none) (Value.none) (Value.none) (Value.str (Str.ofString "papervault.vaults") 484) (none) (Value.ref 272) (Value.none) (0))) (#[]))) (
  List.cons (Prod.mk (nat_lit 274) (Obj.mk (Value.type "tuple") none (Data.seq #[Value.str (Str.ofString "laid") 537]) #[])) (
  List.cons (Prod.mk (nat_lit 275) (Obj.mk (Value.type "dict") none (Data.dict #[DictEntry.mk (PyData.keyHash P (Str.ofString "__module__")) (Value.str (Str.ofString "__module__") 499) (Value.str (Str.ofString "papervault.vaults") 484), DictEntry.mk (PyData.keyHash P (Str.ofString "__firstlineno__")) (Value.str (Str.ofString "__firstlineno__") 503) (Value.int 64 502), DictEntry.mk (PyData.keyHash P (Str.ofString "__init__")) (Value.str (Str.ofString "__init__") 510) (Value.ref 252), DictEntry.mk (PyData.keyHash P (Str.ofString "refuse_clash")) (Value.str (Str.ofString "refuse_clash") 519) (Value.ref 259), DictEntry.mk (PyData.keyHash P (Str.ofString "lay")) (Value.str (Str.ofString "lay") 528) (Value.ref 266), DictEntry.mk (PyData.keyHash P (Str.ofString "thing")) (Value.str (Str.ofString "thing") 536) (Value.ref 273), DictEntry.mk (PyData.keyHash P (Str.ofString "__static_attributes__")) (Value.str (Str.ofString "__static_attributes__") 538) (Value.ref 274), DictEntry.mk (PyData.keyHash P (Str.ofString "__dict__")) (Value.str (Str.ofString "__dict__") 540) (Value.ref 277), DictEntry.mk (PyData.keyHash P (Str.ofString "__weakref__")) (Value.str (Str.ofString "__weakref__") 542) (Value.ref 278), DictEntry.mk (PyData.keyHash P (Str.ofString "__doc__")) (Value.str (Str.ofString "__doc__") 543) Value.none] 4) #[])) (
  List.cons (Prod.mk (nat_lit 276) (Obj.mk (Value.type "type") none (Data.cls (ClassData.mk (Str.ofString "Vault") [Value.type "object"] [Value.ref 276, Value.type "object"] 275 (Str.ofString "Vault") true [] [Value.ref 297] false none false)) #[none, none, some (Value.str (Str.ofString "Vault") 492), some (Value.str (Str.ofString "Vault") 500), some (Value.builtin "object.__new__"), some (Value.bool true)])) (
  List.cons (Prod.mk (nat_lit 277) (Obj.mk (Value.type "getset_descriptor") none (Data.fields #[Value.str (Str.ofString "__dict__") 539, Value.ref 276, Value.builtin "function.__dict__", Value.builtin "function.__dict__#set"]) #[])) (
  List.cons (Prod.mk (nat_lit 278) (Obj.mk (Value.type "getset_descriptor") none (Data.fields #[Value.str (Str.ofString "__weakref__") 541, Value.ref 276, Value.builtin "ExceptionGroup.__weakref__", Value.none]) #[])) (
  List.cons (Prod.mk (nat_lit 281) (Obj.mk (Value.type "tuple") none (Data.seq #[Value.ref 276]) #[])) (
  List.cons (Prod.mk (nat_lit 288) (Obj.mk (Value.type "tuple") none (Data.seq #[]) #[])) (
  List.cons (Prod.mk (nat_lit 290) (Obj.mk (Value.type "tuple") none (Data.seq #[Value.str (Str.ofString "self") 561]) #[])) (
  List.cons (Prod.mk (nat_lit 291) (Obj.mk (Value.type "tuple") none (Data.seq #[]) #[])) (
  List.cons (Prod.mk (nat_lit 293) (Obj.mk (Value.type "code") none (Data.fields #[Value.str (Str.ofString "things") 558, Value.str (Str.ofString "Keeper.things") 559, Value.str (Str.ofString "/claim/cut.py") 560, Value.int 85 0, Value.int 1 0, Value.int 0 0, Value.int 0 0, Value.int 3 0, Value.ref 288, Value.bool true, Value.int 181 0, Value.ref 289, Value.none, Value.ref 290, Value.ref 291, Value.ref 292, Value.int 562 0, Value.int 85 0, Value.str (Str.ofString "/claim/cut.py") 563]) #[])) (
  List.cons (Prod.mk (nat_lit 294) (Obj.mk (Value.type "function") (none) (Data.func (FuncData.mk (Str.ofString "things") (Str.ofString "Keeper.things") (L2.defArgs (L2.inClass (Pv.top 24) 0)) (FuncBody.stmts (L2.defBody (L2.inClass (Pv.top 24) 0))) (L2.defScope (L2.inClass (Pv.top 24) 0)) (3) ([]) (Value.none) (Value.none) (Value.none) (Value.str (Str.ofString "papervault.vaults") 484) (none) (Value.ref 293) (Value.none) (0))) (#[]))) (
  List.cons (Prod.mk (nat_lit 295) (Obj.mk (Value.type "tuple") none (Data.seq #[]) #[])) (
  List.cons (Prod.mk (nat_lit 296) (Obj.mk (Value.type "dict") none (Data.dict #[DictEntry.mk (PyData.keyHash P (Str.ofString "__module__")) (Value.str (Str.ofString "__module__") 553) (Value.str (Str.ofString "papervault.vaults") 484), DictEntry.mk (PyData.keyHash P (Str.ofString "__firstlineno__")) (Value.str (Str.ofString "__firstlineno__") 557) (Value.int 83 556), DictEntry.mk (PyData.keyHash P (Str.ofString "things")) (Value.str (Str.ofString "things") 564) (Value.ref 294), DictEntry.mk (PyData.keyHash P (Str.ofString "__static_attributes__")) (Value.str (Str.ofString "__static_attributes__") 565) (Value.ref 295), DictEntry.mk (PyData.keyHash P (Str.ofString "__doc__")) (Value.str (Str.ofString "__doc__") 566) Value.none] 2) #[])) (
  List.cons (Prod.mk (nat_lit 297) (Obj.mk (Value.type "type") none (Data.cls (ClassData.mk (Str.ofString "Keeper") [Value.ref 276] [Value.ref 297, Value.ref 276, Value.type "object"] 296 (Str.ofString "Keeper") true [] [] false none false)) #[some (Value.ref 281), none, some (Value.str (Str.ofString "Keeper") 546), some (Value.str (Str.ofString "Keeper") 554), some (Value.builtin "object.__new__"), some (Value.bool true)])) (
  List.cons (Prod.mk (nat_lit 300) (Obj.mk (Value.type "tuple") none (Data.seq #[]) #[])) (
  List.cons (Prod.mk (nat_lit 302) (Obj.mk (Value.type "tuple") none (Data.seq #[Value.str (Str.ofString "cell") 574, Value.str (Str.ofString "low") 575]) #[])) (
  List.cons (Prod.mk (nat_lit 303) (Obj.mk (Value.type "tuple") none (Data.seq #[]) #[])) (
  List.cons (Prod.mk (nat_lit 305) (Obj.mk (Value.type "code") none (Data.fields #[Value.str (Str.ofString "_law_row") 571, Value.str (Str.ofString "_law_row") 572, Value.str (Str.ofString "/claim/cut.py") 573, Value.int 88 0, Value.int 1 0, Value.int 0 0, Value.int 0 0, Value.int 3 0, Value.ref 300, Value.bool true, Value.int 181 0, Value.ref 301, Value.none, Value.ref 302, Value.ref 303, Value.ref 304, Value.int 576 0, Value.int 88 0, Value.str (Str.ofString "/claim/cut.py") 577]) #[])) (
  List.cons (Prod.mk (nat_lit 306) (Obj.mk (Value.type "function") (none) (Data.func (FuncData.mk (Str.ofString "_law_row") (Str.ofString "_law_row") (L2.defArgs (Pv.top 26)) (FuncBody.stmts (L2.defBody (Pv.top 26))) (L2.defScope (Pv.top 26)) (3) ([]) (Value.none) (Value.none) (Value.none) (Value.str (Str.ofString "law_papervault_k21_laid_and_told") 569) (none) (Value.ref 305) (Value.none) (0))) (#[]))) (
  List.cons (Prod.mk (nat_lit 307) (Obj.mk (Value.type "tuple") none (Data.seq #[]) #[])) (
  List.cons (Prod.mk (nat_lit 309) (Obj.mk (Value.type "tuple") none (Data.seq #[Value.str (Str.ofString "row") 582, Value.str (Str.ofString "many") 583, Value.str (Str.ofString "got") 584]) #[])) (
  List.cons (Prod.mk (nat_lit 310) (Obj.mk (Value.type "tuple") none (Data.seq #[]) #[])) (
  List.cons (Prod.mk (nat_lit 312) (Obj.mk (Value.type "code") none (Data.fields #[Value.str (Str.ofString "_law_take") 579, Value.str (Str.ofString "_law_take") 580, Value.str (Str.ofString "/claim/cut.py") 581, Value.int 93 0, Value.int 2 0, Value.int 0 0, Value.int 0 0, Value.int 3 0, Value.ref 307, Value.bool true, Value.int 181 0, Value.ref 308, Value.none, Value.ref 309, Value.ref 310, Value.ref 311, Value.int 585 0, Value.int 93 0, Value.str (Str.ofString "/claim/cut.py") 586]) #[])) (
  List.cons (Prod.mk (nat_lit 313) (Obj.mk (Value.type "function") (none) (Data.func (FuncData.mk (Str.ofString "_law_take") (Str.ofString "_law_take") (L2.defArgs (Pv.top 27)) (FuncBody.stmts (L2.defBody (Pv.top 27))) (L2.defScope (Pv.top 27)) (3) ([]) (Value.none) (Value.none) (Value.none) (Value.str (Str.ofString "law_papervault_k21_laid_and_told") 569) (none) (Value.ref 312) (Value.none) (0))) (#[]))) (
  List.cons (Prod.mk (nat_lit 314) (Obj.mk (Value.type "tuple") none (Data.seq #[]) #[])) (
  List.cons (Prod.mk (nat_lit 317) (Obj.mk (Value.type "code") none (Data.fields #[Value.str (Str.ofString "_law_text") 588, Value.str (Str.ofString "_law_text") 589, Value.str (Str.ofString "/claim/cut.py") 590, Value.int 100 0, Value.int 1 0, Value.int 0 0, Value.int 0 0, Value.int 3 0, Value.ref 314, Value.bool true, Value.int 181 0, Value.ref 315, Value.none, Value.none, Value.none, Value.ref 316, Value.int 591 0, Value.int 100 0, Value.str (Str.ofString "/claim/cut.py") 592]) #[])) (
  List.cons (Prod.mk (nat_lit 318) (Obj.mk (Value.type "function") (none) (Data.func (FuncData.mk (Str.ofString "_law_text") (Str.ofString "_law_text") (L2.defArgs (Pv.top 28)) (FuncBody.stmts (L2.defBody (Pv.top 28))) (L2.defScope (Pv.top 28)) (3) ([]) (Value.none) (Value.none) (Value.none) (Value.str (Str.ofString "law_papervault_k21_laid_and_told") 569) (none) (Value.ref 317) (Value.none) (0))) (#[]))) (
  List.cons (Prod.mk (nat_lit 319) (Obj.mk (Value.type "tuple") none (Data.seq #[]) #[])) (
  List.cons (Prod.mk (nat_lit 322) (Obj.mk (Value.type "code") none (Data.fields #[Value.str (Str.ofString "_law_thing") 594, Value.str (Str.ofString "_law_thing") 595, Value.str (Str.ofString "/claim/cut.py") 596, Value.int 107 0, Value.int 2 0, Value.int 0 0, Value.int 0 0, Value.int 3 0, Value.ref 319, Value.bool true, Value.int 181 0, Value.ref 320, Value.none, Value.none, Value.none, Value.ref 321, Value.int 597 0, Value.int 107 0, Value.str (Str.ofString "/claim/cut.py") 598]) #[])) (
  List.cons (Prod.mk (nat_lit 323) (Obj.mk (Value.type "function") (none) (Data.func (FuncData.mk (Str.ofString "_law_thing") (Str.ofString "_law_thing") (L2.defArgs (Pv.top 29)) (FuncBody.stmts (L2.defBody (Pv.top 29))) (L2.defScope (Pv.top 29)) (3) ([]) (Value.none) (Value.none) (Value.none) (Value.str (Str.ofString "law_papervault_k21_laid_and_told") 569) (none) (Value.ref 322) (Value.none) (0))) (#[]))) (
  List.cons (Prod.mk (nat_lit 324) (Obj.mk (Value.type "tuple") none (Data.seq #[]) #[])) (
  List.cons (Prod.mk (nat_lit 326) (Obj.mk (Value.type "tuple") none (Data.seq #[Value.str (Str.ofString "told") 603, Value.str (Str.ofString "due") 604, Value.str (Str.ofString "one") 605, Value.str (Str.ofString "other") 606]) #[])) (
  List.cons (Prod.mk (nat_lit 327) (Obj.mk (Value.type "tuple") none (Data.seq #[]) #[])) (
  List.cons (Prod.mk (nat_lit 329) (Obj.mk (Value.type "code") none (Data.fields #[Value.str (Str.ofString "_law_same") 600, Value.str (Str.ofString "_law_same") 601, Value.str (Str.ofString "/claim/cut.py") 602, Value.int 120 0, Value.int 2 0, Value.int 0 0, Value.int 0 0, Value.int 3 0, Value.ref 324, Value.bool true, Value.int 181 0, Value.ref 325, Value.none, Value.ref 326, Value.ref 327, Value.ref 328, Value.int 607 0, Value.int 120 0, Value.str (Str.ofString "/claim/cut.py") 608]) #[])) (
  List.cons (Prod.mk (nat_lit 330) (Obj.mk (Value.type "function") (none) (Data.func (FuncData.mk (Str.ofString "_law_same") (Str.ofString "_law_same") (L2.defArgs (Pv.top 30)) (FuncBody.stmts (L2.defBody (Pv.top 30))) (L2.defScope (Pv.top 30)) (3) ([]) (Value.none) (Value.none) (Value.none) (Value.str (Str.ofString "law_papervault_k21_laid_and_told") 569) (none) (Value.ref 329) (Value.none) (0))) (#[]))) (
  List.cons (Prod.mk (nat_lit 331) (Obj.mk (Value.type "tuple") none (Data.seq #[]) #[])) (
  List.cons (Prod.mk (nat_lit 333) (Obj.mk (Value.type "tuple") none (Data.seq #[Value.str (Str.ofString "vault") 613, Value.str (Str.ofString "number") 614, Value.str (Str.ofString "right") 615, Value.str (Str.ofString "other") 616, Value.str (Str.ofString "e") 617]) #[])) (
  List.cons (Prod.mk (nat_lit 334) (Obj.mk (Value.type "tuple") none (Data.seq #[]) #[])) (
  List.cons (Prod.mk (nat_lit 336) (Obj.mk (Value.type "code") none (Data.fields #[Value.str (Str.ofString "_law_refused") 610, Value.str (Str.ofString "_law_refused") 611, Value.str (Str.ofString "/claim/cut.py") 612, Value.int 133 0, Value.int 2 0, Value.int 0 0, Value.int 0 0, Value.int 3 0, Value.ref 331, Value.bool true, Value.int 181 0, Value.ref 332, Value.none, Value.ref 333, Value.ref 334, Value.ref 335, Value.int 618 0, Value.int 133 0, Value.str (Str.ofString "/claim/cut.py") 619]) #[])) (
  List.cons (Prod.mk (nat_lit 337) (Obj.mk (Value.type "function") (none) (Data.func (FuncData.mk (Str.ofString "_law_refused") (Str.ofString "_law_refused") (L2.defArgs (Pv.top 31)) (FuncBody.stmts (L2.defBody (Pv.top 31))) (L2.defScope (Pv.top 31)) (3) ([]) (Value.none) (Value.none) (Value.none) (Value.str (Str.ofString "law_papervault_k21_laid_and_told") 569) (none) (Value.ref 336) (Value.none) (0))) (#[]))) (
  List.cons (Prod.mk (nat_lit 338) (Obj.mk (Value.type "tuple") none (Data.seq #[]) #[])) (
  List.cons (Prod.mk (nat_lit 340) (Obj.mk (Value.type "tuple") none (Data.seq #[Value.str (Str.ofString "vault") 624, Value.str (Str.ofString "laid") 625, Value.str (Str.ofString "new") 626, Value.str (Str.ofString "number") 627, Value.str (Str.ofString "k") 628, Value.str (Str.ofString "told") 629]) #[])) (
  List.cons (Prod.mk (nat_lit 341) (Obj.mk (Value.type "tuple") none (Data.seq #[]) #[])) (
  List.cons (Prod.mk (nat_lit 343) (Obj.mk (Value.type "code") none (Data.fields #[Value.str (Str.ofString "_law_laid") 621, Value.str (Str.ofString "_law_laid") 622, Value.str (Str.ofString "/claim/cut.py") 623, Value.int 143 0, Value.int 3 0, Value.int 0 0, Value.int 0 0, Value.int 3 0, Value.ref 338, Value.bool true, Value.int 181 0, Value.ref 339, Value.none, Value.ref 340, Value.ref 341, Value.ref 342, Value.int 630 0, Value.int 143 0, Value.str (Str.ofString "/claim/cut.py") 631]) #[])) (
  List.cons (Prod.mk (nat_lit 344) (Obj.mk (Value.type "function") (none) (Data.func (FuncData.mk (Str.ofString "_law_laid") (Str.ofString "_law_laid") (L2.defArgs (Pv.top 32)) (FuncBody.stmts (L2.defBody (Pv.top 32))) (L2.defScope (Pv.top 32)) (3) ([]) (Value.none) (Value.none) (Value.none) (Value.str (Str.ofString "law_papervault_k21_laid_and_told") 569) (none) (Value.ref 343) (Value.none) (0))) (#[]))) (
  List.cons (Prod.mk (nat_lit 345) (Obj.mk (Value.type "tuple") none (Data.seq #[]) #[])) (
  List.cons (Prod.mk (nat_lit 347) (Obj.mk (Value.type "tuple") none (Data.seq #[Value.str (Str.ofString "vault") 636, Value.str (Str.ofString "laid") 637, Value.str (Str.ofString "number") 638]) #[])) (
  List.cons (Prod.mk (nat_lit 348) (Obj.mk (Value.type "tuple") none (Data.seq #[]) #[])) (
  List.cons (Prod.mk (nat_lit 350) (Obj.mk (Value.type "code") none (Data.fields #[Value.str (Str.ofString "_law_told") 633, Value.str (Str.ofString "_law_told") 634, Value.str (Str.ofString "/claim/cut.py") 635, Value.int 153 0, Value.int 2 0, Value.int 0 0, Value.int 0 0, Value.int 3 0, Value.ref 345, Value.bool true, Value.int 181 0, Value.ref 346, Value.none, Value.ref 347, Value.ref 348, Value.ref 349, Value.int 639 0, Value.int 153 0, Value.str (Str.ofString "/claim/cut.py") 640]) #[])) (
  List.cons (Prod.mk (nat_lit 351) (Obj.mk (Value.type "function") (none) (Data.func (FuncData.mk (Str.ofString "_law_told") (Str.ofString "_law_told") (L2.defArgs (Pv.top 33)) (FuncBody.stmts (L2.defBody (Pv.top 33))) (L2.defScope (Pv.top 33)) (3) ([]) (Value.none) (Value.none) (Value.none) (Value.str (Str.ofString "law_papervault_k21_laid_and_told") 569) (none) (Value.ref 350) (Value.none) (0))) (#[]))) (
  List.cons (Prod.mk (nat_lit 352) (Obj.mk (Value.type "tuple") none (Data.seq #[]) #[])) (
  List.cons (Prod.mk (nat_lit 354) (Obj.mk (Value.type "tuple") none (Data.seq #[Value.str (Str.ofString "jar") 645, Value.str (Str.ofString "new") 646, Value.str (Str.ofString "k") 647]) #[])) (
  List.cons (Prod.mk (nat_lit 355) (Obj.mk (Value.type "tuple") none (Data.seq #[]) #[])) (
  List.cons (Prod.mk (nat_lit 357) (Obj.mk (Value.type "code") none (Data.fields #[Value.str (Str.ofString "_law_new") 642, Value.str (Str.ofString "_law_new") 643, Value.str (Str.ofString "/claim/cut.py") 644, Value.int 158 0, Value.int 1 0, Value.int 0 0, Value.int 0 0, Value.int 3 0, Value.ref 352, Value.bool true, Value.int 181 0, Value.ref 353, Value.none, Value.ref 354, Value.ref 355, Value.ref 356, Value.int 648 0, Value.int 158 0, Value.str (Str.ofString "/claim/cut.py") 649]) #[])) (
  List.cons (Prod.mk (nat_lit 358) (Obj.mk (Value.type "function") (none) (Data.func (FuncData.mk (Str.ofString "_law_new") (Str.ofString "_law_new") (L2.defArgs (Pv.top 34)) (FuncBody.stmts (L2.defBody (Pv.top 34))) (L2.defScope (Pv.top 34)) (3) ([]) (Value.none) (Value.none) (Value.none) (Value.str (Str.ofString "law_papervault_k21_laid_and_told") 569) (none) (Value.ref 357) (Value.none) (0))) (#[]))) (
  List.cons (Prod.mk (nat_lit 359) (Obj.mk (Value.type "tuple") none (Data.seq #[]) #[])) (
  List.cons (Prod.mk (nat_lit 362) (Obj.mk (Value.type "code") none (Data.fields #[Value.str (Str.ofString "_law_kept") 651, Value.str (Str.ofString "_law_kept") 652, Value.str (Str.ofString "/claim/cut.py") 653, Value.int 163 0, Value.int 2 0, Value.int 0 0, Value.int 0 0, Value.int 3 0, Value.ref 359, Value.bool true, Value.int 181 0, Value.ref 360, Value.none, Value.none, Value.none, Value.ref 361, Value.int 654 0, Value.int 163 0, Value.str (Str.ofString "/claim/cut.py") 655]) #[])) (
  List.cons (Prod.mk (nat_lit 363) (Obj.mk (Value.type "function") (none) (Data.func (FuncData.mk (Str.ofString "_law_kept") (Str.ofString "_law_kept") (L2.defArgs (Pv.top 35)) (FuncBody.stmts (L2.defBody (Pv.top 35))) (L2.defScope (Pv.top 35)) (3) ([]) (Value.none) (Value.none) (Value.none) (Value.str (Str.ofString "law_papervault_k21_laid_and_told") 569) (none) (Value.ref 362) (Value.none) (0))) (#[]))) (
  List.cons (Prod.mk (nat_lit 364) (Obj.mk (Value.type "tuple") none (Data.seq #[]) #[])) (
  List.cons (Prod.mk (nat_lit 366) (Obj.mk (Value.type "tuple") none (Data.seq #[Value.str (Str.ofString "script") 660, Value.str (Str.ofString "vaults") 661, Value.str (Str.ofString "laid") 662, Value.str (Str.ofString "cell") 663, Value.str (Str.ofString "row") 664, Value.str (Str.ofString "at") 665, Value.str (Str.ofString "new") 666, Value.str (Str.ofString "own") 667, Value.str (Str.ofString "number") 668, Value.str (Str.ofString "k") 669]) #[])) (
  List.cons (Prod.mk (nat_lit 367) (Obj.mk (Value.type "tuple") none (Data.seq #[]) #[])) (
  List.cons (Prod.mk (nat_lit 369) (Obj.mk (Value.type "code") none (Data.fields #[Value.str (Str.ofString "law") 657, Value.str (Str.ofString "law") 658, Value.str (Str.ofString "/claim/cut.py") 659, Value.int 176 0, Value.int 1 0, Value.int 0 0, Value.int 0 0, Value.int 3 0, Value.ref 364, Value.bool true, Value.int 181 0, Value.ref 365, Value.none, Value.ref 366, Value.ref 367, Value.ref 368, Value.int 670 0, Value.int 176 0, Value.str (Str.ofString "/claim/cut.py") 671]) #[])) (
  List.cons (Prod.mk (nat_lit 370) (Obj.mk (Value.type "function") (none) (Data.func (FuncData.mk (Str.ofString "law") (Str.ofString "law") (L2.defArgs (Pv.top 36)) (FuncBody.stmts (L2.defBody (Pv.top 36))) (L2.defScope (Pv.top 36)) (3) ([]) (Value.none) (Value.none) (Value.none) (Value.str (Str.ofString "law_papervault_k21_laid_and_told") 569) (none) (Value.ref 369) (Value.none) (0))) (#[]))) (List.nil)))))))))))))))))))))))))))))))))))))))))))))))))))))))))))))))))))))))))))))))))))))))))))))))))))))))))))))))))))))))))))))))))))))))))))))))))))))))))))))))))))))))))))
noncomputable def KA : List Addr := List.cons (nat_lit 2) (List.cons (nat_lit 3) (List.cons (nat_lit 15) (List.cons (nat_lit 22) (List.cons (nat_lit 23) (List.cons (nat_lit 24) (List.cons (nat_lit 25) (List.cons (nat_lit 28) (List.cons (nat_lit 35) (List.cons (nat_lit 36) (List.cons (nat_lit 37) (List.cons (nat_lit 40) (List.cons (nat_lit 47) (List.cons (nat_lit 48) (List.cons (nat_lit 49) (List.cons (nat_lit 52) (List.cons (nat_lit 59) (List.cons (nat_lit 60) (List.cons (nat_lit 61) (List.cons (nat_lit 64) (List.cons (nat_lit 71) (List.cons (nat_lit 73) (List.cons (nat_lit 74) (List.cons (nat_lit 76) (List.cons (nat_lit 77) (List.cons (nat_lit 78) (List.cons (nat_lit 79) (List.cons (nat_lit 80) (List.cons (nat_lit 83) (List.cons (nat_lit 90) (List.cons (nat_lit 91) (List.cons (nat_lit 92) (List.cons (nat_lit 95) (List.cons (nat_lit 102) (List.cons (nat_lit 103) (List.cons (nat_lit 104) (List.cons (nat_lit 107) (List.cons (nat_lit 114) (List.cons (nat_lit 115) (List.cons (nat_lit 116) (List.cons (nat_lit 119) (List.cons (nat_lit 126) (List.cons (nat_lit 127) (List.cons (nat_lit 128) (List.cons (nat_lit 131) (List.cons (nat_lit 138) (List.cons (nat_lit 139) (List.cons (nat_lit 140) (List.cons (nat_lit 143) (List.cons (nat_lit 150) (List.cons (nat_lit 151) (List.cons (nat_lit 152) (List.cons (nat_lit 155) (List.cons (nat_lit 162) (List.cons (nat_lit 163) (List.cons (nat_lit 164) (List.cons (nat_lit 167) (List.cons (nat_lit 174) (List.cons (nat_lit 175) (List.cons (nat_lit 176) (List.cons (nat_lit 179) (List.cons (nat_lit 186) (List.cons (nat_lit 187) (List.cons (nat_lit 188) (List.cons (nat_lit 191) (List.cons (nat_lit 198) (List.cons (nat_lit 199) (List.cons (nat_lit 200) (List.cons (nat_lit 203) (List.cons (nat_lit 210) (List.cons (nat_lit 211) (List.cons (nat_lit 212) (List.cons (nat_lit 215) (List.cons (nat_lit 217) (List.cons (nat_lit 218) (List.cons (nat_lit 220) (List.cons (nat_lit 221) (List.cons (nat_lit 222) (List.cons (nat_lit 225) (List.cons (nat_lit 226) (List.cons (nat_lit 227) (List.cons (nat_lit 229) (List.cons (nat_lit 230) (List.cons (nat_lit 232) (List.cons (nat_lit 233) (List.cons (nat_lit 234) (List.cons (nat_lit 237) (List.cons (nat_lit 238) (List.cons (nat_lit 246) (List.cons (nat_lit 248) (List.cons (nat_lit 249) (List.cons (nat_lit 251) (List.cons (nat_lit 252) (List.cons (nat_lit 253) (List.cons (nat_lit 255) (List.cons (nat_lit 256) (List.cons (nat_lit 258) (List.cons (nat_lit 259) (List.cons (nat_lit 260) (List.cons (nat_lit 262) (List.cons (nat_lit 263) (List.cons (nat_lit 265) (List.cons (nat_lit 266) (List.cons (nat_lit 267) (List.cons (nat_lit 269) (List.cons (nat_lit 270) (List.cons (nat_lit 272) (List.cons (nat_lit 273) (List.cons (nat_lit 274) (List.cons (nat_lit 275) (List.cons (nat_lit 276) (List.cons (nat_lit 277) (List.cons (nat_lit 278) (List.cons (nat_lit 281) (List.cons (nat_lit 288) (List.cons (nat_lit 290) (List.cons (nat_lit 291) (List.cons (nat_lit 293) (List.cons (nat_lit 294) (List.cons (nat_lit 295) (List.cons (nat_lit 296) (List.cons (nat_lit 297) (List.cons (nat_lit 300) (List.cons (nat_lit 302) (List.cons (nat_lit 303) (List.cons (nat_lit 305) (List.cons (nat_lit 306) (List.cons (nat_lit 307) (List.cons (nat_lit 309) (List.cons (nat_lit 310) (List.cons (nat_lit 312) (List.cons (nat_lit 313) (List.cons (nat_lit 314) (List.cons (nat_lit 317) (List.cons (nat_lit 318) (List.cons (nat_lit 319) (List.cons (nat_lit 322) (List.cons (nat_lit 323) (List.cons (nat_lit 324) (List.cons (nat_lit 326) (List.cons (nat_lit 327) (List.cons (nat_lit 329) (List.cons (nat_lit 330) (List.cons (nat_lit 331) (List.cons (nat_lit 333) (List.cons (nat_lit 334) (List.cons (nat_lit 336) (List.cons (nat_lit 337) (List.cons (nat_lit 338) (List.cons (nat_lit 340) (List.cons (nat_lit 341) (List.cons (nat_lit 343) (List.cons (nat_lit 344) (List.cons (nat_lit 345) (List.cons (nat_lit 347) (List.cons (nat_lit 348) (List.cons (nat_lit 350) (List.cons (nat_lit 351) (List.cons (nat_lit 352) (List.cons (nat_lit 354) (List.cons (nat_lit 355) (List.cons (nat_lit 357) (List.cons (nat_lit 358) (List.cons (nat_lit 359) (List.cons (nat_lit 362) (List.cons (nat_lit 363) (List.cons (nat_lit 364) (List.cons (nat_lit 366) (List.cons (nat_lit 367) (List.cons (nat_lit 369) (List.cons (nat_lit 370) (List.nil)))))))))))))))))))))))))))))))))))))))))))))))))))))))))))))))))))))))))))))))))))))))))))))))))))))))))))))))))))))))))))))))))))))))))))))))))))))))))))))))))))))))))))
noncomputable def VQ : Program := { PySem.Challenge.pw_papervault_k21_laid_and_told with main := { PySem.Challenge.pw_papervault_k21_laid_and_told.main with body := [top 1, top 2, top 3, top 4, top 5, top 6, top 7, top 8, top 9, top 10, top 11, top 12, top 13, top 14, top 15, top 16, top 18, top 19, top 20, top 22, top 23, top 24, top 26, top 27, top 28, top 29, top 30, top 31, top 32, top 33, top 34, top 35, top 36] } }
noncomputable abbrev RQ : OpenRow := OpenLaw.row PySem.Challenge.rw_papervault_k21_laid_and_told
noncomputable def topFF (p : Program) (w : World) (N : Nat) (s₀ : Shared) : Option Shared :=
  match s₀.heap.isNs mainGlobals && s₀.gens.size == 0 with
  | true => (PySem.W.Fast.tw14082659384304107361 PySem.W.Fast.tw14364793385576792824 p w s₀.heap.objs.size (s₀.heap.nsMap mainGlobals "__annotations__") N s₀ (topStub p)).bind fun s₁ => match staticsOk (importedModules p.main.body) s₀.heap s₁.heap && namesBound p s₁.heap && gensDone s₁ && laidKept s₀.heap s₁.heap with
      | true => some s₁
      | false => none
  | false => none
noncomputable def endsF (p : Program) (w : World) (N : Nat) : Option Shared := (fencedOpening treeTable p w N).bind (topFF p w N)
private theorem ends_eq (p : Program) (w : World) (N : Nat) : openEnds treeTable p w N = endsF p w N := by
  unfold openEnds endsF
  congr 1
  funext s₀
  unfold topFrom topFF
  rw [← PySem.W.Fast.te14082659384304107361, ← PySem.W.Fast.te14364793385576792824]
  rfl
noncomputable abbrev SQ (s : Shared) := PySem.W.Fast.tw4187177175401517315 VQ [] [] (fun s => xlAt VQ [] s && recOk (RowW.records (OpenRow.toRowW RQ)) s) true s
private theorem leftA1 (w : World) : (endsF RQ.prog w 9056).map (fun s => (SQ s).1) = some ((openGood VQ []).1) := by kernel_rfl
private theorem leftA2 (w : World) : (endsF RQ.prog w 9056).map (fun s => (SQ s).2.1) = some ((openGood VQ []).2.1) := by kernel_rfl
private theorem leftA4 (w : World) : (endsF RQ.prog w 9056).map (fun s => (SQ s).2.2.1) = some ((openGood VQ []).2.2.1) := by kernel_rfl
private theorem leftA5 (w : World) : (endsF RQ.prog w 9056).map (fun s => ((SQ s).2.2.2.1, (SQ s).2.2.2.2.1)) = some ((openGood VQ []).2.2.2.1, (openGood VQ []).2.2.2.2.1) := by kernel_rfl
private theorem leftA3 (w : World) : (endsF RQ.prog w 9056).map (fun s => (SQ s).2.2.2.2.2) = some ((openGood VQ []).2.2.2.2.2) := by kernel_rfl
private theorem leftB (w : World) : (endsF RQ.prog w 9056).map (fun s => KA.map s.heap.get?) = some ((KK w.params).map fun p => some p.2) := by kernel_rfl
private theorem mods0 : [] = importedModules RQ.prog.main.body := by kernel_rfl
private theorem left : LeftO RQ.prog VQ [] (fun s => xlAt VQ [] s && recOk (RowW.records (OpenRow.toRowW RQ)) s) (fun s => KA.map s.heap.get?) (fun w => (KK w.params).map fun p => some p.2) 9056 := fun w => by
  obtain ⟨s, e, a1⟩ := Option.map_eq_some_iff.mp (leftA1 w)
  obtain ⟨s2, e2, a2⟩ := Option.map_eq_some_iff.mp (leftA2 w)
  obtain ⟨s3, e3, a3⟩ := Option.map_eq_some_iff.mp (leftA3 w)
  obtain ⟨s4, e4, b⟩ := Option.map_eq_some_iff.mp (leftB w)
  obtain ⟨s5, e5, a4⟩ := Option.map_eq_some_iff.mp (leftA4 w)
  obtain ⟨s6, e6, a5⟩ := Option.map_eq_some_iff.mp (leftA5 w)
  cases e.symm.trans e2
  cases e.symm.trans e3
  cases e.symm.trans e4
  cases e.symm.trans e5
  cases e.symm.trans e6
  rw [ends_eq, e]
  have h : SQ s = openGood VQ [] := Prod.ext a1 (Prod.ext a2 (Prod.ext a4 (Prod.ext (Prod.mk.inj a5).1 (Prod.ext (Prod.mk.inj a5).2 a3))))
  show some (_, _) = some (_, _)
  unfold SQ at h
  rw [← PySem.W.Fast.te4187177175401517315] at h
  rw [← mods0, h]
  exact congrArg (fun z => some (openGood VQ [], z)) b
private theorem addrs : ∀ P, KA = (KK P).map (·.1) := fun P => by kernel_rfl
private theorem said : PySem.Challenge.rw_papervault_k21_laid_and_told.wellSaid = true := by kernel_rfl
end Pv
set_option Elab.async false
set_option linter.all false
set_option maxRecDepth 100000
set_option maxHeartbeats 400000
namespace Ps
open PySem PyProof.Rows
def gallopP : Bool → Keyed → Array Keyed → Nat → Nat → Nat → StateT SortSt Sem (Option Nat) := sortPriv% PySem.Builtin.gallop
section
variable {prog : Program} {w : World} {A : Around} {E : Value → Shared → Prop} {s : Shared}
private theorem wpS_elemP {arr : Array Keyed} {i : Nat} {p : Keyed} {st : SortSt} {Q : Keyed → SortSt → Prop} (e : arr[i]? = some p) (h : Q p st) : wpS (model prog w) A E s (elem' arr i) Q st := by
  rw [elem'_eq, e]; exact wpS_pure h
private theorem wpS_ltP {x y : Keyed} {a b : Int} {t u : Tok} {st : SortSt} {Q : Option Bool → SortSt → Prop} (hk : kindOf st = oneType') (ex : x.1 = .int a t) (ey : y.1 = .int b u) (h : Q (some (decide (a < b))) st) : wpS (model prog w) A E s (lt' x y) Q st := by
  rw [lt'_eq]
  refine wpS_bind (wpS_get ?_)
  rw [hk, keyLt'_oneType, ex, ey]
  exact wpS_bind (wpS_lift (wpAny_attempt (oneLt_int ⟨rfl, wpS_pure h⟩)))
def bey (left : Bool) (k x : Int) : Bool := if left then decide (x < k) else !decide (k < x)
private theorem bey_mono {left : Bool} {k x y : Int} (h : x ≤ y) (b : bey left k y = true) : bey left k x = true := by
  cases left <;> simp [bey] at b ⊢ <;> omega
private theorem K_int {arr : Array Keyed} (h0 : IntKeys arr) {i : Nat} (hi : i < arr.size) : ∃ t q, arr[i]? = some (.int (K arr i) t, q) := by
  obtain ⟨n, t, hn⟩ := h0 arr[i] (by simp)
  have e : arr[i]? = some arr[i] := getElem?_pos _ i hi
  have e2 : arr[i] = (.int n t, arr[i].2) := Prod.ext hn rfl
  exact ⟨t, arr[i].2, by unfold K; rw [e, e2]; rfl⟩
private theorem wpS_beyP {left : Bool} {key : Keyed} {k : Int} {t : Tok} {arr : Array Keyed} {i : Nat} {st : SortSt} {Q : Option Bool → SortSt → Prop} (hk : kindOf st = oneType') (ek : key.1 = .int k t) (h0 : IntKeys arr) (hi : i < arr.size)
    (h : Q (some (bey left k (K arr i))) st) : wpS (model prog w) A E s (do let x ← elem' arr i; if left = true then lt' x key else do let r ← lt' key x; pure (r.map (!·))) Q st := by
  obtain ⟨u, q, e⟩ := K_int h0 hi
  refine wpS_bind (wpS_elemP e ?_)
  cases left with
  | true => rw [if_pos rfl]; exact wpS_ltP hk rfl ek h
  | false => rw [if_neg (by decide)]; exact wpS_bind (wpS_ltP hk ek rfl (wpS_pure h))
private theorem wpS_search {P : Nat → Bool} {n lo hi : Nat} {st : SortSt} {f : Nat → Option (Option Nat) × Nat × Nat → StateT SortSt Sem (ForInStep (Option (Option Nat) × Nat × Nat))} {R : Option (Option Nat) × Nat × Nat → SortSt → Prop}
    (dn : ∀ i j, i ≤ j → j < n → P j = true → P i = true) (h1 : lo ≤ hi) (h2 : hi ≤ n) (h3 : ∀ i, i < lo → P i = true) (h4 : ∀ i, hi ≤ i → i < n → P i = false)
    (s1 : ∀ x l r T, l ≥ r → T (.done (none, l, r)) st → wpS (model prog w) A E s (f x (none, l, r)) T st)
    (s2 : ∀ x l r T, l < r → r ≤ n → (P (l + (r - l) / 2) = true → T (.yield (none, l + (r - l) / 2 + 1, r)) st) → (P (l + (r - l) / 2) = false → T (.yield (none, l, l + (r - l) / 2)) st) → wpS (model prog w) A E s (f x (none, l, r)) T st)
    (hR : ∀ r, r ≤ n → (∀ i, i < r → P i = true) → (∀ i, r ≤ i → i < n → P i = false) → R (none, r, r) st) :
    wpS (model prog w) A E s (forIn [:n] (none, lo, hi) f) R st := by
  have up : ∀ i j, i ≤ j → j < n → P i = false → P j = false := fun i j a b c => by
    cases z : P j with
    | false => rfl
    | true => rw [dn i j a b z] at c; exact c
  refine wpS_forRange (I := fun x c st' => st' = st ∧ ∃ l r, c = (none, l, r) ∧ l ≤ r ∧ r ≤ n ∧ r - l ≤ n - x ∧ (∀ i, i < l → P i = true) ∧ (∀ i, r ≤ i → i < n → P i = false)) ?_ ?_ ⟨rfl, lo, hi, rfl, h1, h2, by omega, h3, h4⟩
  · rintro x c st' _ hx ⟨rfl, l, r, rfl, g1, g2, g3, g4, g5⟩
    by_cases z : l ≥ r
    · have : l = r := by omega
      subst this
      exact s1 x l l _ z (hR l g2 g4 g5)
    · refine s2 x l r _ (by omega) g2 (fun y => ?_) fun y => ?_
      · exact ⟨rfl, _, _, rfl, by omega, by omega, by omega, fun i hi => dn i _ (by omega) (by omega) y, g5⟩
      · exact ⟨rfl, _, _, rfl, by omega, by omega, by omega, g4, fun i a b => up _ i a b y⟩
  · rintro c st' ⟨rfl, l, r, rfl, g1, g2, g3, g4, g5⟩
    have : l = r := by omega
    subst this
    exact hR l g2 g4 g5
private theorem wpS_gallopP {left : Bool} {key : Keyed} {k : Int} {t : Tok} {arr : Array Keyed} {base n hint : Nat} {st : SortSt} {Q : Option Nat → SortSt → Prop} (hk : kindOf st = oneType') (ek : key.1 = .int k t) (h0 : IntKeys arr)
    (hn : base + n ≤ arr.size) (hh : hint < n) (hs : ∀ i j, i ≤ j → j < n → K arr (base + i) ≤ K arr (base + j))
    (h : ∀ r, r ≤ n → (∀ i, i < r → bey left k (K arr (base + i)) = true) → (∀ i, r ≤ i → i < n → bey left k (K arr (base + i)) = false) → Q (some r) st) :
    wpS (model prog w) A E s (gallopP left key arr base n hint) Q st := by
  have dn : ∀ i j, i ≤ j → j < n → bey left k (K arr (base + j)) = true → bey left k (K arr (base + i)) = true := fun i j a b c => bey_mono (hs i j a b) c
  have up : ∀ i j, i ≤ j → j < n → bey left k (K arr (base + i)) = false → bey left k (K arr (base + j)) = false := fun i j a b c => by
    cases z : bey left k (K arr (base + j)) with
    | false => rfl
    | true => rw [dn i j a b z] at c; exact c
  refine wpS_bind (wpS_beyP hk ek h0 (by omega) ?_)
  dsimp only
  cases b0 : bey left k (K arr (base + hint)) with
  | true =>
    rw [if_pos rfl]
    refine wpS_bind (wpS_mono (wpS_forRange (I := fun x c st' => st' = st ∧ ∃ l o, c = (none, l, o) ∧ l < o ∧ x + 1 ≤ o ∧ hint + l < n ∧ bey left k (K arr (base + (hint + l))) = true)
      (Q := fun c st' => st' = st ∧ ∃ l o, c = (none, l, o) ∧ l < o ∧ hint + l < n ∧ bey left k (K arr (base + (hint + l))) = true ∧ (hint + o < n → bey left k (K arr (base + (hint + o))) = false)) ?_ ?_ ⟨rfl, 0, 1, rfl, by omega, by omega, by omega, b0⟩) ?_)
    · rintro x c st' _ hx ⟨rfl, l, o, rfl, g1, g2, g3, g4⟩
      dsimp only
      by_cases z : o ≥ n - hint
      · rw [if_pos z]; exact wpS_pure ⟨rfl, l, o, rfl, g1, g3, g4, fun q => absurd q (by omega)⟩
      · rw [if_neg z]
        refine wpS_bind (wpS_beyP hk ek h0 (by omega) ?_)
        dsimp only
        cases y : bey left k (K arr (base + (hint + o))) with
        | true => exact wpS_pure ⟨rfl, o, 2 * o + 1, rfl, by omega, by omega, by omega, y⟩
        | false => exact wpS_pure ⟨rfl, l, o, rfl, g1, g3, g4, fun _ => y⟩
    · rintro c st' ⟨rfl, l, o, rfl, g1, g2, g3, g4⟩
      exact ⟨rfl, l, o, rfl, g1, g3, g4, fun q => absurd q (by omega)⟩
    · rintro c st' ⟨rfl, l, o, rfl, g1, g3, g4, g5⟩
      dsimp only
      refine wpS_bind (wpS_search (P := fun i => bey left k (K arr (base + i))) dn (lo := hint + l + 1) (hi := hint + min o (n - hint)) (by omega) (by omega) (fun i hi => ?_) (fun i a b => ?_) (fun x l r T z q => ?_) (fun x l r T z z' q1 q2 => ?_) fun r x y z => wpS_pure (h r x y z))
      · exact dn i _ (by omega) g3 g4
      · exact up (hint + o) i (by omega) b (g5 (by omega))
      · dsimp only; rw [if_pos z]; exact wpS_pure q
      · dsimp only
        rw [if_neg (by omega)]
        refine wpS_bind (wpS_beyP hk ek h0 (by omega) ?_)
        cases y : bey left k (K arr (base + (l + (r - l) / 2))) with
        | true => exact wpS_pure (q1 y)
        | false => exact wpS_pure (q2 y)
  | false =>
    rw [if_neg (by decide)]
    refine wpS_bind (wpS_mono (wpS_forRange (I := fun x c st' => st' = st ∧ ∃ l o, c = (none, l, o) ∧ l < o ∧ x + 1 ≤ o ∧ l ≤ hint ∧ bey left k (K arr (base + (hint - l))) = false)
      (Q := fun c st' => st' = st ∧ ∃ l o, c = (none, l, o) ∧ l < o ∧ l ≤ hint ∧ bey left k (K arr (base + (hint - l))) = false ∧ (o ≤ hint → bey left k (K arr (base + (hint - o))) = true)) ?_ ?_ ⟨rfl, 0, 1, rfl, by omega, by omega, by omega, b0⟩) ?_)
    · rintro x c st' _ hx ⟨rfl, l, o, rfl, g1, g2, g3, g4⟩
      dsimp only
      by_cases z : o ≥ hint + 1
      · rw [if_pos z]; exact wpS_pure ⟨rfl, l, o, rfl, g1, g3, g4, fun q => absurd q (by omega)⟩
      · rw [if_neg z]
        refine wpS_bind (wpS_beyP hk ek h0 (by omega) ?_)
        dsimp only
        cases y : bey left k (K arr (base + (hint - o))) with
        | true => exact wpS_pure ⟨rfl, l, o, rfl, g1, g3, g4, fun _ => y⟩
        | false => exact wpS_pure ⟨rfl, o, 2 * o + 1, rfl, by omega, by omega, by omega, y⟩
    · rintro c st' ⟨rfl, l, o, rfl, g1, g2, g3, g4⟩
      exact ⟨rfl, l, o, rfl, g1, g3, g4, fun q => absurd q (by omega)⟩
    · rintro c st' ⟨rfl, l, o, rfl, g1, g3, g4, g5⟩
      dsimp only
      refine wpS_bind (wpS_search (P := fun i => bey left k (K arr (base + i))) dn (lo := hint + 1 - min o (hint + 1)) (hi := hint - l) (by omega) (by omega) (fun i hi => ?_) (fun i a b => ?_) (fun x l r T z q => ?_) (fun x l r T z z' q1 q2 => ?_) fun r x y z => wpS_pure (h r x y z))
      · exact dn i (hint - o) (by omega) (by omega) (g5 (by omega))
      · exact up (hint - l) i a b g4
      · dsimp only; rw [if_pos z]; exact wpS_pure q
      · dsimp only
        rw [if_neg (by omega)]
        refine wpS_bind (wpS_beyP hk ek h0 (by omega) ?_)
        cases y : bey left k (K arr (base + (l + (r - l) / 2))) with
        | true => exact wpS_pure (q1 y)
        | false => exact wpS_pure (q2 y)
end
end Ps
set_option Elab.async false
set_option linter.all false
set_option maxRecDepth 100000
set_option maxHeartbeats 400000
namespace Ps
open PySem PyProof.Rows
def nm (p : Keyed) : Int := numOf p.1
private theorem K_at {xs : Array Keyed} {i : Nat} (hi : i < xs.size) : K xs i = nm xs[i] := by unfold K; rw [getElem?_pos xs i hi]; rfl
private theorem K_list {xs : Array Keyed} {i : Nat} (hi : i < xs.toList.length) : nm xs.toList[i] = K xs i := by
  rw [K_at (by simpa using hi)]; simp
def Sr (xs : Array Keyed) : Prop := ∀ i j, i ≤ j → j < xs.size → K xs i ≤ K xs j
structure Inv (a b out : Array Keyed) (ia ib : Nat) : Prop where
  la : ia ≤ a.size
  lb : ib ≤ b.size
  perm : out.toList.Perm (a.toList.take ia ++ b.toList.take ib)
  srt : out.toList.Pairwise (fun p q => nm p ≤ nm q)
  ha : ∀ p ∈ out.toList, ∀ i, ia ≤ i → i < a.size → nm p ≤ K a i
  hb : ∀ p ∈ out.toList, ∀ i, ib ≤ i → i < b.size → nm p ≤ K b i
private theorem Inv.swap {a b out : Array Keyed} {ia ib : Nat} (v : Inv a b out ia ib) : Inv b a out ib ia := ⟨v.lb, v.la, v.perm.trans List.perm_append_comm, v.srt, v.hb, v.ha⟩
private theorem extract_list (a : Array Keyed) (i n : Nat) : (a.extract i n).toList = (a.toList.take n).drop i := by
  rw [Array.toList_extract]
  show List.take (n - i) (List.drop i a.toList) = _
  rw [List.drop_take]
private theorem mem_ext {a : Array Keyed} {i n : Nat} {p : Keyed} (h : p ∈ (a.extract i n).toList) : ∃ j, i ≤ j ∧ j < n ∧ j < a.size ∧ nm p = K a j := by
  rw [extract_list] at h
  obtain ⟨m, hm, e⟩ := List.getElem_of_mem h
  rw [List.getElem_drop, List.getElem_take] at e
  simp only [List.length_drop, List.length_take, Array.length_toList] at hm
  have l : i + m < a.size := by omega
  refine ⟨i + m, by omega, by omega, l, ?_⟩
  rw [K_at l, ← e]; rfl
private theorem Inv.app {a b out : Array Keyed} {ia ib : Nat} (v : Inv a b out ia ib) (sa : Sr a) (n : Nat) (h1 : ia ≤ n) (h2 : n ≤ a.size) (h : ∀ i, ia ≤ i → i < n → ∀ j, ib ≤ j → j < b.size → K a i ≤ K b j) : Inv a b (out ++ a.extract ia n) n ib := by
  refine ⟨h2, v.lb, ?_, ?_, ?_, ?_⟩
  · rw [Array.toList_append, extract_list]
    have e : a.toList.take n = a.toList.take ia ++ (a.toList.take n).drop ia := by
      have := (List.take_append_drop ia (a.toList.take n)).symm
      rwa [List.take_take, Nat.min_eq_left h1] at this
    rw [e]
    refine (v.perm.append_right _).trans ?_
    rw [List.append_assoc, List.append_assoc]
    refine List.Perm.append_left _ ?_
    have e2 : List.drop ia (List.take ia a.toList ++ List.drop ia (List.take n a.toList)) = List.drop ia (List.take n a.toList) := by rw [← e]
    rw [e2]
    exact List.perm_append_comm
  · rw [Array.toList_append, List.pairwise_append]
    refine ⟨v.srt, ?_, fun p hp q hq => ?_⟩
    · rw [List.pairwise_iff_getElem]
      intro i j hi hj hij
      rw [extract_list] at *
      simp only [List.length_drop, List.length_take, Array.length_toList] at hi hj
      simp only [extract_list, List.getElem_drop, List.getElem_take]
      rw [K_list, K_list]
      exact sa _ _ (by omega) (by omega)
    · obtain ⟨j, j1, j2, j3, e⟩ := mem_ext hq
      rw [e]; exact v.ha p hp j j1 j3
  · intro p hp i h3 h4
    rw [Array.toList_append] at hp
    rcases List.mem_append.mp hp with hp | hp
    · exact v.ha p hp i (by omega) h4
    · obtain ⟨j, j1, j2, j3, e⟩ := mem_ext hp
      rw [e]; exact sa _ _ (by omega) h4
  · intro p hp i h3 h4
    rw [Array.toList_append] at hp
    rcases List.mem_append.mp hp with hp | hp
    · exact v.hb p hp i h3 h4
    · obtain ⟨j, j1, j2, j3, e⟩ := mem_ext hp
      rw [e]; exact h j j1 j2 i h3 h4
private theorem push_ext {a out : Array Keyed} {i : Nat} {p : Keyed} (e : a[i]? = some p) : out.push p = out ++ a.extract i (i + 1) := by
  obtain ⟨hi, e'⟩ := Array.getElem?_eq_some_iff.mp e
  have : a.extract i (i + 1) = #[p] := by
    apply Array.ext'
    rw [Array.toList_extract]
    show List.take (i + 1 - i) (List.drop i a.toList) = [p]
    rw [List.drop_eq_getElem_cons (by simpa using hi), show i + 1 - i = 1 by omega]
    simp [e']
  rw [this]; rfl
private theorem Inv.one {a b out : Array Keyed} {ia ib : Nat} {p : Keyed} (v : Inv a b out ia ib) (sa : Sr a) (sb : Sr b) (e : a[ia]? = some p) (h : ib < b.size → K a ia ≤ K b ib) : Inv a b (out.push p) (ia + 1) ib := by
  obtain ⟨hi, e'⟩ := Array.getElem?_eq_some_iff.mp e
  rw [push_ext e]
  refine v.app sa _ (by omega) (by omega) fun i h1 h2 j h3 h4 => ?_
  have : i = ia := by omega
  subst this
  exact Int.le_trans (h (by omega)) (sb _ _ h3 h4)
def Mg (a b out : Array Keyed) : Prop := out.toList.Perm (a.toList ++ b.toList) ∧ out.toList.Pairwise (fun p q => nm p ≤ nm q)
private theorem Inv.done {a b out : Array Keyed} {ia ib : Nat} (v : Inv a b out ia ib) (sa : Sr a) (sb : Sr b) (h : ia = a.size ∨ ib = b.size) : Mg a b (out ++ a.extract ia a.size ++ b.extract ib b.size) := by
  have v1 := v.app sa a.size v.la (Nat.le_refl _) fun i h1 h2 j h3 h4 => by omega
  have v2 := (v1.swap.app sb b.size v.lb (Nat.le_refl _) fun i h1 h2 j h3 h4 => by omega).swap
  refine ⟨?_, v2.srt⟩
  have := v2.perm
  rwa [List.take_of_length_le (by simp), List.take_of_length_le (by simp)] at this
private theorem Inv.last {a b out : Array Keyed} {ia ib : Nat} (v : Inv a b out ia ib) (sa : Sr a) (sb : Sr b) (e : ia + 1 = a.size) (h : ∀ j, j < b.size → K b j ≤ K a (a.size - 1)) : Mg a b (out ++ b.extract ib b.size ++ a.extract ia a.size) := by
  have v1 := (v.swap.app sb b.size v.lb (Nat.le_refl _) fun i h1 h2 j h3 h4 => by
    have : j = a.size - 1 := by omega
    subst this; exact h i h2).swap
  have v2 := v1.app sa a.size v.la (Nat.le_refl _) fun i h1 h2 j h3 h4 => by omega
  refine ⟨?_, v2.srt⟩
  have := v2.perm
  rwa [List.take_of_length_le (by simp), List.take_of_length_le (by simp)] at this
private theorem Inv.start {a b : Array Keyed} {p : Keyed} (sa : Sr a) (sb : Sr b) (e : b[0]? = some p) (h : 0 < a.size → K b 0 ≤ K a 0) : Inv a b #[p] 0 1 := by
  have v : Inv a b #[] 0 0 := ⟨Nat.zero_le _, Nat.zero_le _, .nil, .nil, fun p h => by simp at h, fun p h => by simp at h⟩
  have := (v.swap.one sb sa e h).swap
  exact this
end Ps
set_option Elab.async false
set_option linter.all false
set_option maxRecDepth 100000
set_option maxHeartbeats 1000000
namespace Ps
open PySem PyProof.Rows
def mergeLoP : Array Keyed → Array Keyed → StateT SortSt Sem (Array Keyed) := sortPriv% PySem.Builtin.mergeLo
structure Sm (st st' : SortSt) : Prop where
  kd : kindOf st' = kindOf st
  ar : arrOf st' = arrOf st
  pn : pendingOf st' = pendingOf st
  fl : failedOf st' = failedOf st
private theorem Sm.rfl' (st : SortSt) : Sm st st := ⟨rfl, rfl, rfl, rfl⟩
structure Mid (a b out : Array Keyed) (ia ib x : Nat) : Prop where
  v : Inv a b out ia ib
  b1 : ib < b.size
  a1 : ia + 1 < a.size
  pr : x ≤ ia + ib
section
variable {prog : Program} {w : World} {A : Around} {E : Value → Shared → Prop} {s : Shared}
private theorem wpS_mergeLoP {a b : Array Keyed} {st : SortSt} {Q : Array Keyed → SortSt → Prop} (hk : kindOf st = oneType') (a0 : IntKeys a) (b0 : IntKeys b) (sa : Sr a) (sb : Sr b) (ha : 0 < a.size) (hb : 0 < b.size) (h1 : K b 0 ≤ K a 0) (h2 : ∀ j, j < b.size → K b j ≤ K a (a.size - 1))
    (h : ∀ out st', Mg a b out → Sm st st' → Q out st') :
    wpS (model prog w) A E s (mergeLoP a b) Q st := by
  refine wpS_bind (wpS_lift (wpAny_rule ⟨rfl, ?_⟩))
  obtain ⟨t, q, e⟩ := K_int b0 hb
  refine wpS_bind (wpS_elemP e ?_)
  have v := Inv.start sa sb e fun _ => h1
  dsimp only
  by_cases z1 : 1 = b.size
  · rw [if_pos (by rw [← z1]; rfl)]
    exact wpS_pure (h _ st (v.done sa sb (.inr z1)) (Sm.rfl' _))
  rw [if_neg (by simpa using z1)]
  by_cases z2 : 0 + 1 = a.size
  · rw [if_pos (by rw [← z2]; rfl)]
    exact wpS_pure (h _ st (v.last sa sb z2 h2) (Sm.rfl' _))
  rw [if_neg (by simpa using z2)]
  refine wpS_bind (wpS_get ?_)
  refine wpS_bind (wpS_mono (wpS_forRange (I := fun x c st' => Sm st st' ∧ ∃ out ia ib mg, c = (none, out, ia, ib, mg) ∧ Mid a b out ia ib x) (Q := fun c st' => Sm st st' ∧ ∃ r d, c = (some r, d) ∧ Mg a b r) ?_ ?_ ⟨Sm.rfl' _, _, _, _, _, rfl, v, by omega, by omega, by omega⟩) ?_)
  · rintro x c st1 _ _ ⟨sm1, out, ia, ib, mg, rfl, m1⟩
    dsimp only
    refine wpS_bind (wpS_mono (wpS_forRange (I := fun y c st' => Sm st st' ∧ ∃ out ia ib ac bc, c = (none, out, ia, ib, ac, bc) ∧ Mid a b out ia ib (x + y)) (Q := fun c st' => Sm st st' ∧ ((∃ r d, c = (some r, d) ∧ Mg a b r) ∨ ∃ out ia ib ac bc, c = (none, out, ia, ib, ac, bc) ∧ Mid a b out ia ib x)) ?_ ?_ ⟨sm1, _, _, _, _, _, rfl, m1⟩) ?_)
    · rintro y c st2 _ _ ⟨sm2, out, ia, ib, ac, bc, rfl, m2⟩
      have ⟨v, b1, a1, pr⟩ := m2
      obtain ⟨tb, qb, eb⟩ := K_int b0 b1
      obtain ⟨ta, qa, ea⟩ := K_int a0 (show ia < a.size by omega)
      dsimp only
      refine wpS_bind (wpS_elemP eb (wpS_bind (wpS_elemP ea (wpS_bind (wpS_ltP (by rw [sm2.kd]; exact hk) rfl rfl ?_)))))
      dsimp only
      by_cases z : K b ib < K a ia
      · rw [if_pos (decide_eq_true z)]
        refine wpS_bind (wpS_elemP eb ?_)
        have v' := (v.swap.one sb sa eb fun _ => Int.le_of_lt z).swap
        by_cases z3 : ib + 1 = b.size
        · rw [if_pos (by simpa using z3)]
          exact wpS_pure ⟨sm2, .inl ⟨_, _, rfl, v'.done sa sb (.inr z3)⟩⟩
        rw [if_neg (by simpa using z3)]
        split
        · exact wpS_pure ⟨sm2, .inr ⟨_, _, _, _, _, rfl, v', by omega, by omega, by omega⟩⟩
        · exact wpS_pure ⟨sm2, _, _, _, _, _, rfl, v', by omega, by omega, by omega⟩
      · rw [if_neg (by simpa using z)]
        refine wpS_bind (wpS_elemP ea ?_)
        have v' := v.one sa sb ea fun _ => Int.not_lt.mp z
        by_cases z3 : ia + 1 + 1 = a.size
        · rw [if_pos (by simpa using z3)]
          exact wpS_pure ⟨sm2, .inl ⟨_, _, rfl, v'.last sa sb z3 h2⟩⟩
        rw [if_neg (by simpa using z3)]
        split
        · exact wpS_pure ⟨sm2, .inr ⟨_, _, _, _, _, rfl, v', by omega, by omega, by omega⟩⟩
        · exact wpS_pure ⟨sm2, _, _, _, _, _, rfl, v', by omega, by omega, by omega⟩
    · rintro c st2 ⟨sm2, out, ia, ib, ac, bc, rfl, m2⟩
      exact ⟨sm2, .inr ⟨_, _, _, _, _, rfl, m2.v, m2.b1, m2.a1, Nat.le_trans (Nat.le_add_right _ _) m2.pr⟩⟩
    · rintro c st2 ⟨sm2, ⟨r, d, rfl, m2⟩ | ⟨out, ia, ib, ac, bc, rfl, m2⟩⟩
      · exact wpS_pure ⟨sm2, _, _, rfl, m2⟩
      dsimp only
      refine wpS_bind (wpS_lift (wpAny_rule ⟨rfl, ?_⟩))
      refine wpS_bind (wpS_mono (wpS_forRange (I := fun y c st' => Sm st st' ∧ ∃ out ia ib mg ac bc, c = (none, out, ia, ib, mg, ac, bc) ∧ Mid a b out ia ib (x + y)) (Q := fun c st' => Sm st st' ∧ ((∃ r d, c = (some r, d) ∧ Mg a b r) ∨ ∃ out ia ib mg ac bc, c = (none, out, ia, ib, mg, ac, bc) ∧ Mid a b out ia ib (x + 1))) ?_ ?_ ⟨sm2, _, _, _, _, _, _, rfl, m2⟩) ?_)
      · rintro y c st3 _ _ ⟨sm3, out, ia, ib, mg, ac, bc, rfl, m3⟩
        have ⟨v, b1, a1, pr⟩ := m3
        obtain ⟨tb, qb, eb⟩ := K_int b0 b1
        dsimp only
        by_cases z0 : mg > 1
        · rw [if_pos z0]
          refine wpS_bind (wpS_modify ?_)
          have sm4 : Sm st (SortSt.mk' (kindOf st3) (arrOf st3) (pendingOf st3) (mg - 1) (failedOf st3)) := ⟨sm3.kd, sm3.ar, sm3.pn, sm3.fl⟩
          refine wpS_bind (wpS_elemP eb ?_)
          refine wpS_bind (wpS_gallopP (by show kindOf st3 = _; rw [sm3.kd]; exact hk) rfl a0 (by omega) (by omega) (fun i j g1 g2 => sa _ _ (by omega) (by omega)) fun k k1 k2 k3 => ?_)
          dsimp only
          have w2 : ∀ i, ia ≤ i → i < ia + k → K a i ≤ K b ib := fun i g1 g2 => by
            have := k2 (i - ia) (by omega)
            rw [show ia + (i - ia) = i by omega] at this
            simpa [bey] using this
          have j3 : ia + k < a.size → K b ib ≤ K a (ia + k) := fun g => by
            have := k3 k (Nat.le_refl _) (by omega)
            exact Int.le_of_lt (by simpa [bey] using this)
          by_cases z3 : k > 0
          · rw [if_pos z3]
            have v1 := v.app sa (ia + k) (by omega) (by omega) fun i g1 g2 j g3 g4 => Int.le_trans (w2 i g1 g2) (sb _ _ g3 g4)
            by_cases z4 : ia + k + 1 = a.size
            · rw [if_pos (by simpa using z4)]
              exact wpS_pure ⟨sm4, .inl ⟨_, _, rfl, v1.last sa sb z4 h2⟩⟩
            rw [if_neg (by simpa using z4)]
            by_cases z5 : ia + k = a.size
            · rw [if_pos (by simpa using z5)]
              exact wpS_pure ⟨sm4, .inl ⟨_, _, rfl, v1.done sa sb (.inl z5)⟩⟩
            rw [if_neg (by simpa using z5)]
            refine wpS_bind (wpS_elemP eb ?_)
            have v2 := (v1.swap.one sb sa eb fun z => j3 z).swap
            by_cases z5 : ib + 1 = b.size
            · rw [if_pos (by simpa using z5)]
              exact wpS_pure ⟨sm4, .inl ⟨_, _, rfl, v2.done sa sb (.inr z5)⟩⟩
            rw [if_neg (by simpa using z5)]
            obtain ⟨ta, qa, ea⟩ := K_int a0 (show ia + k < a.size by omega)
            refine wpS_bind (wpS_elemP ea ?_)
            refine wpS_bind (wpS_gallopP (by show kindOf st3 = _; rw [sm3.kd]; exact hk) rfl b0 (by omega) (by omega) (fun i j g1 g2 => sb _ _ (by omega) (by omega)) fun k' k1' k2' k3' => ?_)
            dsimp only
            have w3 : ∀ i, ib + 1 ≤ i → i < ib + 1 + k' → K b i < K a (ia + k) := fun i g1 g2 => by
              have := k2' (i - (ib + 1)) (by omega)
              rw [show ib + 1 + (i - (ib + 1)) = i by omega] at this
              simpa [bey] using this
            have k3' : ib + 1 + k' < b.size → K a (ia + k) ≤ K b (ib + 1 + k') := fun g => by
              have := k3' k' (Nat.le_refl _) (by omega)
              simpa [bey] using this
            by_cases z6 : k' > 0
            · rw [if_pos z6]
              have v3 := (v2.swap.app sb (ib + 1 + k') (by omega) (by omega) fun i g1 g2 j g3 g4 => Int.le_trans (Int.le_of_lt (w3 i g1 g2)) (sa _ _ g3 g4)).swap
              by_cases z8 : ib + 1 + k' = b.size
              · rw [if_pos (by simpa using z8)]
                exact wpS_pure ⟨sm4, .inl ⟨_, _, rfl, v3.done sa sb (.inr z8)⟩⟩
              rw [if_neg (by simpa using z8)]
              refine wpS_bind (wpS_elemP ea ?_)
              have v4 := v3.one sa sb ea fun z => k3' z
              by_cases z7 : ia + k + 1 + 1 = a.size
              · rw [if_pos (by simpa using z7)]
                exact wpS_pure ⟨sm4, .inl ⟨_, _, rfl, v4.last sa sb z7 h2⟩⟩
              rw [if_neg (by simpa using z7)]
              split
              · exact wpS_pure ⟨sm4, .inr ⟨_, _, _, _, _, _, rfl, v4, by omega, by omega, by omega⟩⟩
              · exact wpS_pure ⟨sm4, _, _, _, _, _, _, rfl, v4, by omega, by omega, by omega⟩
            · rw [if_neg z6]
              have z9 : k' = 0 := by omega
              subst z9
              have v3 := v2
              refine wpS_bind (wpS_elemP ea ?_)
              have v4 := v3.one sa sb ea fun z => k3' z
              by_cases z7 : ia + k + 1 + 1 = a.size
              · rw [if_pos (by simpa using z7)]
                exact wpS_pure ⟨sm4, .inl ⟨_, _, rfl, v4.last sa sb z7 h2⟩⟩
              rw [if_neg (by simpa using z7)]
              split
              · exact wpS_pure ⟨sm4, .inr ⟨_, _, _, _, _, _, rfl, v4, by omega, by omega, by omega⟩⟩
              · exact wpS_pure ⟨sm4, _, _, _, _, _, _, rfl, v4, by omega, by omega, by omega⟩
          · rw [if_neg z3]
            have z4 : k = 0 := by omega
            subst z4
            have v1 := v
            refine wpS_bind (wpS_elemP eb ?_)
            have v2 := (v1.swap.one sb sa eb fun z => j3 z).swap
            by_cases z5 : ib + 1 = b.size
            · rw [if_pos (by simpa using z5)]
              exact wpS_pure ⟨sm4, .inl ⟨_, _, rfl, v2.done sa sb (.inr z5)⟩⟩
            rw [if_neg (by simpa using z5)]
            obtain ⟨ta, qa, ea⟩ := K_int a0 (show ia < a.size by omega)
            refine wpS_bind (wpS_elemP ea ?_)
            refine wpS_bind (wpS_gallopP (by show kindOf st3 = _; rw [sm3.kd]; exact hk) rfl b0 (by omega) (by omega) (fun i j g1 g2 => sb _ _ (by omega) (by omega)) fun k' k1' k2' k3' => ?_)
            dsimp only
            have w3 : ∀ i, ib + 1 ≤ i → i < ib + 1 + k' → K b i < K a (ia) := fun i g1 g2 => by
              have := k2' (i - (ib + 1)) (by omega)
              rw [show ib + 1 + (i - (ib + 1)) = i by omega] at this
              simpa [bey] using this
            have k3' : ib + 1 + k' < b.size → K a (ia) ≤ K b (ib + 1 + k') := fun g => by
              have := k3' k' (Nat.le_refl _) (by omega)
              simpa [bey] using this
            by_cases z6 : k' > 0
            · rw [if_pos z6]
              have v3 := (v2.swap.app sb (ib + 1 + k') (by omega) (by omega) fun i g1 g2 j g3 g4 => Int.le_trans (Int.le_of_lt (w3 i g1 g2)) (sa _ _ g3 g4)).swap
              by_cases z8 : ib + 1 + k' = b.size
              · rw [if_pos (by simpa using z8)]
                exact wpS_pure ⟨sm4, .inl ⟨_, _, rfl, v3.done sa sb (.inr z8)⟩⟩
              rw [if_neg (by simpa using z8)]
              refine wpS_bind (wpS_elemP ea ?_)
              have v4 := v3.one sa sb ea fun z => k3' z
              by_cases z7 : ia + 1 + 1 = a.size
              · rw [if_pos (by simpa using z7)]
                exact wpS_pure ⟨sm4, .inl ⟨_, _, rfl, v4.last sa sb z7 h2⟩⟩
              rw [if_neg (by simpa using z7)]
              split
              · exact wpS_pure ⟨sm4, .inr ⟨_, _, _, _, _, _, rfl, v4, by omega, by omega, by omega⟩⟩
              · exact wpS_pure ⟨sm4, _, _, _, _, _, _, rfl, v4, by omega, by omega, by omega⟩
            · rw [if_neg z6]
              have z9 : k' = 0 := by omega
              subst z9
              have v3 := v2
              refine wpS_bind (wpS_elemP ea ?_)
              have v4 := v3.one sa sb ea fun z => k3' z
              by_cases z7 : ia + 1 + 1 = a.size
              · rw [if_pos (by simpa using z7)]
                exact wpS_pure ⟨sm4, .inl ⟨_, _, rfl, v4.last sa sb z7 h2⟩⟩
              rw [if_neg (by simpa using z7)]
              split
              · exact wpS_pure ⟨sm4, .inr ⟨_, _, _, _, _, _, rfl, v4, by omega, by omega, by omega⟩⟩
              · exact wpS_pure ⟨sm4, _, _, _, _, _, _, rfl, v4, by omega, by omega, by omega⟩
        · rw [if_neg z0]
          refine wpS_bind (wpS_modify ?_)
          have sm4 : Sm st (SortSt.mk' (kindOf st3) (arrOf st3) (pendingOf st3) mg (failedOf st3)) := ⟨sm3.kd, sm3.ar, sm3.pn, sm3.fl⟩
          refine wpS_bind (wpS_elemP eb ?_)
          refine wpS_bind (wpS_gallopP (by show kindOf st3 = _; rw [sm3.kd]; exact hk) rfl a0 (by omega) (by omega) (fun i j g1 g2 => sa _ _ (by omega) (by omega)) fun k k1 k2 k3 => ?_)
          dsimp only
          have w2 : ∀ i, ia ≤ i → i < ia + k → K a i ≤ K b ib := fun i g1 g2 => by
            have := k2 (i - ia) (by omega)
            rw [show ia + (i - ia) = i by omega] at this
            simpa [bey] using this
          have j3 : ia + k < a.size → K b ib ≤ K a (ia + k) := fun g => by
            have := k3 k (Nat.le_refl _) (by omega)
            exact Int.le_of_lt (by simpa [bey] using this)
          by_cases z3 : k > 0
          · rw [if_pos z3]
            have v1 := v.app sa (ia + k) (by omega) (by omega) fun i g1 g2 j g3 g4 => Int.le_trans (w2 i g1 g2) (sb _ _ g3 g4)
            by_cases z4 : ia + k + 1 = a.size
            · rw [if_pos (by simpa using z4)]
              exact wpS_pure ⟨sm4, .inl ⟨_, _, rfl, v1.last sa sb z4 h2⟩⟩
            rw [if_neg (by simpa using z4)]
            by_cases z5 : ia + k = a.size
            · rw [if_pos (by simpa using z5)]
              exact wpS_pure ⟨sm4, .inl ⟨_, _, rfl, v1.done sa sb (.inl z5)⟩⟩
            rw [if_neg (by simpa using z5)]
            refine wpS_bind (wpS_elemP eb ?_)
            have v2 := (v1.swap.one sb sa eb fun z => j3 z).swap
            by_cases z5 : ib + 1 = b.size
            · rw [if_pos (by simpa using z5)]
              exact wpS_pure ⟨sm4, .inl ⟨_, _, rfl, v2.done sa sb (.inr z5)⟩⟩
            rw [if_neg (by simpa using z5)]
            obtain ⟨ta, qa, ea⟩ := K_int a0 (show ia + k < a.size by omega)
            refine wpS_bind (wpS_elemP ea ?_)
            refine wpS_bind (wpS_gallopP (by show kindOf st3 = _; rw [sm3.kd]; exact hk) rfl b0 (by omega) (by omega) (fun i j g1 g2 => sb _ _ (by omega) (by omega)) fun k' k1' k2' k3' => ?_)
            dsimp only
            have w3 : ∀ i, ib + 1 ≤ i → i < ib + 1 + k' → K b i < K a (ia + k) := fun i g1 g2 => by
              have := k2' (i - (ib + 1)) (by omega)
              rw [show ib + 1 + (i - (ib + 1)) = i by omega] at this
              simpa [bey] using this
            have k3' : ib + 1 + k' < b.size → K a (ia + k) ≤ K b (ib + 1 + k') := fun g => by
              have := k3' k' (Nat.le_refl _) (by omega)
              simpa [bey] using this
            by_cases z6 : k' > 0
            · rw [if_pos z6]
              have v3 := (v2.swap.app sb (ib + 1 + k') (by omega) (by omega) fun i g1 g2 j g3 g4 => Int.le_trans (Int.le_of_lt (w3 i g1 g2)) (sa _ _ g3 g4)).swap
              by_cases z8 : ib + 1 + k' = b.size
              · rw [if_pos (by simpa using z8)]
                exact wpS_pure ⟨sm4, .inl ⟨_, _, rfl, v3.done sa sb (.inr z8)⟩⟩
              rw [if_neg (by simpa using z8)]
              refine wpS_bind (wpS_elemP ea ?_)
              have v4 := v3.one sa sb ea fun z => k3' z
              by_cases z7 : ia + k + 1 + 1 = a.size
              · rw [if_pos (by simpa using z7)]
                exact wpS_pure ⟨sm4, .inl ⟨_, _, rfl, v4.last sa sb z7 h2⟩⟩
              rw [if_neg (by simpa using z7)]
              split
              · exact wpS_pure ⟨sm4, .inr ⟨_, _, _, _, _, _, rfl, v4, by omega, by omega, by omega⟩⟩
              · exact wpS_pure ⟨sm4, _, _, _, _, _, _, rfl, v4, by omega, by omega, by omega⟩
            · rw [if_neg z6]
              have z9 : k' = 0 := by omega
              subst z9
              have v3 := v2
              refine wpS_bind (wpS_elemP ea ?_)
              have v4 := v3.one sa sb ea fun z => k3' z
              by_cases z7 : ia + k + 1 + 1 = a.size
              · rw [if_pos (by simpa using z7)]
                exact wpS_pure ⟨sm4, .inl ⟨_, _, rfl, v4.last sa sb z7 h2⟩⟩
              rw [if_neg (by simpa using z7)]
              split
              · exact wpS_pure ⟨sm4, .inr ⟨_, _, _, _, _, _, rfl, v4, by omega, by omega, by omega⟩⟩
              · exact wpS_pure ⟨sm4, _, _, _, _, _, _, rfl, v4, by omega, by omega, by omega⟩
          · rw [if_neg z3]
            have z4 : k = 0 := by omega
            subst z4
            have v1 := v
            refine wpS_bind (wpS_elemP eb ?_)
            have v2 := (v1.swap.one sb sa eb fun z => j3 z).swap
            by_cases z5 : ib + 1 = b.size
            · rw [if_pos (by simpa using z5)]
              exact wpS_pure ⟨sm4, .inl ⟨_, _, rfl, v2.done sa sb (.inr z5)⟩⟩
            rw [if_neg (by simpa using z5)]
            obtain ⟨ta, qa, ea⟩ := K_int a0 (show ia < a.size by omega)
            refine wpS_bind (wpS_elemP ea ?_)
            refine wpS_bind (wpS_gallopP (by show kindOf st3 = _; rw [sm3.kd]; exact hk) rfl b0 (by omega) (by omega) (fun i j g1 g2 => sb _ _ (by omega) (by omega)) fun k' k1' k2' k3' => ?_)
            dsimp only
            have w3 : ∀ i, ib + 1 ≤ i → i < ib + 1 + k' → K b i < K a (ia) := fun i g1 g2 => by
              have := k2' (i - (ib + 1)) (by omega)
              rw [show ib + 1 + (i - (ib + 1)) = i by omega] at this
              simpa [bey] using this
            have k3' : ib + 1 + k' < b.size → K a (ia) ≤ K b (ib + 1 + k') := fun g => by
              have := k3' k' (Nat.le_refl _) (by omega)
              simpa [bey] using this
            by_cases z6 : k' > 0
            · rw [if_pos z6]
              have v3 := (v2.swap.app sb (ib + 1 + k') (by omega) (by omega) fun i g1 g2 j g3 g4 => Int.le_trans (Int.le_of_lt (w3 i g1 g2)) (sa _ _ g3 g4)).swap
              by_cases z8 : ib + 1 + k' = b.size
              · rw [if_pos (by simpa using z8)]
                exact wpS_pure ⟨sm4, .inl ⟨_, _, rfl, v3.done sa sb (.inr z8)⟩⟩
              rw [if_neg (by simpa using z8)]
              refine wpS_bind (wpS_elemP ea ?_)
              have v4 := v3.one sa sb ea fun z => k3' z
              by_cases z7 : ia + 1 + 1 = a.size
              · rw [if_pos (by simpa using z7)]
                exact wpS_pure ⟨sm4, .inl ⟨_, _, rfl, v4.last sa sb z7 h2⟩⟩
              rw [if_neg (by simpa using z7)]
              split
              · exact wpS_pure ⟨sm4, .inr ⟨_, _, _, _, _, _, rfl, v4, by omega, by omega, by omega⟩⟩
              · exact wpS_pure ⟨sm4, _, _, _, _, _, _, rfl, v4, by omega, by omega, by omega⟩
            · rw [if_neg z6]
              have z9 : k' = 0 := by omega
              subst z9
              have v3 := v2
              refine wpS_bind (wpS_elemP ea ?_)
              have v4 := v3.one sa sb ea fun z => k3' z
              by_cases z7 : ia + 1 + 1 = a.size
              · rw [if_pos (by simpa using z7)]
                exact wpS_pure ⟨sm4, .inl ⟨_, _, rfl, v4.last sa sb z7 h2⟩⟩
              rw [if_neg (by simpa using z7)]
              split
              · exact wpS_pure ⟨sm4, .inr ⟨_, _, _, _, _, _, rfl, v4, by omega, by omega, by omega⟩⟩
              · exact wpS_pure ⟨sm4, _, _, _, _, _, _, rfl, v4, by omega, by omega, by omega⟩
      · rintro c st3 ⟨sm3, out, ia, ib, mg, ac, bc, rfl, m3⟩
        refine ⟨sm3, .inr ⟨_, _, _, _, _, _, rfl, m3.v, m3.b1, m3.a1, ?_⟩⟩
        have := m3.pr
        omega
      · rintro c st3 ⟨sm3, ⟨r, d, rfl, m3⟩ | ⟨out, ia, ib, mg, ac, bc, rfl, m3⟩⟩
        · exact wpS_pure ⟨sm3, _, _, rfl, m3⟩
        dsimp only
        refine wpS_bind (wpS_modify (wpS_pure ?_))
        exact ⟨⟨sm3.kd, sm3.ar, sm3.pn, sm3.fl⟩, _, _, _, _, rfl, m3⟩
  · rintro c st1 ⟨sm1, out, ia, ib, mg, rfl, m1⟩
    have := m1.pr
    have := m1.a1
    have := m1.b1
    omega
  · rintro c st1 ⟨sm1, r, d, rfl, m1⟩
    exact wpS_pure (h _ _ m1 sm1)
end
end Ps
set_option Elab.async false
set_option linter.all false
set_option maxRecDepth 100000
set_option maxHeartbeats 1000000
namespace Ps
open PySem PyProof.Rows
structure InH (a b out : Array Keyed) (na nb : Nat) : Prop where
  la : na ≤ a.size
  lb : nb ≤ b.size
  perm : out.toList.Perm (a.toList.drop na ++ b.toList.drop nb)
  srt : out.toList.Pairwise (fun p q => nm q ≤ nm p)
  ha : ∀ p ∈ out.toList, ∀ i, i < na → K a i ≤ nm p
  hb : ∀ p ∈ out.toList, ∀ i, i < nb → K b i ≤ nm p
private theorem InH.swap {a b out : Array Keyed} {na nb : Nat} (v : InH a b out na nb) : InH b a out nb na := ⟨v.lb, v.la, v.perm.trans List.perm_append_comm, v.srt, v.hb, v.ha⟩
private theorem InH.app {a b out : Array Keyed} {na nb : Nat} (v : InH a b out na nb) (sa : Sr a) (m : Nat) (h1 : m ≤ na) (h : ∀ i, m ≤ i → i < na → ∀ j, j < nb → K b j ≤ K a i) : InH a b (out ++ (a.extract m na).reverse) m nb := by
  have la := v.la
  refine ⟨by omega, v.lb, ?_, ?_, ?_, ?_⟩
  · rw [Array.toList_append, Array.toList_reverse]
    have e : a.toList.drop m = (a.extract m na).toList ++ a.toList.drop na := by
      rw [extract_list]
      have e1 : a.toList = a.toList.take na ++ a.toList.drop na := (List.take_append_drop _ _).symm
      have e2 := congrArg (List.drop m) e1
      rw [List.drop_append_of_le_length (by simp; omega)] at e2
      exact e2
    rw [e]
    refine (v.perm.append (List.reverse_perm _)).trans ?_
    refine List.perm_append_comm.trans ?_
    rw [List.append_assoc]
  · rw [Array.toList_append, Array.toList_reverse, List.pairwise_append]
    refine ⟨v.srt, ?_, fun p hp q hq => ?_⟩
    · rw [List.pairwise_reverse, List.pairwise_iff_getElem]
      intro i j hi hj hij
      rw [extract_list] at *
      simp only [List.length_drop, List.length_take, Array.length_toList] at hi hj
      simp only [extract_list, List.getElem_drop, List.getElem_take]
      rw [K_list, K_list]
      exact sa _ _ (by omega) (by omega)
    · obtain ⟨j, j1, j2, j3, e⟩ := mem_ext (List.mem_reverse.mp hq)
      rw [e]; exact v.ha p hp j j2
  · intro p hp i h3
    rw [Array.toList_append, Array.toList_reverse] at hp
    rcases List.mem_append.mp hp with hp | hp
    · exact v.ha p hp i (by omega)
    · obtain ⟨j, j1, j2, j3, e⟩ := mem_ext (List.mem_reverse.mp hp)
      rw [e]; exact sa _ _ (by omega) (by omega)
  · intro p hp i h3
    rw [Array.toList_append, Array.toList_reverse] at hp
    rcases List.mem_append.mp hp with hp | hp
    · exact v.hb p hp i h3
    · obtain ⟨j, j1, j2, j3, e⟩ := mem_ext (List.mem_reverse.mp hp)
      rw [e]; exact h j j1 j2 i h3
private theorem InH.one {a b out : Array Keyed} {na nb : Nat} {p : Keyed} (v : InH a b out na nb) (sa : Sr a) (sb : Sr b) (e : a[na - 1]? = some p) (h0 : 0 < na) (h : 0 < nb → K b (nb - 1) ≤ K a (na - 1)) : InH a b (out.push p) (na - 1) nb := by
  have lb := v.lb
  have e1 : out.push p = out ++ (a.extract (na - 1) na).reverse := by
    have := push_ext (out := #[]) e
    rw [show na - 1 + 1 = na by omega] at this
    have e2 : a.extract (na - 1) na = #[p] := by simpa using this.symm
    rw [e2]; rfl
  rw [e1]
  refine v.app sa _ (by omega) fun i h1 h2 j h3 => ?_
  have : i = na - 1 := by omega
  subst this
  exact Int.le_trans (sb _ _ (by omega) (by omega)) (h (by omega))
private theorem InH.all {a b out : Array Keyed} (v : InH a b out 0 0) : Mg a b out.reverse := by
  refine ⟨?_, ?_⟩
  · rw [Array.toList_reverse]
    refine (List.reverse_perm _).trans ?_
    have := v.perm
    rwa [List.drop_zero, List.drop_zero] at this
  · rw [Array.toList_reverse, List.pairwise_reverse]
    exact v.srt
private theorem rev_app (o x y : Array Keyed) : (o ++ x.reverse ++ y.reverse).reverse = y ++ x ++ o.reverse := by
  simp [Array.reverse_append]
private theorem InH.done {a b out : Array Keyed} {na nb : Nat} (v : InH a b out na nb) (sa : Sr a) (sb : Sr b) (h : na = 0 ∨ nb = 0) : Mg a b (a.extract 0 na ++ b.extract 0 nb ++ out.reverse) := by
  have v1 := (v.swap.app sb 0 (Nat.zero_le _) fun i h1 h2 j h3 => by omega).swap
  have v2 := v1.app sa 0 (Nat.zero_le _) fun i h1 h2 j h3 => by omega
  have := v2.all
  rwa [rev_app] at this
private theorem InH.first {a b out : Array Keyed} {na nb : Nat} (v : InH a b out na nb) (sa : Sr a) (sb : Sr b) (e : nb = 1) (h : ∀ i, i < a.size → K b 0 ≤ K a i) : Mg a b (b.extract 0 nb ++ a.extract 0 na ++ out.reverse) := by
  have la := v.la
  have v1 := v.app sa 0 (Nat.zero_le _) fun i h1 h2 j h3 => by
    have : j = 0 := by omega
    subst this; exact h i (by omega)
  have v2 := (v1.swap.app sb 0 (Nat.zero_le _) fun i h1 h2 j h3 => by omega).swap
  have := v2.all
  rwa [rev_app] at this
private theorem InH.start {a b : Array Keyed} {p : Keyed} (sa : Sr a) (sb : Sr b) (ha : 0 < a.size) (e : a[a.size - 1]? = some p) (h : 0 < b.size → K b (b.size - 1) ≤ K a (a.size - 1)) : InH a b #[p] (a.size - 1) b.size := by
  have v : InH a b #[] a.size b.size := ⟨Nat.le_refl _, Nat.le_refl _, by simp, .nil, fun p h => by simp at h, fun p h => by simp at h⟩
  exact v.one sa sb e ha h
end Ps
set_option Elab.async false
set_option linter.all false
set_option maxRecDepth 100000
set_option maxHeartbeats 1000000
namespace Ps
open PySem PyProof.Rows
def mergeHiP : Array Keyed → Array Keyed → StateT SortSt Sem (Array Keyed) := sortPriv% PySem.Builtin.mergeHi
structure MiH (a b out : Array Keyed) (na nb x : Nat) : Prop where
  v : InH a b out na nb
  a1 : 0 < na
  b1 : 1 < nb
  pr : x + na + nb ≤ a.size + b.size
section
variable {prog : Program} {w : World} {A : Around} {E : Value → Shared → Prop} {s : Shared}
private theorem wpS_mergeHiP {a b : Array Keyed} {st : SortSt} {Q : Array Keyed → SortSt → Prop} (hk : kindOf st = oneType') (a0 : IntKeys a) (b0 : IntKeys b) (sa : Sr a) (sb : Sr b) (ha : 0 < a.size) (hb : 0 < b.size) (h1 : K b (b.size - 1) ≤ K a (a.size - 1)) (h2 : ∀ i, i < a.size → K b 0 ≤ K a i)
    (h : ∀ out st', Mg a b out → Sm st st' → Q out st') :
    wpS (model prog w) A E s (mergeHiP a b) Q st := by
  refine wpS_bind (wpS_lift (wpAny_rule ⟨rfl, ?_⟩))
  obtain ⟨t, q, e⟩ := K_int a0 (show a.size - 1 < a.size by omega)
  refine wpS_bind (wpS_elemP e ?_)
  have v := InH.start sa sb ha e fun _ => h1
  dsimp only
  by_cases z1 : a.size - 1 = 0
  · rw [if_pos (by simpa using z1)]
    exact wpS_pure (h _ st (v.done sa sb (.inl z1)) (Sm.rfl' _))
  rw [if_neg (by simpa using z1)]
  by_cases z2 : b.size = 1
  · rw [if_pos (by simpa using z2)]
    exact wpS_pure (h _ st (v.first sa sb z2 h2) (Sm.rfl' _))
  rw [if_neg (by simpa using z2)]
  refine wpS_bind (wpS_get ?_)
  refine wpS_bind (wpS_mono (wpS_forRange (I := fun x c st' => Sm st st' ∧ ∃ na nb out mg, c = (none, na, nb, out, mg) ∧ MiH a b out na nb x) (Q := fun c st' => Sm st st' ∧ ∃ r d, c = (some r, d) ∧ Mg a b r) ?_ ?_ ⟨Sm.rfl' _, _, _, _, _, rfl, v, by omega, by omega, by omega⟩) ?_)
  · rintro x c st1 _ _ ⟨sm1, na, nb, out, mg, rfl, m1⟩
    dsimp only
    refine wpS_bind (wpS_mono (wpS_forRange (I := fun y c st' => Sm st st' ∧ ∃ na nb out ac bc, c = (none, na, nb, out, ac, bc) ∧ MiH a b out na nb (x + y)) (Q := fun c st' => Sm st st' ∧ ((∃ r d, c = (some r, d) ∧ Mg a b r) ∨ ∃ na nb out ac bc, c = (none, na, nb, out, ac, bc) ∧ MiH a b out na nb x)) ?_ ?_ ⟨sm1, _, _, _, _, _, rfl, m1⟩) ?_)
    · rintro y c st2 _ _ ⟨sm2, na, nb, out, ac, bc, rfl, m2⟩
      have ⟨v, a1, b1, pr⟩ := m2
      have la := v.la
      have lb := v.lb
      obtain ⟨tb, qb, eb⟩ := K_int b0 (show nb - 1 < b.size by omega)
      obtain ⟨ta, qa, ea⟩ := K_int a0 (show na - 1 < a.size by omega)
      dsimp only
      refine wpS_bind (wpS_elemP eb (wpS_bind (wpS_elemP ea (wpS_bind (wpS_ltP (by rw [sm2.kd]; exact hk) rfl rfl ?_)))))
      dsimp only
      by_cases z : K b (nb - 1) < K a (na - 1)
      · rw [if_pos (decide_eq_true z)]
        refine wpS_bind (wpS_elemP ea ?_)
        have v' := v.one sa sb ea a1 fun _ => Int.le_of_lt z
        by_cases z3 : na - 1 = 0
        · rw [if_pos (by simpa using z3)]
          exact wpS_pure ⟨sm2, .inl ⟨_, _, rfl, v'.done sa sb (.inl z3)⟩⟩
        rw [if_neg (by simpa using z3)]
        split
        · exact wpS_pure ⟨sm2, .inr ⟨_, _, _, _, _, rfl, v', by omega, by omega, by omega⟩⟩
        · exact wpS_pure ⟨sm2, _, _, _, _, _, rfl, v', by omega, by omega, by omega⟩
      · rw [if_neg (by simpa using z)]
        refine wpS_bind (wpS_elemP eb ?_)
        have v' := (v.swap.one sb sa eb (by omega) fun _ => Int.not_lt.mp z).swap
        by_cases z3 : nb - 1 = 1
        · rw [if_pos (by simpa using z3)]
          exact wpS_pure ⟨sm2, .inl ⟨_, _, rfl, v'.first sa sb z3 h2⟩⟩
        rw [if_neg (by simpa using z3)]
        split
        · exact wpS_pure ⟨sm2, .inr ⟨_, _, _, _, _, rfl, v', by omega, by omega, by omega⟩⟩
        · exact wpS_pure ⟨sm2, _, _, _, _, _, rfl, v', by omega, by omega, by omega⟩
    · rintro c st2 ⟨sm2, na, nb, out, ac, bc, rfl, m2⟩
      have pr := m2.pr
      exact ⟨sm2, .inr ⟨_, _, _, _, _, rfl, m2.v, m2.a1, m2.b1, by omega⟩⟩
    · rintro c st2 ⟨sm2, ⟨r, d, rfl, m2⟩ | ⟨na, nb, out, ac, bc, rfl, m2⟩⟩
      · exact wpS_pure ⟨sm2, _, _, rfl, m2⟩
      dsimp only
      refine wpS_bind (wpS_lift (wpAny_rule ⟨rfl, ?_⟩))
      refine wpS_bind (wpS_mono (wpS_forRange (I := fun y c st' => Sm st st' ∧ ∃ na nb out mg ac bc, c = (none, na, nb, out, mg, ac, bc) ∧ MiH a b out na nb (x + y)) (Q := fun c st' => Sm st st' ∧ ((∃ r d, c = (some r, d) ∧ Mg a b r) ∨ ∃ na nb out mg ac bc, c = (none, na, nb, out, mg, ac, bc) ∧ MiH a b out na nb (x + 1))) ?_ ?_ ⟨sm2, _, _, _, _, _, _, rfl, m2⟩) ?_)
      · rintro y c st3 _ _ ⟨sm3, na, nb, out, mg, ac, bc, rfl, m3⟩
        have ⟨v, a1, b1, pr⟩ := m3
        have la := v.la
        have lb := v.lb
        obtain ⟨tb, qb, eb⟩ := K_int b0 (show nb - 1 < b.size by omega)
        dsimp only
        by_cases z0 : mg > 1
        · rw [if_pos z0]
          refine wpS_bind (wpS_modify ?_)
          have sm4 : Sm st (SortSt.mk' (kindOf st3) (arrOf st3) (pendingOf st3) (mg - 1) (failedOf st3)) := ⟨sm3.kd, sm3.ar, sm3.pn, sm3.fl⟩
          refine wpS_bind (wpS_elemP eb ?_)
          refine wpS_bind (wpS_gallopP (by show kindOf st3 = _; rw [sm3.kd]; exact hk) rfl a0 (by omega) (by omega) (fun i j g1 g2 => sa _ _ (by omega) (by omega)) fun k k1 k2 k3 => ?_)
          dsimp only
          have w2 : ∀ i, k ≤ i → i < na → K b (nb - 1) ≤ K a i := fun i g1 g2 => by
            have := k3 i g1 g2
            rw [Nat.zero_add] at this
            exact Int.le_of_lt (by simpa [bey] using this)
          have j3 : 0 < k → K a (k - 1) ≤ K b (nb - 1) := fun g => by
            have := k2 (k - 1) (by omega)
            rw [Nat.zero_add] at this
            simpa [bey] using this
          by_cases z3 : na - k > 0
          · rw [if_pos z3]
            have v1 := v.app sa k (by omega) fun i g1 g2 j g3 => Int.le_trans (sb _ _ (by omega) (by omega)) (w2 i g1 g2)
            by_cases z4 : k = 0
            · rw [if_pos (by simpa using z4)]
              exact wpS_pure ⟨sm4, .inl ⟨_, _, rfl, v1.done sa sb (.inl z4)⟩⟩
            rw [if_neg (by simpa using z4)]
            refine wpS_bind (wpS_elemP eb ?_)
            have v2 := (v1.swap.one sb sa eb (by omega) fun z => j3 z).swap
            by_cases z5 : nb - 1 = 1
            · rw [if_pos (by simpa using z5)]
              exact wpS_pure ⟨sm4, .inl ⟨_, _, rfl, v2.first sa sb z5 h2⟩⟩
            rw [if_neg (by simpa using z5)]
            obtain ⟨ta, qa, ea⟩ := K_int a0 (show k - 1 < a.size by omega)
            refine wpS_bind (wpS_elemP ea ?_)
            refine wpS_bind (wpS_gallopP (by show kindOf st3 = _; rw [sm3.kd]; exact hk) rfl b0 (by omega) (by omega) (fun i j g1 g2 => sb _ _ (by omega) (by omega)) fun k' k1' k2' k3' => ?_)
            dsimp only
            have w3 : ∀ i, k' ≤ i → i < nb - 1 → K a (k - 1) ≤ K b i := fun i g1 g2 => by
              have := k3' i g1 g2
              rw [Nat.zero_add] at this
              simpa [bey] using this
            have k3' : 0 < k' → K b (k' - 1) ≤ K a (k - 1) := fun g => by
              have := k2' (k' - 1) (by omega)
              rw [Nat.zero_add] at this
              exact Int.le_of_lt (by simpa [bey] using this)
            by_cases z6 : nb - 1 - k' > 0
            · rw [if_pos z6]
              have v3 := (v2.swap.app sb k' (by omega) fun i g1 g2 j g3 => Int.le_trans (sa _ _ (by omega) (by omega)) (w3 i g1 g2)).swap
              by_cases z8 : k' = 1
              · rw [if_pos (by simpa using z8)]
                exact wpS_pure ⟨sm4, .inl ⟨_, _, rfl, v3.first sa sb z8 h2⟩⟩
              rw [if_neg (by simpa using z8)]
              by_cases z9 : k' = 0
              · rw [if_pos (by simpa using z9)]
                exact wpS_pure ⟨sm4, .inl ⟨_, _, rfl, v3.done sa sb (.inr z9)⟩⟩
              rw [if_neg (by simpa using z9)]
              refine wpS_bind (wpS_elemP ea ?_)
              have v4 := v3.one sa sb ea (by omega) fun z => k3' z
              by_cases z7 : k - 1 = 0
              · rw [if_pos (by simpa using z7)]
                exact wpS_pure ⟨sm4, .inl ⟨_, _, rfl, v4.done sa sb (.inl z7)⟩⟩
              rw [if_neg (by simpa using z7)]
              split
              · exact wpS_pure ⟨sm4, .inr ⟨_, _, _, _, _, _, rfl, v4, by omega, by omega, by omega⟩⟩
              · exact wpS_pure ⟨sm4, _, _, _, _, _, _, rfl, v4, by omega, by omega, by omega⟩
            · rw [if_neg z6]
              have z9 : k' = nb - 1 := by omega
              subst z9
              have v3 := v2
              refine wpS_bind (wpS_elemP ea ?_)
              have v4 := v3.one sa sb ea (by omega) fun z => k3' z
              by_cases z7 : k - 1 = 0
              · rw [if_pos (by simpa using z7)]
                exact wpS_pure ⟨sm4, .inl ⟨_, _, rfl, v4.done sa sb (.inl z7)⟩⟩
              rw [if_neg (by simpa using z7)]
              split
              · exact wpS_pure ⟨sm4, .inr ⟨_, _, _, _, _, _, rfl, v4, by omega, by omega, by omega⟩⟩
              · exact wpS_pure ⟨sm4, _, _, _, _, _, _, rfl, v4, by omega, by omega, by omega⟩
          · rw [if_neg z3]
            have z4 : k = na := by omega
            subst z4
            have v1 := v
            refine wpS_bind (wpS_elemP eb ?_)
            have v2 := (v1.swap.one sb sa eb (by omega) fun z => j3 z).swap
            by_cases z5 : nb - 1 = 1
            · rw [if_pos (by simpa using z5)]
              exact wpS_pure ⟨sm4, .inl ⟨_, _, rfl, v2.first sa sb z5 h2⟩⟩
            rw [if_neg (by simpa using z5)]
            obtain ⟨ta, qa, ea⟩ := K_int a0 (show k - 1 < a.size by omega)
            refine wpS_bind (wpS_elemP ea ?_)
            refine wpS_bind (wpS_gallopP (by show kindOf st3 = _; rw [sm3.kd]; exact hk) rfl b0 (by omega) (by omega) (fun i j g1 g2 => sb _ _ (by omega) (by omega)) fun k' k1' k2' k3' => ?_)
            dsimp only
            have w3 : ∀ i, k' ≤ i → i < nb - 1 → K a (k - 1) ≤ K b i := fun i g1 g2 => by
              have := k3' i g1 g2
              rw [Nat.zero_add] at this
              simpa [bey] using this
            have k3' : 0 < k' → K b (k' - 1) ≤ K a (k - 1) := fun g => by
              have := k2' (k' - 1) (by omega)
              rw [Nat.zero_add] at this
              exact Int.le_of_lt (by simpa [bey] using this)
            by_cases z6 : nb - 1 - k' > 0
            · rw [if_pos z6]
              have v3 := (v2.swap.app sb k' (by omega) fun i g1 g2 j g3 => Int.le_trans (sa _ _ (by omega) (by omega)) (w3 i g1 g2)).swap
              by_cases z8 : k' = 1
              · rw [if_pos (by simpa using z8)]
                exact wpS_pure ⟨sm4, .inl ⟨_, _, rfl, v3.first sa sb z8 h2⟩⟩
              rw [if_neg (by simpa using z8)]
              by_cases z9 : k' = 0
              · rw [if_pos (by simpa using z9)]
                exact wpS_pure ⟨sm4, .inl ⟨_, _, rfl, v3.done sa sb (.inr z9)⟩⟩
              rw [if_neg (by simpa using z9)]
              refine wpS_bind (wpS_elemP ea ?_)
              have v4 := v3.one sa sb ea (by omega) fun z => k3' z
              by_cases z7 : k - 1 = 0
              · rw [if_pos (by simpa using z7)]
                exact wpS_pure ⟨sm4, .inl ⟨_, _, rfl, v4.done sa sb (.inl z7)⟩⟩
              rw [if_neg (by simpa using z7)]
              split
              · exact wpS_pure ⟨sm4, .inr ⟨_, _, _, _, _, _, rfl, v4, by omega, by omega, by omega⟩⟩
              · exact wpS_pure ⟨sm4, _, _, _, _, _, _, rfl, v4, by omega, by omega, by omega⟩
            · rw [if_neg z6]
              have z9 : k' = nb - 1 := by omega
              subst z9
              have v3 := v2
              refine wpS_bind (wpS_elemP ea ?_)
              have v4 := v3.one sa sb ea (by omega) fun z => k3' z
              by_cases z7 : k - 1 = 0
              · rw [if_pos (by simpa using z7)]
                exact wpS_pure ⟨sm4, .inl ⟨_, _, rfl, v4.done sa sb (.inl z7)⟩⟩
              rw [if_neg (by simpa using z7)]
              split
              · exact wpS_pure ⟨sm4, .inr ⟨_, _, _, _, _, _, rfl, v4, by omega, by omega, by omega⟩⟩
              · exact wpS_pure ⟨sm4, _, _, _, _, _, _, rfl, v4, by omega, by omega, by omega⟩
        · rw [if_neg z0]
          refine wpS_bind (wpS_modify ?_)
          have sm4 : Sm st (SortSt.mk' (kindOf st3) (arrOf st3) (pendingOf st3) mg (failedOf st3)) := ⟨sm3.kd, sm3.ar, sm3.pn, sm3.fl⟩
          refine wpS_bind (wpS_elemP eb ?_)
          refine wpS_bind (wpS_gallopP (by show kindOf st3 = _; rw [sm3.kd]; exact hk) rfl a0 (by omega) (by omega) (fun i j g1 g2 => sa _ _ (by omega) (by omega)) fun k k1 k2 k3 => ?_)
          dsimp only
          have w2 : ∀ i, k ≤ i → i < na → K b (nb - 1) ≤ K a i := fun i g1 g2 => by
            have := k3 i g1 g2
            rw [Nat.zero_add] at this
            exact Int.le_of_lt (by simpa [bey] using this)
          have j3 : 0 < k → K a (k - 1) ≤ K b (nb - 1) := fun g => by
            have := k2 (k - 1) (by omega)
            rw [Nat.zero_add] at this
            simpa [bey] using this
          by_cases z3 : na - k > 0
          · rw [if_pos z3]
            have v1 := v.app sa k (by omega) fun i g1 g2 j g3 => Int.le_trans (sb _ _ (by omega) (by omega)) (w2 i g1 g2)
            by_cases z4 : k = 0
            · rw [if_pos (by simpa using z4)]
              exact wpS_pure ⟨sm4, .inl ⟨_, _, rfl, v1.done sa sb (.inl z4)⟩⟩
            rw [if_neg (by simpa using z4)]
            refine wpS_bind (wpS_elemP eb ?_)
            have v2 := (v1.swap.one sb sa eb (by omega) fun z => j3 z).swap
            by_cases z5 : nb - 1 = 1
            · rw [if_pos (by simpa using z5)]
              exact wpS_pure ⟨sm4, .inl ⟨_, _, rfl, v2.first sa sb z5 h2⟩⟩
            rw [if_neg (by simpa using z5)]
            obtain ⟨ta, qa, ea⟩ := K_int a0 (show k - 1 < a.size by omega)
            refine wpS_bind (wpS_elemP ea ?_)
            refine wpS_bind (wpS_gallopP (by show kindOf st3 = _; rw [sm3.kd]; exact hk) rfl b0 (by omega) (by omega) (fun i j g1 g2 => sb _ _ (by omega) (by omega)) fun k' k1' k2' k3' => ?_)
            dsimp only
            have w3 : ∀ i, k' ≤ i → i < nb - 1 → K a (k - 1) ≤ K b i := fun i g1 g2 => by
              have := k3' i g1 g2
              rw [Nat.zero_add] at this
              simpa [bey] using this
            have k3' : 0 < k' → K b (k' - 1) ≤ K a (k - 1) := fun g => by
              have := k2' (k' - 1) (by omega)
              rw [Nat.zero_add] at this
              exact Int.le_of_lt (by simpa [bey] using this)
            by_cases z6 : nb - 1 - k' > 0
            · rw [if_pos z6]
              have v3 := (v2.swap.app sb k' (by omega) fun i g1 g2 j g3 => Int.le_trans (sa _ _ (by omega) (by omega)) (w3 i g1 g2)).swap
              by_cases z8 : k' = 1
              · rw [if_pos (by simpa using z8)]
                exact wpS_pure ⟨sm4, .inl ⟨_, _, rfl, v3.first sa sb z8 h2⟩⟩
              rw [if_neg (by simpa using z8)]
              by_cases z9 : k' = 0
              · rw [if_pos (by simpa using z9)]
                exact wpS_pure ⟨sm4, .inl ⟨_, _, rfl, v3.done sa sb (.inr z9)⟩⟩
              rw [if_neg (by simpa using z9)]
              refine wpS_bind (wpS_elemP ea ?_)
              have v4 := v3.one sa sb ea (by omega) fun z => k3' z
              by_cases z7 : k - 1 = 0
              · rw [if_pos (by simpa using z7)]
                exact wpS_pure ⟨sm4, .inl ⟨_, _, rfl, v4.done sa sb (.inl z7)⟩⟩
              rw [if_neg (by simpa using z7)]
              split
              · exact wpS_pure ⟨sm4, .inr ⟨_, _, _, _, _, _, rfl, v4, by omega, by omega, by omega⟩⟩
              · exact wpS_pure ⟨sm4, _, _, _, _, _, _, rfl, v4, by omega, by omega, by omega⟩
            · rw [if_neg z6]
              have z9 : k' = nb - 1 := by omega
              subst z9
              have v3 := v2
              refine wpS_bind (wpS_elemP ea ?_)
              have v4 := v3.one sa sb ea (by omega) fun z => k3' z
              by_cases z7 : k - 1 = 0
              · rw [if_pos (by simpa using z7)]
                exact wpS_pure ⟨sm4, .inl ⟨_, _, rfl, v4.done sa sb (.inl z7)⟩⟩
              rw [if_neg (by simpa using z7)]
              split
              · exact wpS_pure ⟨sm4, .inr ⟨_, _, _, _, _, _, rfl, v4, by omega, by omega, by omega⟩⟩
              · exact wpS_pure ⟨sm4, _, _, _, _, _, _, rfl, v4, by omega, by omega, by omega⟩
          · rw [if_neg z3]
            have z4 : k = na := by omega
            subst z4
            have v1 := v
            refine wpS_bind (wpS_elemP eb ?_)
            have v2 := (v1.swap.one sb sa eb (by omega) fun z => j3 z).swap
            by_cases z5 : nb - 1 = 1
            · rw [if_pos (by simpa using z5)]
              exact wpS_pure ⟨sm4, .inl ⟨_, _, rfl, v2.first sa sb z5 h2⟩⟩
            rw [if_neg (by simpa using z5)]
            obtain ⟨ta, qa, ea⟩ := K_int a0 (show k - 1 < a.size by omega)
            refine wpS_bind (wpS_elemP ea ?_)
            refine wpS_bind (wpS_gallopP (by show kindOf st3 = _; rw [sm3.kd]; exact hk) rfl b0 (by omega) (by omega) (fun i j g1 g2 => sb _ _ (by omega) (by omega)) fun k' k1' k2' k3' => ?_)
            dsimp only
            have w3 : ∀ i, k' ≤ i → i < nb - 1 → K a (k - 1) ≤ K b i := fun i g1 g2 => by
              have := k3' i g1 g2
              rw [Nat.zero_add] at this
              simpa [bey] using this
            have k3' : 0 < k' → K b (k' - 1) ≤ K a (k - 1) := fun g => by
              have := k2' (k' - 1) (by omega)
              rw [Nat.zero_add] at this
              exact Int.le_of_lt (by simpa [bey] using this)
            by_cases z6 : nb - 1 - k' > 0
            · rw [if_pos z6]
              have v3 := (v2.swap.app sb k' (by omega) fun i g1 g2 j g3 => Int.le_trans (sa _ _ (by omega) (by omega)) (w3 i g1 g2)).swap
              by_cases z8 : k' = 1
              · rw [if_pos (by simpa using z8)]
                exact wpS_pure ⟨sm4, .inl ⟨_, _, rfl, v3.first sa sb z8 h2⟩⟩
              rw [if_neg (by simpa using z8)]
              by_cases z9 : k' = 0
              · rw [if_pos (by simpa using z9)]
                exact wpS_pure ⟨sm4, .inl ⟨_, _, rfl, v3.done sa sb (.inr z9)⟩⟩
              rw [if_neg (by simpa using z9)]
              refine wpS_bind (wpS_elemP ea ?_)
              have v4 := v3.one sa sb ea (by omega) fun z => k3' z
              by_cases z7 : k - 1 = 0
              · rw [if_pos (by simpa using z7)]
                exact wpS_pure ⟨sm4, .inl ⟨_, _, rfl, v4.done sa sb (.inl z7)⟩⟩
              rw [if_neg (by simpa using z7)]
              split
              · exact wpS_pure ⟨sm4, .inr ⟨_, _, _, _, _, _, rfl, v4, by omega, by omega, by omega⟩⟩
              · exact wpS_pure ⟨sm4, _, _, _, _, _, _, rfl, v4, by omega, by omega, by omega⟩
            · rw [if_neg z6]
              have z9 : k' = nb - 1 := by omega
              subst z9
              have v3 := v2
              refine wpS_bind (wpS_elemP ea ?_)
              have v4 := v3.one sa sb ea (by omega) fun z => k3' z
              by_cases z7 : k - 1 = 0
              · rw [if_pos (by simpa using z7)]
                exact wpS_pure ⟨sm4, .inl ⟨_, _, rfl, v4.done sa sb (.inl z7)⟩⟩
              rw [if_neg (by simpa using z7)]
              split
              · exact wpS_pure ⟨sm4, .inr ⟨_, _, _, _, _, _, rfl, v4, by omega, by omega, by omega⟩⟩
              · exact wpS_pure ⟨sm4, _, _, _, _, _, _, rfl, v4, by omega, by omega, by omega⟩
      · rintro c st3 ⟨sm3, na, nb, out, mg, ac, bc, rfl, m3⟩
        refine ⟨sm3, .inr ⟨_, _, _, _, _, _, rfl, m3.v, m3.a1, m3.b1, ?_⟩⟩
        have := m3.pr
        omega
      · rintro c st3 ⟨sm3, ⟨r, d, rfl, m3⟩ | ⟨na, nb, out, mg, ac, bc, rfl, m3⟩⟩
        · exact wpS_pure ⟨sm3, _, _, rfl, m3⟩
        dsimp only
        refine wpS_bind (wpS_modify (wpS_pure ?_))
        exact ⟨⟨sm3.kd, sm3.ar, sm3.pn, sm3.fl⟩, _, _, _, _, rfl, m3⟩
  · rintro c st1 ⟨sm1, na, nb, out, mg, rfl, m1⟩
    have := m1.pr
    have := m1.a1
    have := m1.b1
    omega
  · rintro c st1 ⟨sm1, r, d, rfl, m1⟩
    exact wpS_pure (h _ _ m1 sm1)
end
end Ps
set_option Elab.async false
set_option linter.all false
set_option maxRecDepth 100000
set_option maxHeartbeats 1000000
namespace Ps
open PySem PyProof.Rows
def SrI (xs : Array Keyed) (lo n : Nat) : Prop := ∀ i j, lo ≤ i → i ≤ j → j < lo + n → K xs i ≤ K xs j
def NoI (xs : Array Keyed) (lo n : Nat) : Prop := ∀ i j, lo ≤ i → i ≤ j → j < lo + n → K xs j ≤ K xs i
structure Bs (a₀ : Array Keyed) (st₀ st : SortSt) (lo : Nat) : Prop where
  perm : (arrOf st).Perm a₀
  kd : kindOf st = oneType'
  fl : failedOf st = none
  pn : pendingOf st = pendingOf st₀
  pf : ∀ i, i < lo → K (arrOf st) i = K (arrOf st₀) i
private theorem Bs.size {a₀ : Array Keyed} {st₀ st : SortSt} {lo : Nat} (B : Bs a₀ st₀ st lo) : (arrOf st).size = a₀.size := B.perm.size_eq
private theorem Bs.ints {a₀ : Array Keyed} {st₀ st : SortSt} {lo : Nat} (B : Bs a₀ st₀ st lo) (h0 : IntKeys a₀) : IntKeys (arrOf st) := fun p hp => h0 p ((Array.perm_iff_toList_perm.mp B.perm).mem_iff.mp hp)
section
variable {prog : Program} {w : World} {A : Around} {E : Value → Shared → Prop} {s : Shared} {a₀ : Array Keyed} {st₀ : SortSt} {lo : Nat}
private theorem wpS_ltB {st : SortSt} {i j : Nat} {Q : Option Bool → SortSt → Prop} (B : Bs a₀ st₀ st lo) (h0 : IntKeys a₀) (hi : i < a₀.size) (hj : j < a₀.size) (h : Q (some (decide (K (arrOf st) i < K (arrOf st) j))) st) : wpS (model prog w) A E s (ltAt' i j) Q st := by
  obtain ⟨t, p, e1⟩ := K_int (B.ints h0) (show i < (arrOf st).size by rw [B.size]; exact hi)
  obtain ⟨u, q, e2⟩ := K_int (B.ints h0) (show j < (arrOf st).size by rw [B.size]; exact hj)
  exact wpS_ltAt B.kd e1 e2 h
abbrev revd (st : SortSt) (i j : Nat) : SortSt := setArr st (mirror (arrOf st) i j ((j - i) / 2))
private theorem wpS_revB {st : SortSt} {i j : Nat} {Q : Unit → SortSt → Prop} (h : Q () (revd st i j)) : wpS (model prog w) A E s (reverseSlice' i j) Q st := by
  rw [reverseSlice'_eq]; exact wpS_modify h
private theorem Bs.rev {st : SortSt} {i j : Nat} (B : Bs a₀ st₀ st lo) (h1 : lo ≤ i) (h2 : j ≤ a₀.size) : Bs a₀ st₀ (revd st i j) lo :=
  ⟨(mirror_perm _ _ _ _).trans B.perm, B.kd, B.fl, B.pn, fun m hm => by
    show K (mirror (arrOf st) i j ((j - i) / 2)) m = _
    rw [K_mirror (by rw [B.size]; exact h2), if_neg (by omega)]; exact B.pf m hm⟩
private theorem sr_rev {st : SortSt} {m : Nat} (h : NoI (arrOf st) lo m) (hs : lo + m ≤ (arrOf st).size) : SrI (arrOf (revd st lo (lo + m))) lo m := fun i j g1 g2 g3 => by
  show K (mirror (arrOf st) lo (lo + m) ((lo + m - lo) / 2)) i ≤ K (mirror (arrOf st) lo (lo + m) ((lo + m - lo) / 2)) j
  rw [K_mirror hs, K_mirror hs, if_pos (by omega), if_pos (by omega)]
  exact h _ _ (by omega) (by omega) (by omega)
private theorem wpS_ascB {st : SortSt} {a nrem : Nat} {f : Nat → Option (Option Nat) × Nat → StateT SortSt Sem (ForInStep (Option (Option Nat) × Nat))} {R : Option (Option Nat) × Nat → SortSt → Prop} (ha : 1 ≤ a) (han : a ≤ nrem) (hs : SrI (arrOf st) lo a)
    (s1 : ∀ x T, x < nrem → 1 ≤ x → (K (arrOf st) (lo + x) < K (arrOf st) (lo + x - 1) → T (.done (none, x)) st) → (¬ K (arrOf st) (lo + x) < K (arrOf st) (lo + x - 1) → T (.yield (none, x + 1)) st) → wpS (model prog w) A E s (f x (none, x)) T st)
    (hR : ∀ n, a ≤ n → n ≤ nrem → SrI (arrOf st) lo n → (n = nrem ∨ K (arrOf st) (lo + n) < K (arrOf st) (lo + n - 1)) → R (none, n) st) : wpS (model prog w) A E s (forIn [a:nrem] (none, a) f) R st := by
  refine wpS_forRange (I := fun x c st' => st' = st ∧ c = (none, x) ∧ SrI (arrOf st) lo x) ?_ ?_ ⟨rfl, rfl, hs⟩
  · rintro x c st' hx hn ⟨rfl, rfl, g⟩
    refine s1 x _ hn (by omega) (fun z => hR x hx (by omega) g (.inr z)) fun z => ⟨rfl, rfl, fun i j h1 h2 h3 => ?_⟩
    by_cases y : j < lo + x
    · exact g i j h1 h2 y
    · have : j = lo + x := by omega
      subst this
      by_cases y' : i = lo + x
      · subst y'; exact Int.le_refl _
      · exact Int.le_trans (g i (lo + x - 1) h1 (by omega) (by omega)) (Int.not_lt.mp z)
  · rintro c st' ⟨rfl, rfl, g⟩
    rw [show max a nrem = nrem by omega] at g ⊢
    exact hR nrem han (Nat.le_refl _) g (.inl rfl)
private theorem wpS_descB {st : SortSt} {n nrem : Nat} {f : Nat → Option (Option Nat) × Nat × Nat → StateT SortSt Sem (ForInStep (Option (Option Nat) × Nat × Nat))} {R : Option (Option Nat) × Nat × Nat → SortSt → Prop} (B : Bs a₀ st₀ st lo) (hn : lo + nrem ≤ a₀.size) (h1 : 1 ≤ n) (hnn : n ≤ nrem) (hs : NoI (arrOf st) lo n)
    (s1 : ∀ x q st' T, Bs a₀ st₀ st' lo → x < nrem → q + 1 ≤ x →
      (K (arrOf st') (lo + x) < K (arrOf st') (lo + x - 1) → q > 0 → T (.yield (none, x + 1, 0)) (revd st' (lo + x - (q + 1)) (lo + x))) →
      (K (arrOf st') (lo + x) < K (arrOf st') (lo + x - 1) → ¬ q > 0 → T (.yield (none, x + 1, 0)) st') →
      (K (arrOf st') (lo + x - 1) < K (arrOf st') (lo + x) → T (.done (none, x, q)) st') →
      (K (arrOf st') (lo + x) = K (arrOf st') (lo + x - 1) → T (.yield (none, x + 1, q + 1)) st') → wpS (model prog w) A E s (f x (none, x, q)) T st')
    (hR : ∀ m q st', Bs a₀ st₀ st' lo → n ≤ m → m ≤ nrem → NoI (arrOf st') lo m → q + 1 ≤ m → (∀ i, lo + m - (q + 1) ≤ i → i < lo + m → K (arrOf st') i = K (arrOf st') (lo + m - 1)) → R (none, m, q) st') :
    wpS (model prog w) A E s (forIn [n:nrem] (none, n, 0) f) R st := by
  refine wpS_forRange (I := fun x c st' => ∃ q, c = (none, x, q) ∧ Bs a₀ st₀ st' lo ∧ NoI (arrOf st') lo x ∧ q + 1 ≤ x ∧ ∀ i, lo + x - (q + 1) ≤ i → i < lo + x → K (arrOf st') i = K (arrOf st') (lo + x - 1)) ?_ ?_ ⟨0, rfl, B, hs, by omega, fun i a b => by congr 1; omega⟩
  · rintro x c st' hx hl ⟨q, rfl, B', g, hq, he⟩
    have grow : ∀ xs : Array Keyed, (∀ k, K xs k = K (arrOf st') k) → K (arrOf st') (lo + x) ≤ K (arrOf st') (lo + x - 1) → NoI xs lo (x + 1) := fun xs ek z i j h1 h2 h3 => by
      rw [ek, ek]
      by_cases y : j < lo + x
      · exact g i j h1 h2 y
      · have : j = lo + x := by omega
        subst this
        by_cases y' : i = lo + x
        · subst y'; exact Int.le_refl _
        · exact Int.le_trans z (g i (lo + x - 1) h1 (by omega) (by omega))
    have sz := B'.size
    refine s1 x q st' _ B' hl hq (fun z z' => ?_) (fun z z' => ?_) (fun z => ?_) fun z => ?_
    · exact ⟨0, rfl, B'.rev (by omega) (by omega), grow _ (K_mirror_equal (by rw [sz]; omega) he) (Int.le_of_lt z), by omega, fun i a b => by congr 1; omega⟩
    · exact ⟨0, rfl, B', grow _ (fun _ => rfl) (Int.le_of_lt z), by omega, fun i a b => by congr 1; omega⟩
    · exact hR x q st' B' hx (by omega) g hq he
    · refine ⟨q + 1, rfl, B', grow _ (fun _ => rfl) (Int.le_of_eq z), by omega, fun i a b => ?_⟩
      rw [show lo + (x + 1) - 1 = lo + x by omega]
      by_cases y : i = lo + x
      · rw [y]
      · rw [z]; exact he i (by omega) (by omega)
  · rintro c st' ⟨q, rfl, B', g, hq, he⟩
    rw [show max n nrem = nrem by omega] at g hq he ⊢
    exact hR nrem q st' B' hnn (Nat.le_refl _) g hq he
private theorem wpS_countB {st : SortSt} {nrem : Nat} {Q : Option Nat → SortSt → Prop} (h0 : IntKeys a₀) (B : Bs a₀ st₀ st lo) (hn : lo + nrem ≤ a₀.size) (h1 : 1 ≤ nrem)
    (h : ∀ m st', Bs a₀ st₀ st' lo → 1 ≤ m → m ≤ nrem → SrI (arrOf st') lo m → Q (some m) st') : wpS (model prog w) A E s (countRun' lo nrem) Q st := by
  refine wpS_bind (wpS_ascB (lo := lo) (Nat.le_refl 1) h1 (fun i j a b c => by rw [show i = j by omega]; exact Int.le_refl _) (fun x T g1 g2 q1 q2 => ?_) fun n n1 n2 sn ho => ?_)
  · refine wpS_bind (wpS_ltB B h0 (by omega) (by omega) ?_)
    by_cases z : K (arrOf st) (lo + x) < K (arrOf st) (lo + x - 1)
    · rw [decide_eq_true z]; exact wpS_pure (q1 z)
    · rw [decide_eq_false z]; exact wpS_pure (q2 z)
  dsimp only
  by_cases z1 : n = nrem
  · rw [if_pos (by simpa using z1)]
    exact wpS_pure (h n st B n1 n2 sn)
  rw [if_neg (by simpa using z1)]
  have z2 := ho.resolve_left z1
  by_cases z3 : n > 1
  · rw [if_pos z3]
    refine wpS_bind (wpS_ltB B h0 (by omega) (by omega) ?_)
    dsimp only
    by_cases z4 : K (arrOf st) lo < K (arrOf st) (lo + n - 1)
    · rw [if_pos (decide_eq_true z4)]
      exact wpS_pure (h n st B n1 n2 sn)
    rw [if_neg (by simpa using z4)]
    refine wpS_bind (wpS_revB ?_)
    have all : ∀ k, lo ≤ k → k < lo + n → K (arrOf st) k = K (arrOf st) (lo + n - 1) := fun k y1 y2 => by
      have y3 := sn lo k (Nat.le_refl _) y1 y2
      have y4 := sn k (lo + n - 1) y1 (by omega) (by omega)
      omega
    have B3 := B.rev (Nat.le_refl lo) (show lo + n ≤ a₀.size by omega)
    have N3 : NoI (arrOf (revd st lo (lo + n))) lo (n + 1) := fun i j y1 y2 y3 => by
      show K (mirror _ _ _ _) j ≤ K (mirror _ _ _ _) i
      rw [K_mirror_equal (by have := B.size; omega) all, K_mirror_equal (by have := B.size; omega) all]
      by_cases y4 : j < lo + n
      · rw [all i (by omega) (by omega), all j (by omega) y4]; exact Int.le_refl _
      · have y5 : j = lo + n := by omega
        subst y5
        by_cases y6 : i = lo + n
        · rw [y6]; exact Int.le_refl _
        · rw [all i (by omega) (by omega)]; exact Int.le_of_lt z2
    refine wpS_bind (wpS_lift (wpAny_rule ⟨rfl, ?_⟩))
    refine wpS_bind (wpS_descB (lo := lo) B3 hn (n := n + 1) (by omega) (by omega) N3 (fun x q st' T B' g1 g2 t1 t2 t3 t4 => ?_) fun m q st' B' g1 g2 g3 g4 g5 => ?_)
    · refine wpS_bind (wpS_ltB (i := lo + x) (j := lo + x - 1) B' h0 (by omega) (by omega) ?_)
      dsimp only
      by_cases z : K (arrOf st') (lo + x) < K (arrOf st') (lo + x - 1)
      · rw [if_pos (decide_eq_true z)]
        by_cases z' : q > 0
        · rw [if_pos z']; exact wpS_bind (wpS_revB (wpS_pure (t1 z z')))
        · rw [if_neg z']; exact wpS_pure (t2 z z')
      · rw [if_neg (by simpa using z)]
        refine wpS_bind (wpS_ltB (i := lo + x - 1) (j := lo + x) B' h0 (by omega) (by omega) ?_)
        dsimp only
        by_cases z' : K (arrOf st') (lo + x - 1) < K (arrOf st') (lo + x)
        · rw [if_pos (decide_eq_true z')]; exact wpS_pure (t3 z')
        · rw [if_neg (by simpa using z')]; exact wpS_pure (t4 (by omega))
    · dsimp only
      by_cases z' : q > 0
      · rw [if_pos z']
        refine wpS_bind (wpS_revB ?_)
        have B4 := B'.rev (show lo ≤ lo + m - (q + 1) by omega) (show lo + m ≤ a₀.size by omega)
        have N4 : NoI (arrOf (revd st' (lo + m - (q + 1)) (lo + m))) lo m := fun i j y1 y2 y3 => by
          show K (mirror _ _ _ _) j ≤ K (mirror _ _ _ _) i
          rw [K_mirror_equal (by have := B'.size; omega) g5, K_mirror_equal (by have := B'.size; omega) g5]
          exact g3 i j y1 y2 y3
        refine wpS_bind (wpS_revB ?_)
        have B5 := B4.rev (Nat.le_refl lo) (show lo + m ≤ a₀.size by omega)
        refine wpS_bind (wpS_ascB (lo := lo) (show 1 ≤ m by omega) (show m ≤ nrem by omega) (sr_rev N4 (by have := B4.size; omega)) (fun x T e1 e2 q1 q2 => ?_) fun n' n1' n2' sn' _ => wpS_pure (h n' _ B5 (by omega) n2' sn'))
        · refine wpS_bind (wpS_ltB (i := lo + x) (j := lo + x - 1) B5 h0 (by omega) (by omega) ?_)
          cases z : decide (K (arrOf (revd (revd st' (lo + m - (q + 1)) (lo + m)) lo (lo + m))) (lo + x) < K (arrOf (revd (revd st' (lo + m - (q + 1)) (lo + m)) lo (lo + m))) (lo + x - 1)) with
          | true => exact wpS_pure (q1 (of_decide_eq_true z))
          | false => exact wpS_pure (q2 (of_decide_eq_false z))
      · rw [if_neg z']
        refine wpS_bind (wpS_revB ?_)
        have B5 := B'.rev (Nat.le_refl lo) (show lo + m ≤ a₀.size by omega)
        refine wpS_bind (wpS_ascB (lo := lo) (show 1 ≤ m by omega) (show m ≤ nrem by omega) (sr_rev g3 (by have := B'.size; omega)) (fun x T e1 e2 q1 q2 => ?_) fun n' n1' n2' sn' _ => wpS_pure (h n' _ B5 (by omega) n2' sn'))
        · refine wpS_bind (wpS_ltB (i := lo + x) (j := lo + x - 1) B5 h0 (by omega) (by omega) ?_)
          cases z : decide (K (arrOf (revd st' lo (lo + m))) (lo + x) < K (arrOf (revd st' lo (lo + m))) (lo + x - 1)) with
          | true => exact wpS_pure (q1 (of_decide_eq_true z))
          | false => exact wpS_pure (q2 (of_decide_eq_false z))
  · rw [if_neg z3]
    have N3 : NoI (arrOf st) lo (n + 1) := fun i j y1 y2 y3 => by
      by_cases y6 : i = j
      · rw [y6]; exact Int.le_refl _
      · have y7 : i = lo + n - 1 := by omega
        have y8 : j = lo + n := by omega
        rw [y7, y8]; exact Int.le_of_lt z2
    refine wpS_bind (wpS_lift (wpAny_rule ⟨rfl, ?_⟩))
    refine wpS_bind (wpS_descB (lo := lo) B hn (n := n + 1) (by omega) (by omega) N3 (fun x q st' T B' g1 g2 t1 t2 t3 t4 => ?_) fun m q st' B' g1 g2 g3 g4 g5 => ?_)
    · refine wpS_bind (wpS_ltB (i := lo + x) (j := lo + x - 1) B' h0 (by omega) (by omega) ?_)
      dsimp only
      by_cases z : K (arrOf st') (lo + x) < K (arrOf st') (lo + x - 1)
      · rw [if_pos (decide_eq_true z)]
        by_cases z' : q > 0
        · rw [if_pos z']; exact wpS_bind (wpS_revB (wpS_pure (t1 z z')))
        · rw [if_neg z']; exact wpS_pure (t2 z z')
      · rw [if_neg (by simpa using z)]
        refine wpS_bind (wpS_ltB (i := lo + x - 1) (j := lo + x) B' h0 (by omega) (by omega) ?_)
        dsimp only
        by_cases z' : K (arrOf st') (lo + x - 1) < K (arrOf st') (lo + x)
        · rw [if_pos (decide_eq_true z')]; exact wpS_pure (t3 z')
        · rw [if_neg (by simpa using z')]; exact wpS_pure (t4 (by omega))
    · dsimp only
      by_cases z' : q > 0
      · rw [if_pos z']
        refine wpS_bind (wpS_revB ?_)
        have B4 := B'.rev (show lo ≤ lo + m - (q + 1) by omega) (show lo + m ≤ a₀.size by omega)
        have N4 : NoI (arrOf (revd st' (lo + m - (q + 1)) (lo + m))) lo m := fun i j y1 y2 y3 => by
          show K (mirror _ _ _ _) j ≤ K (mirror _ _ _ _) i
          rw [K_mirror_equal (by have := B'.size; omega) g5, K_mirror_equal (by have := B'.size; omega) g5]
          exact g3 i j y1 y2 y3
        refine wpS_bind (wpS_revB ?_)
        have B5 := B4.rev (Nat.le_refl lo) (show lo + m ≤ a₀.size by omega)
        refine wpS_bind (wpS_ascB (lo := lo) (show 1 ≤ m by omega) (show m ≤ nrem by omega) (sr_rev N4 (by have := B4.size; omega)) (fun x T e1 e2 q1 q2 => ?_) fun n' n1' n2' sn' _ => wpS_pure (h n' _ B5 (by omega) n2' sn'))
        · refine wpS_bind (wpS_ltB (i := lo + x) (j := lo + x - 1) B5 h0 (by omega) (by omega) ?_)
          cases z : decide (K (arrOf (revd (revd st' (lo + m - (q + 1)) (lo + m)) lo (lo + m))) (lo + x) < K (arrOf (revd (revd st' (lo + m - (q + 1)) (lo + m)) lo (lo + m))) (lo + x - 1)) with
          | true => exact wpS_pure (q1 (of_decide_eq_true z))
          | false => exact wpS_pure (q2 (of_decide_eq_false z))
      · rw [if_neg z']
        refine wpS_bind (wpS_revB ?_)
        have B5 := B'.rev (Nat.le_refl lo) (show lo + m ≤ a₀.size by omega)
        refine wpS_bind (wpS_ascB (lo := lo) (show 1 ≤ m by omega) (show m ≤ nrem by omega) (sr_rev g3 (by have := B'.size; omega)) (fun x T e1 e2 q1 q2 => ?_) fun n' n1' n2' sn' _ => wpS_pure (h n' _ B5 (by omega) n2' sn'))
        · refine wpS_bind (wpS_ltB (i := lo + x) (j := lo + x - 1) B5 h0 (by omega) (by omega) ?_)
          cases z : decide (K (arrOf (revd st' lo (lo + m))) (lo + x) < K (arrOf (revd st' lo (lo + m))) (lo + x - 1)) with
          | true => exact wpS_pure (q1 (of_decide_eq_true z))
          | false => exact wpS_pure (q2 (of_decide_eq_false z))
end
end Ps
set_option Elab.async false
set_option linter.all false
set_option maxRecDepth 100000
set_option maxHeartbeats 1000000
namespace Ps
open PySem PyProof.Rows
section
variable {prog : Program} {w : World} {A : Around} {E : Value → Shared → Prop} {s : Shared} {a₀ : Array Keyed} {st₀ : SortSt} {lo : Nat}
abbrev movd (st : SortSt) (i j : Nat) : SortSt := setArr st (bubble (arrOf st) i (i - j))
private theorem wpS_movB {st : SortSt} {i j : Nat} {Q : Unit → SortSt → Prop} (h : Q () (movd st i j)) : wpS (model prog w) A E s (moveDown' i j) Q st := by
  rw [moveDown'_eq]; exact wpS_modify h
private theorem Bs.mov {st : SortSt} {k l : Nat} (B : Bs a₀ st₀ st lo) (h1 : l ≤ k) (h2 : lo + k < a₀.size) : Bs a₀ st₀ (movd st (lo + k) (lo + l)) lo :=
  ⟨(bubble_perm _ _ _).trans B.perm, B.kd, B.fl, B.pn, fun m hm => by
    show K (bubble (arrOf st) (lo + k) (lo + k - (lo + l))) m = _
    rw [K_bubble (by rw [B.size]; exact h2) (by omega), if_neg (by omega), if_neg (by omega)]; exact B.pf m hm⟩
private theorem sr_mov {st : SortSt} {k l : Nat} (g : SrI (arrOf st) lo k) (hs : lo + k < (arrOf st).size) (h1 : l ≤ k) (hlo : ∀ i, i < l → K (arrOf st) (lo + i) ≤ K (arrOf st) (lo + k)) (hhi : ∀ i, l ≤ i → i < k → K (arrOf st) (lo + k) < K (arrOf st) (lo + i)) : SrI (arrOf (movd st (lo + k) (lo + l))) lo (k + 1) := fun i j g1 g2 g3 => by
  show K (bubble (arrOf st) (lo + k) (lo + k - (lo + l))) i ≤ K (bubble (arrOf st) (lo + k) (lo + k - (lo + l))) j
  have hlo' : ∀ i, lo ≤ i → i < lo + l → K (arrOf st) i ≤ K (arrOf st) (lo + k) := fun i a b => by have := hlo (i - lo) (by omega); rwa [show lo + (i - lo) = i by omega] at this
  have hhi' : ∀ i, lo + l ≤ i → i < lo + k → K (arrOf st) (lo + k) ≤ K (arrOf st) i := fun i a b => by have := hhi (i - lo) (by omega) (by omega); rw [show lo + (i - lo) = i by omega] at this; exact Int.le_of_lt this
  rw [K_bubble hs (by omega), K_bubble hs (by omega), show lo + k - (lo + k - (lo + l)) = lo + l by omega]
  repeat' split
  all_goals first
    | (exfalso; omega)
    | exact Int.le_refl _
    | exact hlo' _ (by omega) (by omega)
    | exact hhi' _ (by omega) (by omega)
    | exact g _ _ (by omega) (by omega) (by omega)
private theorem wpS_binB {st : SortSt} {n ok : Nat} {Q : Bool → SortSt → Prop} (h0 : IntKeys a₀) (B : Bs a₀ st₀ st lo) (hn : lo + n ≤ a₀.size) (hok : ok ≤ n) (hs : SrI (arrOf st) lo ok)
    (h : ∀ st', Bs a₀ st₀ st' lo → SrI (arrOf st') lo n → Q true st') : wpS (model prog w) A E s (binarySort' lo n ok) Q st := by
  refine wpS_bind (wpS_mono (wpS_forRange (I := fun k c st' => c = (none, ()) ∧ Bs a₀ st₀ st' lo ∧ SrI (arrOf st') lo (min k n)) (Q := fun c st' => c = (none, ()) ∧ Bs a₀ st₀ st' lo ∧ SrI (arrOf st') lo n) ?_ ?_ ⟨rfl, B, fun i j a b c => ?_⟩) ?_)
  · rintro k c st1 hk1 hk2 ⟨rfl, B1, g⟩
    rw [show min k n = k by omega] at g
    dsimp only
    refine wpS_bind (wpS_mono (wpS_forRange (I := fun x c st' => st' = st1 ∧ ∃ l r, c = (none, l, r) ∧ l ≤ r ∧ r ≤ k ∧ r - l ≤ k - x ∧ (∀ i, i < l → K (arrOf st1) (lo + i) ≤ K (arrOf st1) (lo + k)) ∧ (∀ i, r ≤ i → i < k → K (arrOf st1) (lo + k) < K (arrOf st1) (lo + i)))
      (Q := fun c st' => st' = st1 ∧ ∃ l, c = (none, l, l) ∧ l ≤ k ∧ (∀ i, i < l → K (arrOf st1) (lo + i) ≤ K (arrOf st1) (lo + k)) ∧ (∀ i, l ≤ i → i < k → K (arrOf st1) (lo + k) < K (arrOf st1) (lo + i))) ?_ ?_ ⟨rfl, 0, k, rfl, by omega, by omega, by omega, fun i h => by omega, fun i h1 h2 => by omega⟩) ?_)
    · rintro x c st2 _ hx ⟨rfl, l, r, rfl, g1, g2, g3, g4, g5⟩
      dsimp only
      by_cases z : l ≥ r
      · rw [if_pos z]
        have : l = r := by omega
        subst this
        exact wpS_pure ⟨rfl, l, rfl, g2, g4, g5⟩
      rw [if_neg z]
      refine wpS_bind (wpS_ltB (i := lo + k) (j := lo + (l + r) / 2) B1 h0 (by omega) (by omega) ?_)
      dsimp only
      by_cases z' : K (arrOf st2) (lo + k) < K (arrOf st2) (lo + (l + r) / 2)
      · rw [if_pos (decide_eq_true z')]
        exact wpS_pure ⟨rfl, _, _, rfl, by omega, by omega, by omega, g4, fun i a b => Int.lt_of_lt_of_le z' (g _ _ (by omega) (by omega) (by omega))⟩
      · rw [if_neg (by simpa using z')]
        exact wpS_pure ⟨rfl, _, _, rfl, by omega, by omega, by omega, fun i a => Int.le_trans (g _ _ (by omega) (by omega) (by omega)) (Int.not_lt.mp z'), g5⟩
    · rintro c st2 ⟨rfl, l, r, rfl, g1, g2, g3, g4, g5⟩
      have : l = r := by omega
      subst this
      exact ⟨rfl, l, rfl, g2, g4, g5⟩
    · rintro c st2 ⟨rfl, l, rfl, g2, g4, g5⟩
      dsimp only
      refine wpS_bind (wpS_movB (wpS_pure ⟨rfl, B1.mov g2 (by omega), ?_⟩))
      rw [show min (k + 1) n = k + 1 by omega]
      exact sr_mov g (by rw [B1.size]; omega) g2 g4 g5
  · rintro c st' ⟨hc, B', g⟩
    rw [show min (max (max ok 1) n) n = n by omega] at g
    exact ⟨hc, B', g⟩
  · by_cases z : ok = 0
    · rw [show i = j by omega]; exact Int.le_refl _
    · exact hs i j a b (by omega)
  · rintro c st' ⟨rfl, B', g⟩
    exact wpS_pure (h st' B' g)
end
end Ps
set_option Elab.async false
set_option linter.all false
set_option maxRecDepth 100000
set_option maxHeartbeats 1000000
namespace Ps
open PySem PyProof.Rows
def lay (sa : Nat) (xs : Array Keyed) (l : List (Keyed × Nat)) : Array Keyed := l.foldl (fun a p => a.setIfInBounds (sa + p.2) p.1) xs
private theorem lay_list (sa : Nat) : ∀ (l : List Keyed) (k : Nat) (xs : Array Keyed), sa + k + l.length ≤ xs.size → (lay sa xs (l.zipIdx k)).toList = xs.toList.take (sa + k) ++ l ++ xs.toList.drop (sa + k + l.length)
  | [], k, xs, h => by simp [lay]
  | p :: l, k, xs, h => by
    have h' : sa + k + (l.length + 1) ≤ xs.size := h
    have e : lay sa xs ((p :: l).zipIdx k) = lay sa (xs.setIfInBounds (sa + k) p) (l.zipIdx (k + 1)) := rfl
    rw [e, lay_list sa l (k + 1) _ (by rw [Array.size_setIfInBounds]; omega), Array.toList_setIfInBounds]
    have e1 : (xs.toList.set (sa + k) p).take (sa + (k + 1)) = xs.toList.take (sa + k) ++ [p] := by
      rw [show sa + (k + 1) = sa + k + 1 by omega, List.take_succ, List.take_set_of_le (Nat.le_refl _), List.getElem?_set_self (by simpa using (by omega : sa + k < xs.size))]
      rfl
    rw [e1, List.drop_set_of_lt (by omega), show sa + (k + 1) + l.length = sa + k + (p :: l).length by simp; omega]
    simp
private theorem pw_ext {xs : Array Keyed} {i n : Nat} (h : ∀ a b, i ≤ a → a ≤ b → b < n → b < xs.size → K xs a ≤ K xs b) : (xs.extract i n).toList.Pairwise (fun p q => nm p ≤ nm q) := by
  rw [List.pairwise_iff_getElem]
  intro a b ha hb hab
  rw [extract_list] at *
  simp only [List.length_drop, List.length_take, Array.length_toList] at ha hb
  simp only [extract_list, List.getElem_drop, List.getElem_take]
  rw [K_list, K_list]
  exact h _ _ (by omega) (by omega) (by omega) (by omega)
private theorem sr_pw {xs : Array Keyed} (h : xs.toList.Pairwise (fun p q => nm p ≤ nm q)) : SortedTo xs xs.size := by
  intro i j hij hj
  by_cases z : i = j
  · subst z; exact Int.le_refl _
  · rw [List.pairwise_iff_getElem] at h
    have := h i j (by simp; omega) (by simp; omega) (by omega)
    rwa [K_list, K_list] at this
private theorem K_ext {xs : Array Keyed} {i n m : Nat} (h : i + m < n) (hn : n ≤ xs.size) : K (xs.extract i n) m = K xs (i + m) := by
  refine K_congr ?_
  rw [Array.getElem?_extract, if_pos (by omega)]
private theorem ints_ext {xs : Array Keyed} (h : IntKeys xs) (i n : Nat) : IntKeys (xs.extract i n) := fun p hp => by
  rw [extract_list] at hp
  exact h p (List.mem_of_mem_take (List.mem_of_mem_drop hp))
private theorem lay_merged {xs M : Array Keyed} {i m j : Nat} (h1 : i ≤ m) (h2 : m ≤ j) (h3 : j ≤ xs.size) (mg : Mg (xs.extract i m) (xs.extract m j) M)
    (o1 : ∀ a b, a ≤ b → b < i → K xs a ≤ K xs b) (o2 : ∀ a b, a < i → i ≤ b → b < xs.size → K xs a ≤ K xs b) (o3 : ∀ a b, a < j → j ≤ b → b < xs.size → K xs a ≤ K xs b) (o4 : ∀ a b, j ≤ a → a ≤ b → b < xs.size → K xs a ≤ K xs b) :
    (lay i xs M.toList.zipIdx).Perm xs ∧ SortedTo (lay i xs M.toList.zipIdx) xs.size := by
  have ml : M.toList.length = j - i := by
    have := mg.1.length_eq
    simp only [List.length_append, Array.length_toList, Array.size_extract] at this ⊢
    omega
  have e := lay_list i M.toList 0 xs (by omega)
  rw [Nat.add_zero, ml, show i + (j - i) = j by omega] at e
  have e1 : xs.toList.take i = (xs.extract 0 i).toList := by rw [extract_list]; rfl
  have e2 : xs.toList.drop j = (xs.extract j xs.size).toList := by rw [extract_list, List.take_of_length_le (by simp)]
  have ex : xs.toList = xs.toList.take i ++ ((xs.extract i m).toList ++ (xs.extract m j).toList) ++ xs.toList.drop j := by
    have a1 : xs.toList = xs.toList.take j ++ xs.toList.drop j := (List.take_append_drop _ _).symm
    have a2 : xs.toList.take j = xs.toList.take m ++ (xs.toList.take j).drop m := by
      have := (List.take_append_drop m (xs.toList.take j)).symm
      rwa [List.take_take, Nat.min_eq_left h2] at this
    have a3 : xs.toList.take m = xs.toList.take i ++ (xs.toList.take m).drop i := by
      have := (List.take_append_drop i (xs.toList.take m)).symm
      rwa [List.take_take, Nat.min_eq_left h1] at this
    rw [extract_list, extract_list, ← List.append_assoc, ← a3, ← a2, ← a1]
  refine ⟨?_, ?_⟩
  · rw [Array.perm_iff_toList_perm, e]
    conv => rhs; rw [ex]
    exact (List.Perm.append_left _ mg.1).append_right _
  · have sz : (lay i xs M.toList.zipIdx).size = xs.size := by
      have := congrArg List.length e
      simp only [Array.length_toList, List.length_append, List.length_take, List.length_drop] at this
      have ml' : M.size = j - i := by simpa using ml
      omega
    rw [← sz]
    refine sr_pw ?_
    rw [e, e1, e2, List.pairwise_append, List.pairwise_append]
    have mm : ∀ q ∈ M.toList, ∃ b, i ≤ b ∧ b < j ∧ b < xs.size ∧ nm q = K xs b := fun q hq => by
      rcases List.mem_append.mp (mg.1.mem_iff.mp hq) with hq | hq
      · obtain ⟨b, b1, b2, b3, b4⟩ := mem_ext hq; exact ⟨b, b1, by omega, b3, b4⟩
      · obtain ⟨b, b1, b2, b3, b4⟩ := mem_ext hq; exact ⟨b, by omega, b2, b3, b4⟩
    refine ⟨⟨pw_ext fun a b _ h h' _ => o1 a b h h', mg.2, fun p hp q hq => ?_⟩, pw_ext fun a b h h' _ h'' => o4 a b h h' h'', fun p hp q hq => ?_⟩
    · obtain ⟨a, _, b2, b3, b4⟩ := mem_ext hp
      obtain ⟨b, c1, c2, c3, c4⟩ := mm q hq
      rw [b4, c4]; exact o2 a b b2 c1 c3
    · obtain ⟨b, c1, c2, c3, c4⟩ := mem_ext hq
      rw [c4]
      rcases List.mem_append.mp hp with hp | hp
      · obtain ⟨a, _, b2, b3, b4⟩ := mem_ext hp
        rw [b4]; exact o3 a b (by omega) c1 c3
      · obtain ⟨a, b1, b2, b3, b4⟩ := mm p hp
        rw [b4]; exact o3 a b b2 c1 c3
end Ps
set_option Elab.async false
set_option linter.all false
set_option maxRecDepth 100000
set_option maxHeartbeats 1000000
namespace Ps
open PySem PyProof.Rows
structure Dn (a₀ : Array Keyed) (st : SortSt) : Prop where
  perm : (arrOf st).Perm a₀
  fl : failedOf st = none
  pn : (pendingOf st).size ≤ 1
  srt : SortedTo (arrOf st) a₀.size
private theorem pn1 (a b c : Nat × Nat × Nat) : (((#[a, b] : Array (Nat × Nat × Nat)).setIfInBounds 0 c).eraseIdxIfInBounds (0 + 1)).size ≤ 1 := by
  simp [Array.eraseIdxIfInBounds]
section
variable {prog : Program} {w : World} {A : Around} {E : Value → Shared → Prop} {s : Shared} {a₀ : Array Keyed}
private theorem wpS_setB {x st : SortSt} {Q : PUnit → SortSt → Prop} (h : Q ⟨⟩ x) : wpS (model prog w) A E s (set x : StateT SortSt Sem PUnit) Q st := by
  unfold wpS; rw [StateT.run_set]; exact wpAny_pure ⟨rfl, h⟩
private theorem wpS_mergeB {st : SortSt} {n1 n2 pw p2 : Nat} {Q : Bool → SortSt → Prop} (h0 : IntKeys a₀) (pm : (arrOf st).Perm a₀) (kd : kindOf st = oneType') (fl : failedOf st = none) (pend : pendingOf st = #[(0, n1, pw), (n1, n2, p2)]) (hn : n1 + n2 = a₀.size) (l1 : 0 < n1) (l2 : 0 < n2)
    (r1 : SrI (arrOf st) 0 n1) (r2 : SrI (arrOf st) n1 n2) (h : ∀ st', Dn a₀ st' → Q true st') : wpS (model prog w) A E s (mergeAt' 0) Q st := by
  have sz : (arrOf st).size = a₀.size := pm.size_eq
  have hi : IntKeys (arrOf st) := fun p hp => h0 p ((Array.perm_iff_toList_perm.mp pm).mem_iff.mp hp)
  obtain ⟨k, ar, pe, g, f⟩ := st
  change pe = _ at pend
  change f = none at fl
  change k = _ at kd
  subst pend
  subst fl
  subst kd
  change ar.Perm a₀ at pm
  change ar.size = _ at sz
  change IntKeys ar at hi
  change SrI ar 0 n1 at r1
  change SrI ar n1 n2 at r2
  refine wpS_bind (wpS_get ?_)
  dsimp only
  refine wpS_bind (wpS_setB ?_)
  obtain ⟨t, q, e1⟩ := K_int hi (show n1 < ar.size by omega)
  refine wpS_bind (wpS_elemP e1 ?_)
  refine wpS_bind (wpS_gallopP rfl rfl hi (by omega) l1 (fun i j g1 g2 => r1 _ _ (by omega) (by omega) (by omega)) fun k k1 k2 k3 => ?_)
  dsimp only
  have w1 : ∀ i, i < k → K ar i ≤ K ar n1 := fun i g1 => by
    have := k2 i g1
    rw [Nat.zero_add] at this
    simpa [bey] using this
  have w2 : ∀ i, k ≤ i → i < n1 → K ar n1 < K ar i := fun i g1 g2 => by
    have := k3 i g1 g2
    rw [Nat.zero_add] at this
    simpa [bey] using this
  by_cases z1 : n1 - k = 0
  · rw [if_pos (by simpa using z1)]
    refine wpS_pure (h _ ⟨pm, rfl, pn1 _ _ _, fun i j g1 g2 => ?_⟩)
    show K ar i ≤ K ar j
    by_cases y1 : j < n1
    · exact r1 i j (by omega) g1 (by omega)
    · by_cases y2 : i < n1
      · exact Int.le_trans (w1 i (by omega)) (r2 n1 j (by omega) (by omega) (by omega))
      · exact r2 i j (by omega) g1 (by omega)
  rw [if_neg (by simpa using z1)]
  obtain ⟨t', q', e2⟩ := K_int hi (show 0 + k + (n1 - k) - 1 < ar.size by omega)
  refine wpS_bind (wpS_elemP e2 ?_)
  refine wpS_bind (wpS_gallopP rfl rfl hi (by omega) (by omega) (fun i j g1 g2 => r2 _ _ (by omega) (by omega) (by omega)) fun nb j1 j2 j3 => ?_)
  dsimp only
  have le : 0 + k + (n1 - k) - 1 = n1 - 1 := by omega
  rw [le] at j2 j3
  have w3 : ∀ i, n1 ≤ i → i < n1 + nb → K ar i < K ar (n1 - 1) := fun i g1 g2 => by
    have := j2 (i - n1) (by omega)
    rw [show n1 + (i - n1) = i by omega] at this
    simpa [bey] using this
  have w4 : ∀ i, n1 + nb ≤ i → i < n1 + n2 → K ar (n1 - 1) ≤ K ar i := fun i g1 g2 => by
    have := j3 (i - n1) (by omega) (by omega)
    rw [show n1 + (i - n1) = i by omega] at this
    simpa [bey] using this
  by_cases z2 : nb = 0
  · rw [if_pos (by simpa using z2)]
    refine wpS_pure (h _ ⟨pm, rfl, pn1 _ _ _, fun i j g1 g2 => ?_⟩)
    show K ar i ≤ K ar j
    by_cases y1 : j < n1
    · exact r1 i j (by omega) g1 (by omega)
    · by_cases y2 : i < n1
      · exact Int.le_trans (r1 i (n1 - 1) (by omega) (by omega) (by omega)) (w4 j (by omega) (by omega))
      · exact r2 i j (by omega) g1 (by omega)
  rw [if_neg (by simpa using z2)]
  have zX : (ar.extract (0 + k) n1).size = n1 - k := by rw [Array.size_extract]; omega
  have zY : (ar.extract n1 (n1 + nb)).size = nb := by rw [Array.size_extract]; omega
  have kX : ∀ i, i < n1 - k → K (ar.extract (0 + k) n1) i = K ar (k + i) := fun i g => by rw [K_ext (by omega) (by omega), Nat.zero_add]
  have kY : ∀ i, i < nb → K (ar.extract n1 (n1 + nb)) i = K ar (n1 + i) := fun i g => by rw [K_ext (by omega) (by omega)]
  have sX : Sr (ar.extract (0 + k) n1) := fun i j g1 g2 => by rw [zX] at g2; rw [kX i (by omega), kX j g2]; exact r1 _ _ (by omega) (by omega) (by omega)
  have sY : Sr (ar.extract n1 (n1 + nb)) := fun i j g1 g2 => by rw [zY] at g2; rw [kY i (by omega), kY j g2]; exact r2 _ _ (by omega) (by omega) (by omega)
  have o1 : ∀ a b, a ≤ b → b < 0 + k → K ar a ≤ K ar b := fun a b g1 g2 => r1 a b (by omega) g1 (by omega)
  have o2 : ∀ a b, a < 0 + k → 0 + k ≤ b → b < ar.size → K ar a ≤ K ar b := fun a b g1 g2 g3 => by
    by_cases y : b < n1
    · exact r1 a b (by omega) (by omega) (by omega)
    · exact Int.le_trans (w1 a (by omega)) (r2 n1 b (by omega) (by omega) (by omega))
  have o3 : ∀ a b, a < n1 + nb → n1 + nb ≤ b → b < ar.size → K ar a ≤ K ar b := fun a b g1 g2 g3 => by
    by_cases y : a < n1
    · exact Int.le_trans (r1 a (n1 - 1) (by omega) (by omega) (by omega)) (w4 b g2 (by omega))
    · exact r2 a b (by omega) (by omega) (by omega)
  have o4 : ∀ a b, n1 + nb ≤ a → a ≤ b → b < ar.size → K ar a ≤ K ar b := fun a b g1 g2 g3 => r2 a b (by omega) g2 (by omega)
  by_cases z3 : n1 - k ≤ nb
  · rw [if_pos z3]
    refine wpS_bind (wpS_mergeLoP rfl (ints_ext hi _ _) (ints_ext hi _ _) sX sY (by rw [zX]; omega) (by rw [zY]; omega) (by rw [kX 0 (by omega), kY 0 (by omega)]; exact Int.le_of_lt (w2 _ (by omega) (by omega))) (fun j g => by rw [zY] at g; rw [zX, kX _ (by omega), kY j g, show k + (n1 - k - 1) = n1 - 1 by omega]; exact Int.le_of_lt (w3 _ (by omega) (by omega))) fun M st' mg sm => ?_)
    have pl := lay_merged (i := 0 + k) (m := n1) (j := n1 + nb) (by omega) (by omega) (by omega) mg o1 o2 o3 o4
    refine wpS_bind (wpS_modify (wpS_bind (wpS_get ?_)))
    have fl' : failedOf st' = none := sm.fl
    have ar' : arrOf st' = ar := sm.ar
    have pn' : (pendingOf st').size ≤ 1 := by rw [sm.pn]; exact pn1 _ _ _
    have dn : Dn a₀ (setArr st' (lay (0 + k) (arrOf st') M.toList.zipIdx)) := ⟨by show (lay (0 + k) (arrOf st') M.toList.zipIdx).Perm a₀; rw [ar']; exact pl.1.trans pm, fl', pn', by show SortedTo (lay (0 + k) (arrOf st') M.toList.zipIdx) a₀.size; rw [ar', ← sz]; exact pl.2⟩
    have e : wpS (model prog w) A E s (pure (failedOf st').isNone) Q (setArr st' (lay (0 + k) (arrOf st') M.toList.zipIdx)) := by
      rw [fl']; exact wpS_pure (h _ dn)
    exact e
  · rw [if_neg z3]
    refine wpS_bind (wpS_mergeHiP rfl (ints_ext hi _ _) (ints_ext hi _ _) sX sY (by rw [zX]; omega) (by rw [zY]; omega) (by rw [zY, zX, kX _ (by omega), kY _ (by omega), show k + (n1 - k - 1) = n1 - 1 by omega]; exact Int.le_of_lt (w3 _ (by omega) (by omega))) (fun j g => by rw [zX] at g; rw [kX j g, kY 0 (by omega)]; exact Int.le_of_lt (w2 _ (by omega) (by omega))) fun M st' mg sm => ?_)
    have pl := lay_merged (i := 0 + k) (m := n1) (j := n1 + nb) (by omega) (by omega) (by omega) mg o1 o2 o3 o4
    refine wpS_bind (wpS_modify (wpS_bind (wpS_get ?_)))
    have fl' : failedOf st' = none := sm.fl
    have ar' : arrOf st' = ar := sm.ar
    have pn' : (pendingOf st').size ≤ 1 := by rw [sm.pn]; exact pn1 _ _ _
    have dn : Dn a₀ (setArr st' (lay (0 + k) (arrOf st') M.toList.zipIdx)) := ⟨by show (lay (0 + k) (arrOf st') M.toList.zipIdx).Perm a₀; rw [ar']; exact pl.1.trans pm, fl', pn', by show SortedTo (lay (0 + k) (arrOf st') M.toList.zipIdx) a₀.size; rw [ar', ← sz]; exact pl.2⟩
    have e : wpS (model prog w) A E s (pure (failedOf st').isNone) Q (setArr st' (lay (0 + k) (arrOf st') M.toList.zipIdx)) := by
      rw [fl']; exact wpS_pure (h _ dn)
    exact e
end
end Ps
set_option Elab.async false
set_option linter.all false
set_option maxRecDepth 100000
set_option maxHeartbeats 1000000
namespace Ps
open PySem PyProof.Rows
structure R1 (a₀ : Array Keyed) (st : SortSt) (n : Nat) : Prop where
  perm : (arrOf st).Perm a₀
  kd : kindOf st = oneType'
  fl : failedOf st = none
  pn : pendingOf st = #[(0, n, 0)]
  ge : 32 ≤ n
  le : n ≤ 64
  srt : SrI (arrOf st) 0 n
def R2 (a₀ : Array Keyed) (st : SortSt) : Prop := Dn a₀ st ∨ ∃ n pw, (arrOf st).Perm a₀ ∧ kindOf st = oneType' ∧ failedOf st = none ∧ pendingOf st = #[(0, n, pw), (n, 64 - n, 0)] ∧ 0 < n ∧ n < 64 ∧ SrI (arrOf st) 0 n ∧ SrI (arrOf st) n (64 - n)
section
variable {prog : Program} {w : World} {A : Around} {E : Value → Shared → Prop} {s : Shared} {a₀ : Array Keyed}
private theorem Bs.run {st₀ st : SortSt} {n : Nat} (B : Bs a₀ st₀ st 0) (p0 : pendingOf st₀ = #[]) (h1 : 32 ≤ n) (h2 : n ≤ 64) (hs : SrI (arrOf st) 0 n) : R1 a₀ (setPending st ((pendingOf st).push (0, n, 0))) n :=
  ⟨B.perm, B.kd, B.fl, by show (pendingOf st).push _ = _; rw [B.pn, p0]; rfl, h1, h2, hs⟩
private theorem Bs.two {st₀ st : SortSt} {n L pw : Nat} (B : Bs a₀ st₀ st n) (pq : pendingOf st = #[(0, n, 0)]) (h1 : 0 < n) (h2 : n < 64) (hk : SrI (arrOf st) 0 n) (hs : SrI (arrOf st) n L) (eL : L = 64 - n) :
    R2 a₀ (setPending (setPending st ((pendingOf st).modify ((pendingOf st).size - 1) fun x => (x.fst, x.2.fst, pw))) (((pendingOf st).modify ((pendingOf st).size - 1) fun x => (x.fst, x.2.fst, pw)).push (n, L, 0))) := by
  subst eL
  refine .inr ⟨n, pw, B.perm, B.kd, B.fl, ?_, h1, h2, hk, hs⟩
  show ((pendingOf st).modify ((pendingOf st).size - 1) fun x => (x.fst, x.2.fst, pw)).push (n, 64 - n, 0) = _
  rw [pq]; rfl
private theorem wpS_sort64 {st : SortSt} {Q : Unit → SortSt → Prop} (h0 : IntKeys a₀) (hB : SBase a₀ st) (h64 : a₀.size = 64)
    (h : ∀ st', (arrOf st').Perm a₀ → failedOf st' = none → SortedTo (arrOf st') a₀.size → Q () st') : wpS (model prog w) A E s sortRuns' Q st := by
  rw [sortRuns'_eq]
  refine wpS_bind (wpS_get ?_)
  dsimp only
  have hmr : minRun' a₀.size a₀.size 0 = 32 := by rw [h64]; rfl
  simp only [hB.size, hmr]
  refine wpS_bind (wpS_mono (wpS_forRange
    (I := fun x c st' => (x = 0 ∧ c = (none, 0) ∧ st' = st) ∨ (x = 1 ∧ ∃ n, c = (none, n) ∧ R1 a₀ st' n) ∨ (2 ≤ x ∧ c = (none, 64) ∧ R2 a₀ st'))
    (Q := fun c st' => c = (none, 64) ∧ R2 a₀ st') ?step ?fin (.inl ⟨rfl, rfl, rfl⟩)) ?post)
  case fin =>
    rintro c st' (⟨hx, _, _⟩ | ⟨hx, _⟩ | ⟨_, hc, hD⟩)
    · omega
    · omega
    · exact ⟨hc, hD⟩
  case step =>
    rintro x c st' _ hx (⟨rfl, rfl, rfl⟩ | ⟨rfl, n, rfl, hR⟩ | ⟨hx1, rfl, hD⟩)
    · dsimp only
      rw [if_neg (by omega)]
      simp only [Nat.sub_zero, Nat.zero_add]
      have B0 : Bs a₀ st' st' 0 := ⟨hB.perm, hB.kind, hB.failed, rfl, fun _ _ => rfl⟩
      refine wpS_bind (wpS_countB h0 B0 (by omega) (by omega) fun m st2 B2 hm1 hm2 hs2 => ?_)
      dsimp only
      by_cases hlt : m < 32
      · rw [if_pos hlt]
        refine wpS_bind (wpS_lift (wpAny_rule ⟨rfl, ?_⟩))
        refine wpS_bind (wpS_binB h0 B2 (by omega) (by omega) hs2 fun st3 B3 hs3 => ?_)
        simp only [Bool.not_true, Bool.false_eq_true, if_false]
        refine wpS_bind (wpS_get ?_)
        have hb : (pendingOf st3).back? = none := by rw [B3.pn, hB.pend]; rfl
        rw [hb]
        dsimp only
        exact wpS_bind (wpS_modify (wpS_pure (.inr (.inl ⟨trivial, min a₀.size 32, rfl, B3.run hB.pend (by omega) (by omega) hs3⟩))))
      · rw [if_neg hlt]
        refine wpS_bind (wpS_get ?_)
        have hb : (pendingOf st2).back? = none := by rw [B2.pn, hB.pend]; rfl
        rw [hb]
        dsimp only
        exact wpS_bind (wpS_modify (wpS_pure (.inr (.inl ⟨trivial, m, rfl, B2.run hB.pend (by omega) (by omega) hs2⟩))))
    · dsimp only
      by_cases z : n ≥ a₀.size
      · rw [if_pos z]
        have zn : n = 64 := by have := hR.le; omega
        subst zn
        exact wpS_pure ⟨rfl, .inl ⟨hR.perm, hR.fl, by rw [hR.pn]; exact Nat.le_refl 1, fun i j g1 g2 => hR.srt i j (by omega) g1 (by omega)⟩⟩
      rw [if_neg z]
      have ge := hR.ge
      have B0 : Bs a₀ st' st' n := ⟨hR.perm, hR.kd, hR.fl, rfl, fun _ _ => rfl⟩
      have keep : ∀ st2, Bs a₀ st' st2 n → SrI (arrOf st2) 0 n := fun st2 B2 i j g1 g2 g3 => by
        rw [B2.pf i (by omega), B2.pf j (by omega)]; exact hR.srt i j g1 g2 g3
      refine wpS_bind (wpS_countB h0 B0 (by omega) (by omega) fun m st2 B2 hm1 hm2 hs2 => ?_)
      dsimp only
      by_cases hlt : m < 32
      · rw [if_pos hlt]
        refine wpS_bind (wpS_lift (wpAny_rule ⟨rfl, ?_⟩))
        have en : min (a₀.size - n) 32 = 64 - n := by omega
        refine wpS_bind (wpS_binB h0 B2 (by omega) (by omega) hs2 fun st3 B3 hs3 => ?_)
        simp only [Bool.not_true, Bool.false_eq_true, if_false]
        refine wpS_bind (wpS_get ?_)
        have pq : pendingOf st3 = #[(0, n, 0)] := by rw [B3.pn, hR.pn]
        have hb : (pendingOf st3).back? = some (0, n, 0) := by rw [pq]; rfl
        rw [hb]
        dsimp only
        refine wpS_bind (wpS_mono (wpS_forRange (I := fun _ c st'' => st'' = st3 ∧ c = (none, ())) (Q := fun c st'' => st'' = st3 ∧ c = (none, ())) ?_ (fun _ _ hh => hh) ⟨rfl, rfl⟩) ?_)
        · rintro y c st4 _ _ ⟨rfl, rfl⟩
          refine wpS_bind (wpS_get ?_)
          rw [if_neg (by rw [pq]; show ¬ (1 > 1); decide)]
          exact wpS_pure ⟨rfl, rfl⟩
        · rintro c st4 ⟨rfl, rfl⟩
          refine wpS_bind (wpS_modify (wpS_bind (wpS_modify (wpS_pure (.inr (.inr ⟨Nat.le_refl 2, ?_, B3.two pq (by omega) (by omega) (keep _ B3) hs3 en⟩))))))
          exact congrArg (Prod.mk none) (by omega)
      · rw [if_neg hlt]
        refine wpS_bind (wpS_get ?_)
        have pq : pendingOf st2 = #[(0, n, 0)] := by rw [B2.pn, hR.pn]
        have hb : (pendingOf st2).back? = some (0, n, 0) := by rw [pq]; rfl
        rw [hb]
        dsimp only
        refine wpS_bind (wpS_mono (wpS_forRange (I := fun _ c st'' => st'' = st2 ∧ c = (none, ())) (Q := fun c st'' => st'' = st2 ∧ c = (none, ())) ?_ (fun _ _ hh => hh) ⟨rfl, rfl⟩) ?_)
        · rintro y c st4 _ _ ⟨rfl, rfl⟩
          refine wpS_bind (wpS_get ?_)
          rw [if_neg (by rw [pq]; show ¬ (1 > 1); decide)]
          exact wpS_pure ⟨rfl, rfl⟩
        · rintro c st4 ⟨rfl, rfl⟩
          refine wpS_bind (wpS_modify (wpS_bind (wpS_modify (wpS_pure (.inr (.inr ⟨Nat.le_refl 2, ?_, B2.two pq (by omega) (by omega) (keep _ B2) hs2 (by omega)⟩))))))
          exact congrArg (Prod.mk none) (by omega)
    · dsimp only
      rw [if_pos (by omega)]
      exact wpS_pure ⟨rfl, hD⟩
  case post =>
    rintro c st' ⟨rfl, hD⟩
    dsimp only
    refine wpS_bind (wpS_mono (wpS_forRange (I := fun x c st'' => c = (none, ()) ∧ ((x = 0 ∧ R2 a₀ st'') ∨ Dn a₀ st'')) (Q := fun c st'' => c = (none, ()) ∧ Dn a₀ st'') ?_ ?_ ⟨rfl, .inl ⟨rfl, hD⟩⟩) ?_)
    · rintro x c st2 _ _ ⟨rfl, hh⟩
      refine wpS_bind (wpS_get ?_)
      have d1 : Dn a₀ st2 ∨ ∃ n pw, (arrOf st2).Perm a₀ ∧ kindOf st2 = oneType' ∧ failedOf st2 = none ∧ pendingOf st2 = #[(0, n, pw), (n, 64 - n, 0)] ∧ 0 < n ∧ n < 64 ∧ SrI (arrOf st2) 0 n ∧ SrI (arrOf st2) n (64 - n) := by
        rcases hh with ⟨_, hh⟩ | hh
        · exact hh
        · exact .inl hh
      rcases d1 with d | ⟨n, pw, p1, p2, p3, p4, p5, p6, p7, p8⟩
      · rw [if_pos d.pn]
        exact wpS_pure ⟨rfl, d⟩
      · have e2 : (pendingOf st2).size = 2 := by rw [p4]; rfl
        rw [if_neg (by rw [e2]; decide)]
        have e3 : (if (if (pendingOf st2).size - 2 > 0 then Option.map (fun x => x.2.1) (pendingOf st2)[(pendingOf st2).size - 2 - 1]? else none).any (fun x => decide (x < (pendingOf st2)[(pendingOf st2).size - 2 + 1]?.elim 0 fun x => x.2.1)) = true then (pendingOf st2).size - 2 - 1 else (pendingOf st2).size - 2) = 0 := by
          rw [p4]; rfl
        refine wpS_bind ?_
        rw [e3]
        exact wpS_mergeB h0 p1 p2 p3 p4 (by omega) p5 (by omega) p7 p8 fun st3 d => wpS_pure ⟨rfl, .inr d⟩
    · rintro c st2 ⟨rfl, ⟨hx, _⟩ | d⟩
      · omega
      · exact ⟨rfl, d⟩
    · rintro c st2 ⟨rfl, d⟩
      exact wpS_pure (h _ d.perm d.fl d.srt)
end
end Ps
-- CHANGE: your row's module here, as the last of these rows
set_option Elab.async false
set_option linter.all false
set_option maxRecDepth 100000
namespace L2
open PySem PySem.Spec PyProof.Rows

abbrev Key := Sum Int Str
def keyIs : Key → Value → Bool
  | .inl k, v => Value.isInt k v
  | .inr x, v => Value.isStrOf x v
def keyH (w : World) : Key → Int
  | .inl k => hashInt k
  | .inr x => hashStr w x
private theorem keyIs_shape : ∀ {k : Key} {v : Value}, keyIs k v = true → (∃ i t, k = Sum.inl i ∧ v = Value.int i t) ∨ (∃ x t, k = Sum.inr x ∧ v = Value.str x t)
  | .inl i, v, h => by
    obtain ⟨t, e⟩ := Value.isInt_shape (k := i) (v := v) h
    exact .inl ⟨i, t, rfl, e⟩
  | .inr x, v, h => by
    obtain ⟨t, e⟩ := Value.isStrOf_shape (x := x) (v := v) h
    exact .inr ⟨x, t, rfl, e⟩
private theorem keyIs_int (i : Int) (t : Tok) : keyIs (.inl i) (.int i t) = true := by simp [keyIs, Value.isInt]
private theorem keyIs_str (x : Str) (t : Tok) : keyIs (.inr x) (.str x t) = true := by simp [keyIs, Value.isStrOf]
private theorem key_ll (a b : Int) : decide ((Sum.inl a : Key) = Sum.inl b) = (a == b) := by
  by_cases e : a = b
  · subst e; simp
  · have h : ¬ (Sum.inl a : Key) = Sum.inl b := fun q => e (Sum.inl.inj q)
    rw [decide_eq_false h]
    exact (beq_eq_false_iff_ne.mpr e).symm
private theorem key_rr (a b : Str) : decide ((Sum.inr a : Key) = Sum.inr b) = decide (a = b) := by
  by_cases e : a = b
  · subst e; simp
  · have h : ¬ (Sum.inr a : Key) = Sum.inr b := fun q => e (Sum.inr.inj q)
    rw [decide_eq_false h, decide_eq_false e]
private theorem key_lr (a : Int) (b : Str) : decide ((Sum.inl a : Key) = Sum.inr b) = false := decide_eq_false (fun q => nomatch q)
private theorem key_rl (a : Str) (b : Int) : decide ((Sum.inr a : Key) = Sum.inl b) = false := decide_eq_false (fun q => nomatch q)

def mixKind (prog : Program) (w : World) : PySem.KeyKind prog w Key where
  is := keyIs
  hash := keyH w
  inj := fun v a b ha hb => by
    rcases keyIs_shape ha with ⟨i, t, rfl, rfl⟩ | ⟨x, t, rfl, rfl⟩
    · rcases keyIs_shape hb with ⟨j, u, rfl, e⟩ | ⟨y, u, rfl, e⟩
      · injection e with e1 _; rw [e1]
      · exact nomatch e
    · rcases keyIs_shape hb with ⟨j, u, rfl, e⟩ | ⟨y, u, rfl, e⟩
      · exact nomatch e
      · injection e with e1 _; rw [e1]
  byValue := fun k v h => by
    rcases keyIs_shape h with ⟨i, t, rfl, rfl⟩ | ⟨x, t, rfl, rfl⟩ <;> rfl
  pyHash := fun hv h => by
    rcases keyIs_shape hv with ⟨i, t, rfl, rfl⟩ | ⟨x, t, rfl, rfl⟩
    · exact wpAny_pyHash_int h
    · exact wpAny_pyHash_str h
  eqBool := fun hu hv h => by
    rcases keyIs_shape hu with ⟨i, t, rfl, rfl⟩ | ⟨x, t, rfl, rfl⟩
    · rcases keyIs_shape hv with ⟨j, u, rfl, rfl⟩ | ⟨y, u, rfl, rfl⟩
      · rw [key_ll] at h; exact wpAny_eqBool_int h
      · rw [key_lr] at h; exact SeqAt.EqAt.int_str i t y u _ _ _ _ h
    · rcases keyIs_shape hv with ⟨j, u, rfl, rfl⟩ | ⟨y, u, rfl, rfl⟩
      · rw [key_rl] at h; exact SeqAt.EqAt.str_int x t j u _ _ _ _ h
      · rw [key_rr] at h; exact wpAny_eqBool_str h
  «strs» := fun k x t v h => by
    rcases keyIs_shape h with ⟨i, u, rfl, e⟩ | ⟨y, u, rfl, e⟩
    · exact nomatch e
    · injection e with e1 _
      subst e1
      cases v <;> rfl

private theorem mixKind_int (prog : Program) (w : World) (i : Int) (t : Tok) : (mixKind prog w).is (.inl i) (.int i t) = true := keyIs_int i t
private theorem mixKind_str (prog : Program) (w : World) (x : Str) (t : Tok) : (mixKind prog w).is (.inr x) (.str x t) = true := keyIs_str x t
end L2

namespace L2
open PySem PySem.Spec PyProof.Rows

inductive V where
  | non | bl (b : Bool) | int (i : Int) | str (x : Str) | byt (b : Array UInt8) | flt (b : UInt64) | ref (a : Addr) | ty (n : String)
  deriving DecidableEq

def RelV : V → Value → Prop
  | .non, u => u = Value.none
  | .bl b, u => u = Value.bool b
  | .int i, u => ∃ t, u = Value.int i t
  | .str x, u => ∃ t, u = Value.str x t
  | .byt b, u => ∃ t, u = Value.bytes b t
  | .flt b, u => ∃ t, u = Value.float b t
  | .ref a, u => u = Value.ref a
  | .ty n, u => u = Value.type n

abbrev Vals : List V → List Value → Prop := Paired RelV
private theorem Vals.length {xs : List V} {us : List Value} (r : Vals xs us) : xs.length = us.length := Paired.length r
private theorem Vals.get : ∀ {xs : List V} {us : List Value} {i : Nat} {x : V}, Vals xs us → xs[i]? = some x → ∃ u, us[i]? = some u ∧ RelV x u
  | _, _, _, _, .nil, e => by simp at e
  | _, _, 0, _, .cons r _, e => by simp at e; subst e; exact ⟨_, rfl, r⟩
  | _, _, i + 1, x, .cons _ t, e => by
    obtain ⟨u, h1, h2⟩ := Vals.get (i := i) (x := x) t (by simpa using e)
    exact ⟨u, by simpa using h1, h2⟩
private theorem Vals.set {x : V} {u : Value} (r : RelV x u) : ∀ {xs : List V} {us : List Value} (i : Nat), Vals xs us → Vals (xs.set i x) (us.set i u)
  | _, _, _, .nil => .nil
  | _, _, 0, .cons _ t => .cons r t
  | _, _, i + 1, .cons q t => .cons q (Vals.set r i t)
private theorem Vals.append : ∀ {xs ys : List V} {us ws : List Value}, Vals xs us → Vals ys ws → Vals (xs ++ ys) (us ++ ws)
  | _, _, _, _, .nil, s => s
  | _, _, _, _, .cons r t, s => .cons r (Vals.append t s)
private theorem Vals.take : ∀ {xs : List V} {us : List Value} (n : Nat), Vals xs us → Vals (xs.take n) (us.take n)
  | _, _, 0, _ => .nil
  | _, _, _ + 1, .nil => .nil
  | _, _, n + 1, .cons r t => .cons r (Vals.take n t)
private theorem Vals.drop : ∀ {xs : List V} {us : List Value} (n : Nat), Vals xs us → Vals (xs.drop n) (us.drop n)
  | _, _, 0, r => r
  | _, _, _ + 1, .nil => .nil
  | _, _, n + 1, .cons _ t => Vals.drop n t
private theorem Vals.none_of : ∀ {xs : List V} {us : List Value} {i : Nat}, Vals xs us → xs[i]? = none → us[i]? = none := fun {xs us i} r e => by
  have h1 := r.length
  have h2 : xs.length ≤ i := List.getElem?_eq_none_iff.mp e
  exact List.getElem?_eq_none_iff.mpr (by omega)

def RelO : Option V → Option Value → Prop
  | some v, some u => RelV v u
  | none, none => True
  | _, _ => False
def KV {κ : Type} : List (κ × V) → List (κ × Value) → Prop := Paired fun (p : κ × V) (q : κ × Value) => p.1 = q.1 ∧ RelV p.2 q.2

def kV : Key → V
  | .inl i => .int i
  | .inr x => .str x

inductive HO where
  | lst (xs : List V)
  | tup (xs : List V)
  | dK (kvs : List (Key × V)) | dT (kvs : List (List Key × V))
  | set (S : Int → Bool) (n : Nat)
  | ins (C dx : Addr) (fs : List (Str × V))
  | own (x : Addr)
  | xd (fs : List (Str × V))
  | met (f x : Addr)
  | rng (lo hi : Int)
  | frz (o : Obj) (u : HO)
  | tbl (ps : Array Value)
  | ext (φ : Heap → Prop)

abbrev Hp := Addr → Option HO
def upd (H : Hp) (a : Addr) (o : HO) : Hp := fun b => if b = a then some o else H b
private theorem upd_same {H : Hp} {a : Addr} {o : HO} : upd H a o a = some o := by unfold upd; rw [if_pos rfl]
private theorem upd_ne {H : Hp} {a b : Addr} {o : HO} (h : b ≠ a) : upd H a o b = H b := by unfold upd; rw [if_neg h]
private theorem upd_upd {H : Hp} {a : Addr} {o u : HO} : upd (upd H a o) a u = upd H a u := by
  funext b; unfold upd; split <;> rfl
private theorem ne_of {H : Hp} {a b : Addr} {o u : HO} (h : H a = some o) (h' : H b = some u) (d : o ≠ u) : a ≠ b := by
  intro e; subst e; rw [h] at h'; exact d (Option.some.inj h')
private theorem ne_of_none {H : Hp} {a b : Addr} {o : HO} (h : H a = some o) (h' : H b = none) : a ≠ b := by
  intro e; subst e; rw [h] at h'; cases h'

section
variable (P : Program) (w : World)
def ObjOk (H : Hp) (h : Heap) (a : Addr) : HO → Prop
  | .lst xs => xs.length ≤ sizeLine ∧ ∃ (its : List Value) (n : Nat), Vals xs its ∧ h.get? a = some { cls := .type "list", data := .seq its.toArray n }
  | .tup xs => xs.length ≤ sizeLine ∧ ∃ its : List Value, Vals xs its ∧ IsTup h a its.toArray
  | .dK kvs => kvs.length ≤ sizeLine ∧ (a == sysModules) = false ∧ ∃ vs, KV kvs vs ∧ h.DictOf (mixKind P w) a vs
  | .dT kvs => kvs.length ≤ sizeLine ∧ (a == sysModules) = false ∧ ∃ xs : List (List Key × Addr × Value),
      Paired (fun (p : List Key × V) (q : List Key × Addr × Value) => p.1 = q.1 ∧ H q.2.1 = some (.tup (p.1.map kV)) ∧ RelV p.2 q.2.2) kvs xs ∧
      ∃ o es ep, h.get? a = some o ∧ o.ExactDict ∧ o.data = .dict es ep ∧ es.toList = xs.map (entryOfKey (tupleKind (mixKind P w))) ∧ (xs.map (·.1)).Nodup
  | .set S n => h.SetOf (intKind P w) a S n
  | .ins C dx fs => H dx = some (.own a) ∧ fs.length ≤ 1000 ∧ dx ≠ a ∧ h.get? a = some (PySem.W.instObj C dx) ∧
      ∃ mA, h.Ns1 dx mA ∧ (∀ f, RelO (fs.lookup f) (mA f)) ∧ PySem.Within mA (fs.map (·.1))
  | .own _ => ∃ o, h.get? a = some o
  | .xd fs => ∃ mA, h.Ns1 a mA ∧ ∀ f, RelO (fs.lookup f) (mA f)
  | .rng lo hi => ∃ t u v, h.get? a = some { cls := .type "range", data := .fields #[.int lo t, .int hi u, .int 1 v] }
  | .frz o u => h.get? a = some o ∧ ObjOk H h a u
  | .tbl ps => h.get? a = some { cls := .none, data := .fields ps }
  | .met f x => h.get? a = some (PySem.W.methodObj (.ref f) (.ref x))
  | .ext φ => φ h ∧ (∃ o, h.get? a = some o) ∧ ∀ h1 h2 : Heap, φ h1 → (∀ o, h1.get? a = some o → h2.get? a = some o) → φ h2
def HOk (H : Hp) (h : Heap) : Prop := ∀ a o, H a = some o → ObjOk P w H h a o
end

section
variable {P : Program} {w : World} {H H' : Hp} {h h' : Heap} {a : Addr} {o : HO}
private theorem ObjOk.lt (x : ObjOk P w H h a o) : a < h.objs.size := by
  cases o with
  | lst xs => obtain ⟨_, _, _, _, e⟩ := x; exact Heap.lt_size e
  | tup xs => obtain ⟨_, _, _, p⟩ := x; exact p.lt
  | dK kvs => obtain ⟨_, _, _, _, o, _, _, e, _⟩ := x; exact Heap.lt_size e
  | dT kvs => obtain ⟨_, _, _, _, o, _, _, e, _⟩ := x; exact Heap.lt_size e
  | set S n => obtain ⟨o, _, _, _, e, _⟩ := x; exact Heap.lt_size e
  | ins C dx fs => obtain ⟨_, _, _, e, _⟩ := x; exact Heap.lt_size e
  | own y => obtain ⟨_, e⟩ := x; exact Heap.lt_size e
  | xd fs => obtain ⟨_, ⟨_, _, _, e, _⟩, _⟩ := x; exact Heap.lt_size e
  | rng lo hi => obtain ⟨_, _, _, e⟩ := x; exact Heap.lt_size e
  | frz ob u => obtain ⟨e, _⟩ := x; exact Heap.lt_size e
  | tbl ps => exact Heap.lt_size (show h.get? a = some _ from x)
  | met f y => exact Heap.lt_size (show h.get? a = some _ from x)
  | ext φ => obtain ⟨_, ⟨_, e⟩, _⟩ := x; exact Heap.lt_size e
private theorem Paired.mapP {α β : Type} {F G : α → β → Prop} : ∀ {l₁ : List α} {l₂ : List β}, Paired F l₁ l₂ → (∀ a b, F a b → G a b) → Paired G l₁ l₂
  | _, _, .nil, _ => .nil
  | _, _, .cons r t, f => .cons (f _ _ r) (Paired.mapP t f)
private theorem ObjOk.stay (x : ObjOk P w H h a o) (k : ∀ b u, (b = a ∨ H b = some (.own a)) → h.get? b = some u → h'.get? b = some u)
    (ho : ∀ b, H b = some (.own a) → H' b = some (.own a)) (ht : ∀ b xs, H b = some (.tup xs) → H' b = some (.tup xs)) : ObjOk P w H' h' a o := by
  induction o with
  | lst xs => obtain ⟨z, its, n, r, e⟩ := x; exact ⟨z, its, n, r, k _ _ (.inl rfl) e⟩
  | tup xs => obtain ⟨z, its, r, ob, e, c⟩ := x; exact ⟨z, its, r, ob, k _ _ (.inl rfl) e, c⟩
  | dK kvs => obtain ⟨z, y, vs, r, ob, es, ep, e, c⟩ := x; exact ⟨z, y, vs, r, ob, es, ep, k _ _ (.inl rfl) e, c⟩
  | dT kvs =>
    obtain ⟨z, y, xs, r, ob, es, ep, e, c⟩ := x
    exact ⟨z, y, xs, Paired.mapP r fun p q z => ⟨z.1, ht _ _ z.2.1, z.2.2⟩, ob, es, ep, k _ _ (.inl rfl) e, c⟩
  | set S n => obtain ⟨ob, es, ep, t, e, c⟩ := x; exact ⟨ob, es, ep, t, k _ _ (.inl rfl) e, c⟩
  | ins C dx fs =>
    obtain ⟨d, z, ne, e, mA, ⟨od, es, ep, e2, c⟩, r⟩ := x
    exact ⟨ho _ d, z, ne, k _ _ (.inl rfl) e, mA, ⟨od, es, ep, k _ _ (.inr d) e2, c⟩, r⟩
  | own y => obtain ⟨ob, e⟩ := x; exact ⟨ob, k _ _ (.inl rfl) e⟩
  | xd fs => obtain ⟨mA, ⟨od, es, ep, e, c⟩, r⟩ := x; exact ⟨mA, ⟨od, es, ep, k _ _ (.inl rfl) e, c⟩, r⟩
  | rng lo hi => obtain ⟨t, u, v, e⟩ := x; exact ⟨t, u, v, k _ _ (.inl rfl) e⟩
  | frz ob u ih => obtain ⟨e, q⟩ := x; exact ⟨k _ _ (.inl rfl) e, ih q⟩
  | tbl ps =>
    have e : h.get? a = some { cls := .none, data := .fields ps } := x
    show h'.get? a = some { cls := .none, data := .fields ps }
    exact k a _ (.inl rfl) e
  | met f y =>
    have e : h.get? a = some (PySem.W.methodObj (.ref f) (.ref y)) := x
    show h'.get? a = some (PySem.W.methodObj (.ref f) (.ref y))
    exact k a _ (.inl rfl) e
  | ext φ => obtain ⟨p, ⟨o, e⟩, st⟩ := x; exact ⟨st _ _ p fun o q => k _ _ (.inl rfl) q, ⟨o, k _ _ (.inl rfl) e⟩, st⟩
private theorem HOk.lt (x : HOk P w H h) (e : H a = some o) : a < h.objs.size := (x a o e).lt
private theorem HOk.fresh (x : HOk P w H h) (e : h.objs.size ≤ a) : H a = none := by
  cases q : H a with
  | none => rfl
  | some u => exact absurd (Nat.lt_of_lt_of_le (x.lt q) e) (Nat.lt_irrefl _)
private theorem HOk.kept (x : HOk P w H h) (k : ∀ b u, h.get? b = some u → h'.get? b = some u) : HOk P w H h' := fun a o e =>
  (x a o e).stay (fun b u _ q => k b u q) (fun _ q => q) fun _ _ q => q
private theorem HOk.laid (x : HOk P w H h) (k : ∀ b u, h.get? b = some u → h'.get? b = some u) (hp : h.objs.size ≤ a) (new : ObjOk P w (upd H a o) h' a o) : HOk P w (upd H a o) h' := fun b u e => by
  have hn := x.fresh hp
  by_cases hb : b = a
  · subst hb; rw [upd_same] at e; cases e; exact new
  · rw [upd_ne hb] at e
    exact (x b u e).stay (fun c v _ q => k c v q) (fun c q => by rw [upd_ne (ne_of_none q hn)]; exact q) fun c xs q => by rw [upd_ne (ne_of_none q hn)]; exact q
end

def Rd (H : Hp) (a : Addr) (u : HO) : Prop := H a = some u ∨ ∃ o, H a = some (.frz o u)
private theorem Rd.of {H : Hp} {a : Addr} {u : HO} (h : H a = some u) : Rd H a u := .inl h
private theorem Rd.ok {P : Program} {w : World} {H : Hp} {h : Heap} {a : Addr} {u : HO} (r : Rd H a u) (x : HOk P w H h) : ObjOk P w H h a u := by
  rcases r with r | ⟨o, r⟩
  · exact x a u r
  · obtain ⟨_, q⟩ := x a _ r
    exact q
def Mut : Option HO → Prop
  | some (.lst _) => True
  | some (.dK _) => True
  | some (.dT _) => True
  | some (.set _ _) => True
  | some (.ins _ _ _) => True
  | some (.ext _) => True
  | _ => False
section
variable {P : Program} {w : World} {H : Hp} {h h' : Heap} {x e : Addr} {o' : HO}
private theorem HOk.write (ok : HOk P w H h) (mu : Mut (H x)) (he : e = x ∨ H e = some (.own x)) (k : ∀ b u, b ≠ e → h.get? b = some u → h'.get? b = some u) (heo : ∃ u, h'.get? e = some u)
    (new : ObjOk P w (upd H x o') h' x o') : HOk P w (upd H x o') h' := fun b u q => by
  have nown : ∀ c y, H c = some (.own y) → c ≠ x := fun c y r z => by subst z; rw [r] at mu; exact mu
  have ntup : ∀ c xs, H c = some (.tup xs) → c ≠ x := fun c xs r z => by subst z; rw [r] at mu; exact mu
  by_cases hb : b = x
  · subst hb; rw [upd_same] at q; cases q; exact new
  · rw [upd_ne hb] at q
    by_cases hbe : b = e
    · have q' : H b = some (.own x) := by
        rcases he with z | z
        · exact absurd (hbe.trans z) hb
        · rw [hbe]; exact z
      rw [q] at q'; cases q'
      obtain ⟨v, hv⟩ := heo
      exact ⟨v, by rw [hbe]; exact hv⟩
    · refine (ok b u q).stay (fun c v hc r => k c v ?_ r) (fun c r => by rw [upd_ne (nown c b r)]; exact r) fun c xs r => by rw [upd_ne (ntup c xs r)]; exact r
      rcases hc with rfl | hc
      · exact hbe
      · rintro rfl
        rcases he with z | z
        · exact nown c b hc z
        · rw [hc] at z; cases z; exact hb rfl
end

structure Un (fs ex : List Addr) (H H' : Hp) (h h' : Heap) : Prop where
  keep : ∀ b o, h.get? b = some o → H b = none → b ∉ fs → b ∉ ex → h'.get? b = some o
  slot : ∀ b o, h.get? b = some o → H b = none → b ∈ fs → b ∉ ex → ∃ sl, h'.get? b = some { o with slots := sl }
  free : ∀ b o, h.get? b = some o → H b = none → b ∉ ex → H' b = none
  there : ∀ b o, h.get? b = some o → b ∉ ex → ∃ o', h'.get? b = some o'
  tups : ∀ b xs, H b = some (.tup xs) → H' b = some (.tup xs)
  frzs : ∀ b o u, H b = some (.frz o u) → H' b = some (.frz o u)
  tbls : ∀ b ps, H b = some (.tbl ps) → ∃ more, H' b = some (.tbl (ps ++ more))
section
variable {fs fs' ex ex' : List Addr} {H H1 H2 : Hp} {h h1 h2 h' : Heap} {a x e : Addr} {o : HO}
private theorem Un.any (u : Un fs ex H H1 h h1) {b : Addr} {ob : Obj} (q : h.get? b = some ob) (n : H b = none) (hx : b ∉ ex) : ∃ sl, h1.get? b = some { ob with slots := sl } := by
  by_cases hb : b ∈ fs
  · exact u.slot b ob q n hb hx
  · exact ⟨ob.slots, u.keep b ob q n hb hx⟩
private theorem Un.trans (a : Un fs ex H H1 h h1) (b : Un fs ex H1 H2 h1 h2) : Un fs ex H H2 h h2 where
  keep := fun c ob q n hc hx => b.keep c ob (a.keep c ob q n hc hx) (a.free c ob q n hx) hc hx
  slot := fun c ob q n hc hx => by
    obtain ⟨sl, e1⟩ := a.slot c ob q n hc hx
    obtain ⟨sl', e2⟩ := b.slot c _ e1 (a.free c ob q n hx) hc hx
    exact ⟨sl', e2⟩
  free := fun c ob q n hx => by
    obtain ⟨o', e1⟩ := a.there c ob q hx
    exact b.free c o' e1 (a.free c ob q n hx) hx
  there := fun c ob q hx => by
    obtain ⟨o', e1⟩ := a.there c ob q hx
    exact b.there c o' e1 hx
  tups := fun c xs q => b.tups c xs (a.tups c xs q)
  frzs := fun c ob xs q => b.frzs c ob xs (a.frzs c ob xs q)
  tbls := fun c ps q => by
    obtain ⟨m1, e1⟩ := a.tbls c ps q
    obtain ⟨m2, e2⟩ := b.tbls c _ e1
    exact ⟨m1 ++ m2, by rw [e2, Array.append_assoc]⟩
private theorem Un.kept (k : ∀ b u, h.get? b = some u → h'.get? b = some u) : Un fs ex H H h h' :=
  ⟨fun b ob q _ _ _ => k b ob q, fun b ob q _ _ _ => ⟨ob.slots, k b ob q⟩, fun _ _ _ n _ => n, fun b ob q _ => ⟨ob, k b ob q⟩, fun _ _ q => q, fun _ _ _ q => q, fun _ ps q => ⟨#[], by rw [q]; simp⟩⟩
private theorem Un.refl : Un fs ex H H h h := Un.kept fun _ _ q => q
private theorem Un.laid (k : ∀ b u, h.get? b = some u → h'.get? b = some u) (hp : h.objs.size ≤ a) (hn : H a = none) : Un fs ex H (upd H a o) h h' where
  keep := fun b u q _ _ _ => k b u q
  slot := fun b u q _ _ _ => ⟨u.slots, k b u q⟩
  free := fun b u q n _ => by rw [upd_ne (Nat.ne_of_lt (Nat.lt_of_lt_of_le (Heap.lt_size q) hp))]; exact n
  there := fun b u q _ => ⟨u, k b u q⟩
  tups := fun b xs q => by rw [upd_ne (ne_of_none q hn)]; exact q
  frzs := fun b u xs q => by rw [upd_ne (ne_of_none q hn)]; exact q
  tbls := fun b ps q => ⟨#[], by rw [upd_ne (ne_of_none q hn), q]; simp⟩
private theorem Un.write (mu : Mut (H x)) (he : e = x ∨ H e = some (.own x)) (k : ∀ b u, b ≠ e → h.get? b = some u → h'.get? b = some u) (heo : ∃ u, h'.get? e = some u) : Un fs ex H (upd H x o) h h' := by
  have hx : ∀ b, H b = none → b ≠ x := fun b n z => by subst z; rw [n] at mu; exact mu
  have hb : ∀ b, H b = none → b ≠ e := fun b n z => by
    subst z
    rcases he with r | r
    · exact hx b n r
    · rw [n] at r; cases r
  have hm : ∀ b u, H b = some u → ¬ Mut (some u) → b ≠ x := fun b u q nm z => by subst z; rw [q] at mu; exact nm mu
  refine ⟨fun b u q n _ _ => k b u (hb b n) q, fun b u q n _ _ => ⟨u.slots, k b u (hb b n) q⟩, fun b u q n _ => by rw [upd_ne (hx b n)]; exact n, fun b u q _ => ?_,
    fun b xs q => by rw [upd_ne (hm b _ q fun z => z)]; exact q, fun b u xs q => by rw [upd_ne (hm b _ q fun z => z)]; exact q, fun b ps q => ⟨#[], by rw [upd_ne (hm b _ q fun z => z), q]; simp⟩⟩
  by_cases hbe : b = e
  · subst hbe; exact heo
  · exact ⟨u, k b u hbe q⟩
private theorem Un.mono (u : Un fs ex H H1 h h1) (hs : ∀ b ∈ fs, b ∈ fs') (hx : ∀ b ∈ ex, b ∈ ex') : Un fs' ex' H H1 h h1 :=
  ⟨fun b ob q n hb he => u.keep b ob q n (fun z => hb (hs b z)) fun z => he (hx b z), fun _ _ q n _ he => u.any q n fun z => he (hx _ z), fun b ob q n he => u.free b ob q n fun z => he (hx b z), fun b ob q he => u.there b ob q fun z => he (hx b z), u.tups, u.frzs, u.tbls⟩
end

def trk (h : Heap) (H : Hp) : List Addr := (List.range h.objs.size).filter fun a => (H a).isSome
def hidT (h : Heap) (H : Hp) : Heap := PySem.W.hideAll h (trk h H)
private theorem hidT_size (h : Heap) (H : Hp) : (hidT h H).objs.size = h.objs.size := PySem.W.hideAll_size _ _
private theorem hidT_get {h : Heap} {H : Hp} {b : Addr} {o : Obj} (e : h.get? b = some o) (n : H b = none) : (hidT h H).get? b = some o :=
  PySem.W.hideAll_get _ e fun hm => by
    have q : (H b).isSome = true := (List.mem_filter.mp hm).2
    rw [n] at q; simp at q
private theorem of_hidT {h : Heap} {H : Hp} {b : Addr} {o : Obj} (e : (hidT h H).get? b = some o) : h.get? b = some o ∧ H b = none := by
  have e' : h.get? b = some o := PySem.W.of_hideAll (trk h H) e
  refine ⟨e', ?_⟩
  cases q : H b with
  | none => rfl
  | some x =>
    have hm : b ∈ trk h H := List.mem_filter.mpr ⟨List.mem_range.mpr (Heap.lt_size e'), by simp [q]⟩
    have z : (hidT h H).get? b = none := PySem.W.hideAll_none (trk h H) hm
    rw [z] at e; cases e

def allNews (g h : Heap) (L : Addr) : List (Addr × Obj) := (List.range h.objs.size).filterMap fun a => if a = L ∨ (g.get? a).isSome = true then none else (h.get? a).map fun o => (a, o)
def rest (g h : Heap) (L d : Addr) : List (Addr × Obj) := (allNews g h L).filter fun p => decide (p.1 ≠ d)
end L2

namespace L2
open PySem PySem.Spec PyProof.Rows

structure Mod (K : PySem.W.Frag) (mg : Str → Option Value) (base : Heap) : Prop where
  kin : K.In base
  glob : base.Ns mainGlobals mg
  blt : ∃ mb, base.Ns builtinsNs mb ∧ ∀ x : Str, x ≠ "__name__" → mb x = bootBuiltins x
  nolimit : base.NoLimit

structure Cx where
  prog : Program
  w : World
  K : PySem.W.Frag
  mg : Str → Option Value
  base : Heap
  A : Around
  N : List Str
  s₀ : Shared
  H₀ : Hp
  env : Env
  outer : List Env
  stack : List Env
  ex : List Addr
  fn : Str → Bool
  calm : Bool
  pn : List (Addr × Obj)
  xe : Value → Shared → Prop
def frs (l : List Env) : List Addr := l.filterMap (·.frame)
abbrev Cx.fs (X : Cx) : List Addr := frs X.outer

def Vis (sc : Scope) (x : Str) : Prop := sc.names.lookup x = some .local ∨ sc.names.lookup x = some .cell ∨ sc.names.lookup x = some .free
def Loc (sc : Scope) (x : Str) : Prop := sc.names.lookup x = some .local ∨ sc.names.lookup x = some .cell
def Look (env : Env) (h : Heap) (m : Str → Option Value) (x : Str) (u : Value) : Prop :=
  (env.kindOf x = some .local ∧ m x = some u) ∨ ((env.kindOf x = some .cell ∨ env.kindOf x = some .free) ∧ ∃ c, env.cells.lookup x = some c ∧ h.IsCell c (some u))

structure Cx.Ok (X : Cx) : Prop where
  mod : Mod X.K X.mg X.base
  kind : X.env.scope.kind = .function
  glob : X.env.globals = mainGlobals
  blt : X.env.builtins = builtinsNs
  above : X.s₀.heap.objs.size ≤ X.env.locals
  inj : ∀ x y c, X.env.cells.lookup x = some c → X.env.cells.lookup y = some c → x = y
  has : ∀ x, (X.env.kindOf x = some .cell ∨ X.env.kindOf x = some .free) → ∃ c, X.env.cells.lookup x = some c
  cab : ∀ x c, X.fn x = true → X.env.cells.lookup x = some c → X.s₀.heap.objs.size ≤ c
  hd : X.calm = true → X.A.handled = none
  frames : X.A.frames = some X.stack
  stk : X.stack = X.outer ∨ (X.stack = X.env :: X.outer ∧ X.env.frame = some X.env.locals)
  exf : ∀ b ∈ X.ex, b ≠ X.env.locals ∧ ∀ x c, X.env.cells.lookup x = some c → c ≠ b
  bs : ∀ b o, X.base.get? b = some o → X.s₀.heap.get? b = some o ∧ X.H₀ b = none
  bsz : X.base.objs.size ≤ X.s₀.heap.objs.size
  noex : ∀ b o, X.base.get? b = some o → b ∉ X.ex
  exfs : ∀ b ∈ X.ex, b ∉ X.fs
  funs : X.s₀.heap.FunFrames X.base X.outer
  frf : ∀ b ∈ X.fs, X.H₀ b = none

structure Inv (X : Cx) (pins : List (Addr × Obj)) (σ : List (Option V)) (H : Hp) (s : Shared) : Prop where
  ok : X.Ok
  os : s.os = X.s₀.os
  bare : AllBare s.gens
  base : Un X.fs X.ex X.H₀ H X.s₀.heap s.heap
  loc : ∃ m, s.heap.Ns X.env.locals m ∧ ∀ (i : Nat) (x : Str) (v : V), X.N[i]? = some x → σ[i]? = some (some v) → Vis X.env.scope x → ∃ u, RelV v u ∧ Look X.env s.heap m x u
  cell : ∀ x c, X.env.cells.lookup x = some c → ∃ v, s.heap.IsCell c v
  free : H X.env.locals = none
  freeC : ∀ x c, X.env.cells.lookup x = some c → H c = none
  pin : ∀ p ∈ X.pn ++ pins, s.heap.get? p.1 = some p.2 ∧ H p.1 = none ∧ p.1 ≠ X.env.locals ∧ p.1 ∉ X.fs ∧ ∀ v, p.2.data ≠ .cell v
  hok : HOk X.prog X.w H s.heap
  len : σ.length = X.N.length

section
variable {X : Cx} {pins : List (Addr × Obj)} {σ : List (Option V)} {H H' : Hp} {s : Shared} {h' : Heap}

private theorem Cx.Ok.nofr (ok : X.Ok) {b : Addr} {o : Obj} (e : X.base.get? b = some o) : b ∉ X.fs := fun hb => by
  have := (ok.funs.mem hb).1
  rw [e] at this; cases this
private theorem Inv.bs (I : Inv X pins σ H s) : ∀ b o, X.base.get? b = some o → s.heap.get? b = some o ∧ H b = none := fun b o e =>
  ⟨I.base.keep b o (I.ok.bs b o e).1 (I.ok.bs b o e).2 (I.ok.nofr e) (I.ok.noex b o e), I.base.free b o (I.ok.bs b o e).1 (I.ok.bs b o e).2 (I.ok.noex b o e)⟩
private theorem Inv.bk (I : Inv X pins σ H s) : ∀ b o, X.base.get? b = some o → s.heap.get? b = some o := fun b o e => (I.bs b o e).1
private theorem Inv.mod (I : Inv X pins σ H s) : Mod X.K X.mg X.base := I.ok.mod
private theorem Inv.kIn (I : Inv X pins σ H s) : X.K.In s.heap := I.ok.mod.kin.keeps I.bk
private theorem Inv.nolimit (I : Inv X pins σ H s) : s.heap.NoLimit := I.ok.mod.nolimit.keeps I.bk
private theorem Inv.fr (I : Inv X pins σ H s) : ∃ m, Fr X.base X.env.locals s.heap m :=
  let ⟨m, hn, _⟩ := I.loc
  ⟨m, hn, I.bk, Nat.le_trans I.ok.bsz I.ok.above⟩
private theorem Inv.lt (I : Inv X pins σ H s) : X.env.locals < s.heap.objs.size := let ⟨_, hn, _⟩ := I.loc; hn.lt
private theorem Inv.sz (I : Inv X pins σ H s) : X.s₀.heap.objs.size ≤ s.heap.objs.size := Nat.le_trans I.ok.above (Nat.le_of_lt I.lt)
private theorem Inv.nofs (I : Inv X pins σ H s) {a : Addr} (h : s.heap.objs.size ≤ a) : a ∉ X.fs := fun hb => by
  obtain ⟨_, o, ho, _⟩ := I.ok.funs.mem hb
  exact absurd (Nat.lt_of_lt_of_le (Heap.lt_size ho) (Nat.le_trans I.sz h)) (Nat.lt_irrefl _)
private theorem Inv.cne (I : Inv X pins σ H s) : ∀ x c, X.env.cells.lookup x = some c → c ≠ X.env.locals := fun x c e z => by
  obtain ⟨v, o, ho, hd⟩ := I.cell x c e
  obtain ⟨m, ⟨o', es, ep, ho', hd', _⟩, _⟩ := I.loc
  rw [z, ho'] at ho; cases ho; rw [hd'] at hd; cases hd
private theorem Inv.funs (I : Inv X pins σ H s) : s.heap.FunFrames X.base X.outer := by
  have all : ∀ (l : List Env), (∀ b ∈ frs l, b ∈ X.fs) → X.s₀.heap.FunFrames X.base l → s.heap.FunFrames X.base l := by
    intro l
    induction l with
    | nil => intro _ _; trivial
    | cons env r ih =>
      intro hs hl
      obtain ⟨hk, ⟨L, o, hf, hn, ho, hd⟩, hr⟩ := hl
      have hL : L ∈ X.fs := hs L (by unfold frs; rw [List.filterMap_cons, hf]; exact List.mem_cons_self)
      obtain ⟨sl, e⟩ := I.base.slot L o ho (I.ok.frf L hL) hL fun z => I.ok.exfs L z hL
      exact ⟨hk, ⟨L, _, hf, hn, e, hd⟩, ih (fun b hb => hs b (by unfold frs; rw [List.filterMap_cons, hf]; exact List.mem_cons_of_mem _ hb)) hr⟩
  exact all X.outer (fun _ hb => hb) I.ok.funs

private theorem Inv.stack (I : Inv X pins σ H s) : s.heap.FunFrames X.base X.stack := by
  rcases I.ok.stk with e | ⟨e, hf⟩
  · rw [e]; exact I.funs
  · rw [e]
    obtain ⟨m, hn, _⟩ := I.loc
    refine .cons (by rw [I.ok.kind]; decide) hf hn ?_ I.funs
    exact Heap.get?_none_of_le (Nat.le_trans I.ok.bsz I.ok.above)
private theorem Inv.stkSub (I : Inv X pins σ H s) : ∀ b ∈ frs X.stack, b ∈ X.env.locals :: X.fs := fun b hb => by
  rcases I.ok.stk with e | ⟨e, hf⟩
  · rw [e] at hb; exact List.mem_cons_of_mem _ hb
  · rw [e] at hb
    unfold frs at hb
    rw [List.filterMap_cons, hf] at hb
    exact hb
private theorem Inv.stkFree (I : Inv X pins σ H s) : ∀ b ∈ frs X.stack, H b = none := fun b hb => by
  rcases List.mem_cons.mp (I.stkSub b hb) with e | hb
  · rw [e]; exact I.free
  · obtain ⟨_, o, ho, _⟩ := I.ok.funs.mem hb
    exact I.base.free b o ho (I.ok.frf b hb) fun z => I.ok.exfs b z hb

private theorem Inv.step {g' : Array GenState} {t' : Nat} {d' : Drawn} {ch : List Addr} (I : Inv X pins σ H s)
    (hch : ∀ b ∈ ch, (b ∈ X.ex ∨ X.s₀.heap.objs.size ≤ b) ∧ b ≠ X.env.locals ∧ (∀ x c, X.env.cells.lookup x = some c → c ≠ b) ∧ ∀ p ∈ X.pn ++ pins, p.1 ≠ b)
    (keep : ∀ b o, b ≠ X.env.locals → b ∉ X.fs → b ∉ ch → s.heap.get? b = some o → H b = none → h'.get? b = some o)
    (slot : ∀ b o, b ≠ X.env.locals → b ∈ X.fs → b ∉ ch → s.heap.get? b = some o → H b = none → ∃ sl, h'.get? b = some { o with slots := sl }) (free : ∀ b o, b ∉ ch → s.heap.get? b = some o → H b = none → H' b = none)
    (there : ∀ b o, b ∉ ch → s.heap.get? b = some o → ∃ o', h'.get? b = some o')
    (tups : ∀ b xs, H b = some (.tup xs) → H' b = some (.tup xs)) (frzs : ∀ b o u, H b = some (.frz o u) → H' b = some (.frz o u)) (tbls : ∀ b ps, H b = some (.tbl ps) → ∃ more, H' b = some (.tbl (ps ++ more)))
    (ns : ∀ m, s.heap.Ns X.env.locals m → h'.Ns X.env.locals m) (hok : HOk X.prog X.w H' h') (hg : AllBare g') :
    Inv X pins σ H' { s with heap := h', gens := g', drawn := d', toks := t' } := by
  have neL : ∀ b o, X.s₀.heap.get? b = some o → b ≠ X.env.locals := fun b o e => Nat.ne_of_lt (Nat.lt_of_lt_of_le (Heap.lt_size e) I.ok.above)
  have neC : ∀ b o, X.s₀.heap.get? b = some o → b ∉ X.ex → b ∉ ch := fun b o e hx hb => by
    rcases (hch b hb).1 with z | z
    · exact hx z
    · exact absurd (Nat.lt_of_lt_of_le (Heap.lt_size e) z) (Nat.lt_irrefl _)
  have cellK : ∀ x c, X.env.cells.lookup x = some c → ∀ v, s.heap.IsCell c v → h'.IsCell c v := fun x c e v ⟨o, ho, hd⟩ => by
    have nch : c ∉ ch := fun z => (hch c z).2.2.1 x c e rfl
    by_cases hc : c ∈ X.fs
    · obtain ⟨sl, q⟩ := slot c o (I.cne x c e) hc nch ho (I.freeC x c e)
      exact ⟨_, q, hd⟩
    · exact ⟨o, keep c o (I.cne x c e) hc nch ho (I.freeC x c e), hd⟩
  refine ⟨I.ok, I.os, hg, ⟨fun b o e n hb hx => ?_, fun b o e n hb hx => ?_, fun b o e n hx => ?_, fun b o e hx => ?_, fun b xs e => tups b xs (I.base.tups b xs e), fun b o xs e => frzs b o xs (I.base.frzs b o xs e), fun b ps e => ?_⟩, ?_, fun x c e => ?_, ?_, fun x c e => ?_, fun p hp => ?_, hok, I.len⟩
  · exact keep b o (neL b o e) hb (neC b o e hx) (I.base.keep b o e n hb hx) (I.base.free b o e n hx)
  · obtain ⟨sl, e1⟩ := I.base.slot b o e n hb hx
    obtain ⟨sl', e2⟩ := slot b _ (neL b o e) hb (neC b o e hx) e1 (I.base.free b o e n hx)
    exact ⟨sl', e2⟩
  · obtain ⟨o', e1⟩ := I.base.there b o e hx
    exact free b o' (neC b o e hx) e1 (I.base.free b o e n hx)
  · obtain ⟨o', e1⟩ := I.base.there b o e hx
    exact there b o' (neC b o e hx) e1
  · obtain ⟨m1, e1⟩ := I.base.tbls b ps e
    obtain ⟨m2, e2⟩ := tbls b _ e1
    exact ⟨m1 ++ m2, by rw [e2, Array.append_assoc]⟩
  · obtain ⟨m, hn, hl⟩ := I.loc
    refine ⟨m, ns m hn, fun i x v e1 e2 e3 => ?_⟩
    obtain ⟨u, r, l⟩ := hl i x v e1 e2 e3
    refine ⟨u, r, ?_⟩
    rcases l with l | ⟨k, c, e, z⟩
    · exact .inl l
    · exact .inr ⟨k, c, e, cellK x c e _ z⟩
  · obtain ⟨v, z⟩ := I.cell x c e
    exact ⟨v, cellK x c e v z⟩
  · obtain ⟨m, ⟨o, _, _, ho, _⟩, _⟩ := I.loc
    exact free _ o (fun z => (hch _ z).2.1 rfl) ho I.free
  · obtain ⟨v, o, ho, hd⟩ := I.cell x c e
    exact free c o (fun z => (hch c z).2.2.1 x c e rfl) ho (I.freeC x c e)
  · obtain ⟨e, n, ne, nf, d⟩ := I.pin p hp
    have nch : p.1 ∉ ch := fun z => (hch p.1 z).2.2.2 p hp rfl
    exact ⟨keep p.1 p.2 ne nf nch e n, free p.1 p.2 nch e n, ne, nf, d⟩
private theorem Inv.un {t' : Nat} (I : Inv X pins σ H s) (u : Un X.fs [] H H' s.heap h') (hok : HOk X.prog X.w H' h') : Inv X pins σ H' { s with heap := h', toks := t' } := by
  obtain ⟨m, ⟨o, es, ep, ho, r⟩, _⟩ := id I.loc
  obtain ⟨sl, hL⟩ := u.any ho I.free (by simp)
  exact I.step (g' := s.gens) (d' := s.drawn) (ch := []) (fun _ z => nomatch z) (fun b o _ hb _ e n => u.keep b o e n hb (by simp)) (fun b o _ hb _ e n => u.slot b o e n hb (by simp)) (fun b o _ e n => u.free b o e n (by simp)) (fun b o _ e => u.there b o e (by simp)) u.tups u.frzs u.tbls (fun m' hm => by
    obtain ⟨o', es', ep', ho', r'⟩ := hm
    rw [ho] at ho'; cases ho'
    exact ⟨_, es', ep', hL, r'⟩) hok I.bare
private theorem Inv.call {g' : Array GenState} {t' : Nat} {d' : Drawn} {ch : List Addr} (I : Inv X pins σ H s) (u : Un (frs X.stack) ch H H' s.heap h') (hok : HOk X.prog X.w H' h') (hg : AllBare g')
    (hch : ∀ b ∈ ch, (b ∈ X.ex ∨ X.s₀.heap.objs.size ≤ b) ∧ b ≠ X.env.locals ∧ (∀ x c, X.env.cells.lookup x = some c → c ≠ b) ∧ ∀ p ∈ X.pn ++ pins, p.1 ≠ b) :
    Inv X pins σ H' { s with heap := h', gens := g', drawn := d', toks := t' } := by
  obtain ⟨m, ⟨o, es, ep, ho, r⟩, _⟩ := id I.loc
  obtain ⟨sl, hL⟩ := u.any ho I.free fun z => (hch _ z).2.1 rfl
  exact I.step (ch := ch) hch (fun b o hL hb hc e n => u.keep b o e n (fun z => (List.mem_cons.mp (I.stkSub b z)).elim hL hb) hc) (fun b o _ _ hc e n => u.any e n hc) (fun b o hc e n => u.free b o e n hc) (fun b o hc e => u.there b o e hc) u.tups u.frzs u.tbls (fun m' hm => by
    obtain ⟨o', es', ep', ho', r'⟩ := hm
    rw [ho] at ho'; cases ho'
    exact ⟨_, es', ep', hL, r'⟩) hok hg
private theorem Inv.turned {t' : Nat} {it : Addr} (I : Inv X pins σ H s) (k : ∀ b o, b ≠ it → s.heap.get? b = some o → h'.get? b = some o) (hn : H it = none) (hL : it ≠ X.env.locals)
    (h1 : it ∈ X.ex ∨ X.s₀.heap.objs.size ≤ it) (h2 : ∀ x c, X.env.cells.lookup x = some c → c ≠ it) (h3 : ∀ p ∈ X.pn ++ pins, p.1 ≠ it) : Inv X pins σ H { s with heap := h', toks := t' } := by
  have nit : ∀ b u, H b = some u → b ≠ it := fun b u e z => by rw [z, hn] at e; cases e
  refine I.step (g' := s.gens) (d' := s.drawn) (ch := [it]) (fun b hb => ?_) (fun b o _ _ hc e _ => k b o (fun z => hc (by simp [z])) e) (fun b o _ _ hc e _ => ⟨o.slots, k b o (fun z => hc (by simp [z])) e⟩) (fun _ _ _ _ n => n)
    (fun b o hc e => ⟨o, k b o (fun z => hc (by simp [z])) e⟩) (fun _ _ e => e) (fun _ _ _ e => e) (fun b ps e => ⟨#[], by rw [e]; simp⟩) (fun m hm => ?_) (fun b u e => ?_) I.bare
  · have e : b = it := by simpa using hb
    subst e
    exact ⟨h1, hL, h2, h3⟩
  · obtain ⟨o, es, ep, ho, r⟩ := hm
    exact ⟨o, es, ep, k _ o (Ne.symm hL) ho, r⟩
  · refine (I.hok b u e).stay (fun c v hc q => k c v ?_ q) (fun _ q => q) fun _ _ q => q
    rcases hc with z | z
    · rw [z]; exact nit b u e
    · exact nit c _ z
private theorem Inv.tok (I : Inv X pins σ H s) (t : Nat) : Inv X pins σ H { s with toks := t } := I.un (h' := s.heap) (t' := t) Un.refl I.hok
private theorem Inv.kept {t' : Nat} (I : Inv X pins σ H s) (k : ∀ b u, s.heap.get? b = some u → h'.get? b = some u) : Inv X pins σ H { s with heap := h', toks := t' } := I.un (Un.kept k) (I.hok.kept k)
private theorem Inv.laid {a : Addr} {o : HO} {t' : Nat} (I : Inv X pins σ H s) (k : ∀ b u, s.heap.get? b = some u → h'.get? b = some u) (hp : s.heap.objs.size ≤ a) (new : ObjOk X.prog X.w (upd H a o) h' a o) :
    Inv X pins σ (upd H a o) { s with heap := h', toks := t' } := I.un (Un.laid k hp (I.hok.fresh hp)) (I.hok.laid k hp new)
private theorem Inv.write {x e : Addr} {o : HO} {t' : Nat} (I : Inv X pins σ H s) (mu : Mut (H x)) (he : e = x ∨ H e = some (.own x)) (k : ∀ b u, b ≠ e → s.heap.get? b = some u → h'.get? b = some u) (heo : ∃ u, h'.get? e = some u)
    (new : ObjOk X.prog X.w (upd H x o) h' x o) : Inv X pins σ (upd H x o) { s with heap := h', toks := t' } := I.un (Un.write mu he k heo) (I.hok.write mu he k heo new)
private theorem Inv.pins_of {pins' : List (Addr × Obj)} (I : Inv X pins σ H s) (h : ∀ p ∈ pins', s.heap.get? p.1 = some p.2 ∧ H p.1 = none ∧ p.1 ≠ X.env.locals ∧ p.1 ∉ X.fs ∧ ∀ v, p.2.data ≠ .cell v) : Inv X pins' σ H s :=
  ⟨I.ok, I.os, I.bare, I.base, I.loc, I.cell, I.free, I.freeC, fun p hp => (List.mem_append.mp hp).elim (fun z => I.pin p (List.mem_append_left _ z)) (h p), I.hok, I.len⟩

private theorem nodup_ix {N : List Str} (hN : N.Nodup) {i j : Nat} {x : Str} (a : N[i]? = some x) (b : N[j]? = some x) : i = j := by
  obtain ⟨h1, e1⟩ := List.getElem?_eq_some_iff.mp a
  obtain ⟨h2, e2⟩ := List.getElem?_eq_some_iff.mp b
  exact (List.getElem_inj hN).mp (e1.trans e2.symm)

private theorem store_ok2 {M : Model} {A : Around} {E : Value → Shared → Prop} {i : Nat} {x : Str} {v : V} {u : Value} {Q : Unit → Shared → Prop} (I : Inv X pins σ H s) (hN : X.N.Nodup) (hi : X.N[i]? = some x) (hx : Loc X.env.scope x) (r : RelV v u)
    (h : ∀ s', Inv X pins (σ.set i (some v)) H s' → (∃ a, Heap.SameBut a s.heap s'.heap ∧ (a = X.env.locals ∨ X.env.cells.lookup x = some a)) → Q () s') (hf : X.fn x = true ∨ X.env.scope.names.lookup x = some .local := by first | exact .inl rfl | exact .inr rfl | assumption) : wpAny M A (storeName X.env x u) Q E s := by
  obtain ⟨m, hn, hl⟩ := id I.loc
  have hcls : (X.env.scope.kind == .class || (X.env.scope.kind == .module && X.env.locals != X.env.globals)) = false := by rw [I.ok.kind]; rfl
  have hiσ : i < σ.length := by rw [I.len]; exact (List.getElem?_eq_some_iff.mp hi).1
  have cne := I.cne
  have tracked : ∀ {a : Addr} {h' : Heap}, (∃ o, s.heap.get? a = some o ∧ H a = none) → Heap.SameBut a s.heap h' → HOk X.prog X.w H h' := fun {a h'} ha hs b ob e => by
    obtain ⟨_, _, hfree⟩ := ha
    refine (I.hok b ob e).stay (fun c w' hc q => (hs.2 c ?_).trans q) (fun _ q => q) fun _ _ q => q
    rintro rfl
    rcases hc with rfl | hc
    · rw [hfree] at e; cases e
    · rw [hfree] at hc; cases hc
  rcases hx with hk | hk
  · refine wpAny_storeName_local hk hn (fun h' hn' hs => ?_) hcls
    obtain ⟨oL, _, _, hoL, _⟩ := id hn
    refine h _ ⟨I.ok, I.os, I.bare, ⟨fun b o e n hb hx => ?_, fun b o e n hb hx => ?_, I.base.free, fun b o e hx => ?_, I.base.tups, I.base.frzs, I.base.tbls⟩, ⟨_, hn', fun j y v' e1 e2 e3 => ?_⟩, fun y c e => ?_, I.free, I.freeC, fun p hp => ?_, tracked ⟨oL, hoL, I.free⟩ hs, by simpa using I.len⟩ ⟨_, hs, .inl rfl⟩
    · exact (hs.2 b (Nat.ne_of_lt (Nat.lt_of_lt_of_le (Heap.lt_size e) I.ok.above))).trans (I.base.keep b o e n hb hx)
    · obtain ⟨sl, e1⟩ := I.base.slot b o e n hb hx
      exact ⟨sl, (hs.2 b (Nat.ne_of_lt (Nat.lt_of_lt_of_le (Heap.lt_size e) I.ok.above))).trans e1⟩
    · obtain ⟨o', e1⟩ := I.base.there b o e hx
      exact ⟨o', (hs.2 b (Nat.ne_of_lt (Nat.lt_of_lt_of_le (Heap.lt_size e) I.ok.above))).trans e1⟩
    · by_cases hj : j = i
      · subst hj
        rw [hi] at e1; cases e1
        rw [List.getElem?_set_self hiσ] at e2
        cases e2
        exact ⟨u, r, .inl ⟨hk, by simp⟩⟩
      · rw [List.getElem?_set_ne (Ne.symm hj)] at e2
        obtain ⟨u', r', q⟩ := hl j y v' e1 e2 e3
        refine ⟨u', r', ?_⟩
        rcases q with ⟨k, e⟩ | ⟨k, c, e, z⟩
        · refine .inl ⟨k, ?_⟩
          have : y ≠ x := fun e => hj (nodup_ix hN e1 (e ▸ hi))
          simp [this, e]
        · exact .inr ⟨k, c, e, z.sameBut hs (cne y c e)⟩
    · obtain ⟨w', z⟩ := I.cell y c e
      exact ⟨w', z.sameBut hs (cne y c e)⟩
    · obtain ⟨e, n, ne, nf, d⟩ := I.pin p hp
      exact ⟨(hs.2 p.1 ne).trans e, n, ne, nf, d⟩
  · have hfn : X.fn x = true := by
      rcases hf with z | z
      · exact z
      · rw [z] at hk; cases hk
    obtain ⟨c, hc⟩ := I.ok.has x (.inl hk)
    obtain ⟨w', z⟩ := I.cell x c hc
    refine wpAny_storeName_cell I.ok.kind hk hc z (fun h' hc' hs => ?_)
    obtain ⟨oc, hoc, hocd⟩ := id z
    refine h { s with heap := h' } ⟨I.ok, I.os, I.bare, ⟨fun b o e n hb hx => ?_, fun b o e n hb hx => ?_, I.base.free, fun b o e hx => ?_, I.base.tups, I.base.frzs, I.base.tbls⟩, ⟨m, hn.sameBut hs (Ne.symm (cne x c hc)), fun j y v' e1 e2 e3 => ?_⟩, fun y c' e => ?_, I.free, I.freeC, fun p hp => ?_, tracked ⟨oc, hoc, I.freeC x c hc⟩ hs, by simpa using I.len⟩ ⟨c, hs, .inr hc⟩
    · exact (hs.2 b (Nat.ne_of_lt (Nat.lt_of_lt_of_le (Heap.lt_size e) (I.ok.cab x c hfn hc)))).trans (I.base.keep b o e n hb hx)
    · obtain ⟨sl, e1⟩ := I.base.slot b o e n hb hx
      exact ⟨sl, (hs.2 b (Nat.ne_of_lt (Nat.lt_of_lt_of_le (Heap.lt_size e) (I.ok.cab x c hfn hc)))).trans e1⟩
    · obtain ⟨o', e1⟩ := I.base.there b o e hx
      exact ⟨o', (hs.2 b (Nat.ne_of_lt (Nat.lt_of_lt_of_le (Heap.lt_size e) (I.ok.cab x c hfn hc)))).trans e1⟩
    · by_cases hj : j = i
      · subst hj
        rw [hi] at e1; cases e1
        rw [List.getElem?_set_self hiσ] at e2
        cases e2
        exact ⟨u, r, .inr ⟨.inl hk, c, hc, hc'⟩⟩
      · rw [List.getElem?_set_ne (Ne.symm hj)] at e2
        obtain ⟨u', r', q⟩ := hl j y v' e1 e2 e3
        refine ⟨u', r', ?_⟩
        rcases q with q | ⟨k, c', e, z'⟩
        · exact .inl q
        · refine .inr ⟨k, c', e, z'.sameBut hs ?_⟩
          rintro rfl
          exact hj (nodup_ix hN e1 (I.ok.inj _ _ _ e hc ▸ hi))
    · by_cases hcc : c' = c
      · subst hcc; exact ⟨_, hc'⟩
      · obtain ⟨w2, z2⟩ := I.cell y c' e
        exact ⟨w2, z2.sameBut hs hcc⟩
    · obtain ⟨e, n, ne, nf, d⟩ := I.pin p hp
      refine ⟨(hs.2 p.1 ?_).trans e, n, ne, nf, d⟩
      intro q
      rw [q, hoc] at e
      have q' : oc = p.2 := Option.some.inj e
      exact d w' (by rw [← q']; exact hocd)
private theorem store_ok {M : Model} {A : Around} {E : Value → Shared → Prop} {i : Nat} {x : Str} {v : V} {u : Value} {Q : Unit → Shared → Prop} (I : Inv X pins σ H s) (hN : X.N.Nodup) (hi : X.N[i]? = some x) (hx : Loc X.env.scope x) (r : RelV v u)
    (h : ∀ s', Inv X pins (σ.set i (some v)) H s' → Q () s') (hf : X.fn x = true ∨ X.env.scope.names.lookup x = some .local := by first | exact .inl rfl | exact .inr rfl | assumption) : wpAny M A (storeName X.env x u) Q E s :=
  store_ok2 I hN hi hx r (fun s' I' _ => h s' I') hf
private theorem Inv.call' {s' : Shared} {ch : List Addr} (I : Inv X pins σ H s) (ho : s'.os = s.os) (u : Un (frs X.stack) ch H H' s.heap s'.heap) (hok : HOk X.prog X.w H' s'.heap) (hg : AllBare s'.gens)
    (hch : ∀ b ∈ ch, (b ∈ X.ex ∨ X.s₀.heap.objs.size ≤ b) ∧ b ≠ X.env.locals ∧ (∀ x c, X.env.cells.lookup x = some c → c ≠ b) ∧ ∀ p ∈ X.pn ++ pins, p.1 ≠ b) : Inv X pins σ H' s' := by
  obtain ⟨h', g', d', t', o'⟩ := s'
  have e : o' = s.os := ho
  subst e
  exact I.call (g' := g') (t' := t') (d' := d') u hok hg hch
end

abbrev XK := Value → Option Addr → Hp → Prop
abbrev St := List (Option V)
abbrev VK := V → Hp → Prop
abbrev TE := St → Hp → VK → Prop
abbrev TT := St → Hp → (Bool → Hp → Prop) → Prop
abbrev TA := St → Hp → (List V → Hp → Prop) → Prop
structure Ends where
  nx : St → Hp → Prop
  rt : VK
  bk : St → Hp → Prop := fun _ _ => False
  ct : St → Hp → Prop := fun _ _ => False
abbrev TS := Ends → St → Hp → Prop

def EP (X : Cx) (pins : List (Addr × Obj)) (σ : St) (Q : VK) (u : Value) (s' : Shared) : Prop := ∃ v H', Inv X pins σ H' s' ∧ RelV v u ∧ Q v H'
def TP (X : Cx) (pins : List (Addr × Obj)) (σ : St) (Q : Bool → Hp → Prop) (b : Bool) (s' : Shared) : Prop := ∃ H', Inv X pins σ H' s' ∧ Q b H'
def AP (X : Cx) (pins : List (Addr × Obj)) (σ : St) (Q : List V → Hp → Prop) (us : List Value) (s' : Shared) : Prop := ∃ vs H', Inv X pins σ H' s' ∧ Vals vs us ∧ Q vs H'
def SP (X : Cx) (pins : List (Addr × Obj)) (D : Ends) (f : Flow) (s' : Shared) : Prop :=
  match f with
  | .next => ∃ σ' H', Inv X pins σ' H' s' ∧ D.nx σ' H'
  | .brk => ∃ σ' H', Inv X pins σ' H' s' ∧ D.bk σ' H'
  | .cont => ∃ σ' H', Inv X pins σ' H' s' ∧ D.ct σ' H'
  | .ret u => ∃ v σ' H', Inv X pins σ' H' s' ∧ RelV v u ∧ D.rt v H'

def PE (X : Cx) (e : Expr) (t : TE) : Prop :=
  ∀ (pins : List (Addr × Obj)) (s : Shared) (σ : St) (H : Hp) (Q : VK), Inv X pins σ H s → t σ H Q → wpAny (model X.prog X.w) X.A (eval e X.env) (EP X pins σ Q) X.xe s
def PT (X : Cx) (e : Expr) (t : TT) : Prop :=
  ∀ (pins : List (Addr × Obj)) (s : Shared) (σ : St) (H : Hp) (Q : Bool → Hp → Prop), Inv X pins σ H s → t σ H Q → wpAny (model X.prog X.w) X.A (isTrue e X.env (eval e X.env)) (TP X pins σ Q) X.xe s
def PW (X : Cx) (e : Expr) (t : TT) : Prop :=
  ∀ (whole : Sem Value) (pins : List (Addr × Obj)) (s : Shared) (σ : St) (H : Hp) (Q : Bool → Hp → Prop), Inv X pins σ H s → t σ H Q → wpAny (model X.prog X.w) X.A (isTrue e X.env whole) (TP X pins σ Q) X.xe s
private theorem PW.pt {X : Cx} {e : Expr} {t : TT} (h : PW X e t) : PT X e t := h _
def PA (X : Cx) (es : List Expr) (t : TA) : Prop :=
  ∀ (pos : Pos) (pins : List (Addr × Obj)) (s : Shared) (σ : St) (H : Hp) (Q : List V → Hp → Prop), Inv X pins σ H s → t σ H Q → wpAny (model X.prog X.w) X.A (spliced (backTo pos (starEach es X.env))) (AP X pins σ Q) X.xe s
def PS (X : Cx) (st : Stmt) (t : TS) : Prop :=
  ∀ (pins : List (Addr × Obj)) (s : Shared) (σ : St) (H : Hp) (D : Ends), Inv X pins σ H s → t D σ H → wpAny (model X.prog X.w) X.A (exec st X.env) (SP X pins D) X.xe s
def PSs (X : Cx) (st : List Stmt) (t : TS) : Prop :=
  ∀ (pins : List (Addr × Obj)) (s : Shared) (σ : St) (H : Hp) (D : Ends), Inv X pins σ H s → t D σ H → wpAny (model X.prog X.w) X.A (execs st X.env) (SP X pins D) X.xe s
private theorem thn {α : Type} {t : Sem α} {Q Q' : α → Shared → Prop} {M : Model} {A : Around} {E : Value → Shared → Prop} {s : Shared} (h : wpAny M A t Q E s) (hQ : ∀ a s, Q a s → Q' a s) : wpAny M A t Q' E s := wpAny_mono h hQ fun _ _ x => x
end L2

namespace L2
open PySem PySem.Spec PyProof.Rows
section
variable {X : Cx}

private theorem bin {a b : Expr} {ta tb : TE} (ha : PE X a ta) (hb : PE X b tb) {pins : List (Addr × Obj)} {s : Shared} {σ : St} {H : Hp} {R : V → V → Hp → Prop} (I : Inv X pins σ H s) (h : ta σ H fun x H1 => tb σ H1 fun y H2 => R x y H2)
    {α : Type} {Q : α → Shared → Prop} {f : Value → Value → Sem α}
    (hf : ∀ v u s2 x y H2, Inv X pins σ H2 s2 → RelV x v → RelV y u → R x y H2 → wpAny (model X.prog X.w) X.A (f v u) Q X.xe s2) :
    wpAny (model X.prog X.w) X.A (eval a X.env) (fun v s₁ => wpAny (model X.prog X.w) X.A (eval b X.env) (fun u s₂ => wpAny (model X.prog X.w) X.A (f v u) Q X.xe s₂) X.xe s₁) X.xe s := by
  refine thn (ha pins s σ H _ I h) fun v s1 ⟨x, H1, I1, r1, q1⟩ => ?_
  refine thn (hb pins s1 σ H1 _ I1 q1) fun u s2 ⟨y, H2, I2, r2, q2⟩ => ?_
  exact hf v u s2 x y H2 I2 r1 r2 q2

def tVar (i : Nat) : TE := fun σ H Q => ∃ v, σ[i]? = some (some v) ∧ Q v H
def tC (v : V) : TE := fun _ H Q => Q v H
private theorem pe_var {i : Nat} {x : Str} {pos : Pos} (hN : X.N[i]? = some x) (hv : Vis X.env.scope x) (hd : (x == ("__debug__" : Str)) = false := by decide) (hcd : (x == ("__classdict__" : Str)) = false := by decide) : PE X (.Name x pos) (tVar i) := by
  intro pins s σ H Q I h
  obtain ⟨v, e, h⟩ := h
  obtain ⟨m, hn, hl⟩ := I.loc
  obtain ⟨u, r, l⟩ := hl i x v hN e hv
  have fin : EP X pins σ Q u s := ⟨v, H, I, r, h⟩
  rcases l with ⟨hk, hm⟩ | ⟨hk, c, hc, hcell⟩
  · exact wpAny_Name (wpAny_loadName_local I.ok.kind hk hn hm fin) hd
  · rcases hk with hk | hk
    · exact wpAny_Name (wpAny_loadName_cell I.ok.kind hk hc hcell fin) hd
    · exact wpAny_Name (wpAny_loadName_free I.ok.kind hk hc hcell fin hcd) hd
private theorem pe_int {i j pos} : PE X (.Constant (.int i) j pos) (tC (.int i)) := fun _ _ _ H _ I h => wpAny_Constant_int ⟨.int i, H, I.tok _, ⟨_, rfl⟩, h⟩
private theorem pe_bl {b j pos} : PE X (.Constant (.bool b) j pos) (tC (.bl b)) := fun _ _ _ H _ I h => Constant_bool ⟨.bl b, H, I, rfl, h⟩
private theorem pe_non {j pos} : PE X (.Constant .none j pos) (tC .non) := fun _ _ _ H _ I h => Constant_none ⟨.non, H, I, rfl, h⟩
private theorem pe_str {x j pos} : PE X (.Constant (.str x) j pos) (tC (.str x)) := fun _ _ _ H _ I h => Calls.Constant_str ⟨.str x, H, I.tok _, ⟨_, rfl⟩, h⟩

def Gl (X : Cx) (x : Str) : Prop := X.env.kindOf x = some .globalImplicit
private theorem ld_glob {E : Value → Shared → Prop} {pins : List (Addr × Obj)} {s : Shared} {σ : St} {H : Hp} {x : Str} {u : Value} {pos : Pos} {Q : Value → Shared → Prop} (I : Inv X pins σ H s) (hg : Gl X x) (hm : X.mg x = some u) (h : Q u s)
    (hd : (x == ("__debug__" : Str)) = false := by decide) : wpAny (model X.prog X.w) X.A (eval (.Name x pos) X.env) Q E s :=
  Calls.Name_function_global I.ok.kind hg (Calls.loadGlobal_global (by rw [I.ok.glob]; exact I.mod.glob.keeps I.bk) hm h) hd
private theorem ld_blt {E : Value → Shared → Prop} {pins : List (Addr × Obj)} {s : Shared} {σ : St} {H : Hp} {x : Str} {u : Value} {pos : Pos} {Q : Value → Shared → Prop} (I : Inv X pins σ H s) (hg : Gl X x) (hm : X.mg x = none) (hv : bootBuiltins x = some u) (h : Q u s)
    (hn : x ≠ "__name__" := by decide) (hd : (x == ("__debug__" : Str)) = false := by decide) : wpAny (model X.prog X.w) X.A (eval (.Name x pos) X.env) Q E s := by
  obtain ⟨mb, h1, h2⟩ := I.mod.blt
  exact Calls.Name_function_global I.ok.kind hg (Calls.loadGlobal_builtin (by rw [I.ok.glob]; exact I.mod.glob.keeps I.bk) hm (by rw [I.ok.blt]; exact h1.keeps I.bk) ((h2 x hn).trans hv) h) hd
private theorem pe_glob {x : Str} {v : V} {u : Value} {pos : Pos} (hg : Gl X x) (hm : X.mg x = some u) (r : RelV v u) (hd : (x == ("__debug__" : Str)) = false := by decide) : PE X (.Name x pos) (tC v) :=
  fun _ _ _ H _ I h => ld_glob I hg hm ⟨v, H, I, r, h⟩ hd
private theorem pe_bltn {x : Str} {v : V} {u : Value} {pos : Pos} (hg : Gl X x) (hm : X.mg x = none) (hv : bootBuiltins x = some u) (r : RelV v u) (hn : x ≠ "__name__" := by decide) (hd : (x == ("__debug__" : Str)) = false := by decide) : PE X (.Name x pos) (tC v) :=
  fun _ _ _ H _ I h => ld_blt I hg hm hv ⟨v, H, I, r, h⟩ hn hd

def t2I (ta tb : TE) (k : Int → Int → Hp → Prop) : St → Hp → Prop := fun σ H => ta σ H fun x H1 => tb σ H1 fun y H2 => ∃ i j, x = .int i ∧ y = .int j ∧ k i j H2
def tAdd (ta tb : TE) : TE := fun σ H Q => t2I ta tb (fun i j H2 => Q (.int (i + j)) H2) σ H
def tSub (ta tb : TE) : TE := fun σ H Q => t2I ta tb (fun i j H2 => Q (.int (i - j)) H2) σ H
def tMul (ta tb : TE) : TE := fun σ H Q => t2I ta tb (fun i j H2 => (-(2 ^ 64) < i ∧ i < 2 ^ 64) ∧ Q (.int (i * j)) H2) σ H
variable {a b : Expr} {ta tb : TE} {pos : Pos}

def PC (X : Cx) (op : CmpOp) (a b : Expr) (t : TE) : Prop :=
  ∀ (pins : List (Addr × Obj)) (s : Shared) (σ : St) (H : Hp) (Q : VK), Inv X pins σ H s → t σ H Q →
    wpAny (model X.prog X.w) X.A (eval a X.env) (fun v s₁ => wpAny (model X.prog X.w) X.A (eval b X.env) (fun u s₂ => wpAny (model X.prog X.w) X.A (compareOp op v u) (EP X pins σ Q) X.xe s₂) X.xe s₁) X.xe s
private theorem nobehind (b : Expr) {op : CmpOp} (h : op ≠ .In) (h2 : op ≠ .NotIn) : behindInMarks op b = false := by
  have e1 : (op == CmpOp.In) = false := by cases op <;> first | rfl | exact absurd rfl h
  have e2 : (op == CmpOp.NotIn) = false := by cases op <;> first | rfl | exact absurd rfl h2
  cases b <;> simp [behindInMarks, e1, e2]
def tCmp (p : Int → Int → Bool) (ta tb : TE) : TE := fun σ H Q => t2I ta tb (fun i j H2 => Q (.bl (p i j)) H2) σ H
abbrev tLt : TE → TE → TE := tCmp fun i j => decide (i < j)
abbrev tLe : TE → TE → TE := tCmp fun i j => decide (i ≤ j)
abbrev tGt : TE → TE → TE := tCmp fun i j => decide (j < i)
abbrev tGe : TE → TE → TE := tCmp fun i j => decide (j ≤ i)
abbrev tEqI : TE → TE → TE := tCmp fun i j => decide (i = j)
abbrev tNeI : TE → TE → TE := tCmp fun i j => !decide (i = j)
def tIsN (ta : TE) : TE := fun σ H Q => ta σ H fun x H1 => Q (.bl (decide (x = .non))) H1
def tNotN (ta : TE) : TE := fun σ H Q => ta σ H fun x H1 => Q (.bl (!decide (x = .non))) H1
def tB (t : TE) : TT := fun σ H Q => t σ H fun x H1 => ∃ c, x = .bl c ∧ Q c H1
private theorem pt_cmp {op : CmpOp} {t : TE} (h : PC X op a b t) (h1 : behindInMarks op b = false := by first | exact nobehind _ (by decide) (by decide) | rfl) : PT X (.Compare a [op] [b] pos) (tB t) := by
  intro pins s σ H Q I hw
  refine wpAny_isTrue_Compare1 (thn (h pins s σ H _ I hw) fun v s1 h1 => thn h1 fun u s2 h2 => thn h2 fun c s3 ⟨x, H1, I1, r1, q1⟩ => ?_) h1
  obtain ⟨d, rfl, q⟩ := q1
  cases r1
  exact wpAny_truthy_bool ⟨H1, I1, q⟩
private theorem pt_val {e : Expr} {t : TE} (h : PE X e t) (he : ∀ whole, isTrue e X.env whole = (do let v ← whole; standAt e.pos; holding [v] (truthy v)) := by intro _; rfl) : PT X e (tB t) := by
  intro pins s σ H Q I hw
  refine isTrue_plain (thn (h pins s σ H _ I hw) fun v s1 ⟨x, H1, I1, r1, q1⟩ => ?_) (he _)
  obtain ⟨d, rfl, q⟩ := q1
  cases r1
  exact wpAny_truthy_bool ⟨H1, I1, q⟩

variable {tA tB' : TT} {rest : List Expr}
def tAnd (t u : TT) : TT := fun σ H Q => t σ H fun c H1 => if c = true then u σ H1 Q else Q false H1
def tOr (t u : TT) : TT := fun σ H Q => t σ H fun c H1 => if c = true then Q true H1 else u σ H1 Q
def tNot (t : TT) : TT := fun σ H Q => t σ H fun c H1 => Q (!c) H1
private theorem pw_and1 (ha : PT X a tA) : PW X (.BoolOp .And [a] pos) tA := by
  intro wh pins s σ H Q I h
  refine isTrue_and (thn (ha pins s σ H Q I h) fun c s1 e => ?_)
  cases c with
  | true => exact isTrue_and_nil e
  | false => exact e
private theorem pw_or1 (ha : PT X a tA) : PW X (.BoolOp .Or [a] pos) tA := by
  intro wh pins s σ H Q I h
  refine isTrue_or (thn (ha pins s σ H Q I h) fun c s1 e => ?_)
  cases c with
  | false => exact isTrue_or_nil e
  | true => exact e
private theorem pw_and (ha : PT X a tA) (hb : PW X (.BoolOp .And (b :: rest) pos) tB') : PW X (.BoolOp .And (a :: b :: rest) pos) (tAnd tA tB') := by
  intro wh pins s σ H Q I h
  refine isTrue_and (thn (ha pins s σ H _ I h) fun c s1 ⟨H1, I1, q1⟩ => ?_)
  cases c with
  | true => exact hb wh pins s1 σ H1 Q I1 q1
  | false => exact ⟨H1, I1, q1⟩
private theorem pw_or (ha : PT X a tA) (hb : PW X (.BoolOp .Or (b :: rest) pos) tB') : PW X (.BoolOp .Or (a :: b :: rest) pos) (tOr tA tB') := by
  intro wh pins s σ H Q I h
  refine isTrue_or (thn (ha pins s σ H _ I h) fun c s1 ⟨H1, I1, q1⟩ => ?_)
  cases c with
  | true => exact ⟨H1, I1, q1⟩
  | false => exact hb wh pins s1 σ H1 Q I1 q1
private theorem pt_not (ha : PT X a tA) : PT X (.UnaryOp .Not a pos) (tNot tA) := by
  intro pins s σ H Q I h
  exact isTrue_not (ha pins s σ H (fun c H1 => Q (!c) H1) I h)
def tAndV (ta tb : TE) : TE := fun σ H Q => ta σ H fun x H1 => ∃ c, x = .bl c ∧ if c = true then tb σ H1 Q else Q (.bl false) H1
def tOrV (ta tb : TE) : TE := fun σ H Q => ta σ H fun x H1 => ∃ c, x = .bl c ∧ if c = true then Q (.bl true) H1 else tb σ H1 Q
def tNotV (ta : TE) : TE := fun σ H Q => ta σ H fun x H1 => ∃ c, x = .bl c ∧ Q (.bl (!c)) H1
private theorem pe_one {op} {t : TE} (h : PE X a t) : PE X (.BoolOp op [a] pos) t := fun pins s σ H Q I hw => BoolOp_one (h pins s σ H Q I hw)
private theorem pe_and (ha : PE X a ta) (hb : PE X (.BoolOp .And (b :: rest) pos) tb) : PE X (.BoolOp .And (a :: b :: rest) pos) (tAndV ta tb) := by
  intro pins s σ H Q I h
  refine BoolOp_and (thn (ha pins s σ H _ I h) fun v s1 ⟨x, H1, I1, r1, q1⟩ => ?_)
  obtain ⟨c, rfl, q1⟩ := q1
  cases r1
  refine wpAny_truthy_bool ?_
  cases c with
  | true => exact hb pins s1 σ H1 Q I1 q1
  | false => exact ⟨.bl false, H1, I1, rfl, q1⟩
private theorem pe_or (ha : PE X a ta) (hb : PE X (.BoolOp .Or (b :: rest) pos) tb) : PE X (.BoolOp .Or (a :: b :: rest) pos) (tOrV ta tb) := by
  intro pins s σ H Q I h
  refine BoolOp_or (thn (ha pins s σ H _ I h) fun v s1 ⟨x, H1, I1, r1, q1⟩ => ?_)
  obtain ⟨c, rfl, q1⟩ := q1
  cases r1
  refine wpAny_truthy_bool ?_
  cases c with
  | false => exact hb pins s1 σ H1 Q I1 q1
  | true => exact ⟨.bl true, H1, I1, rfl, q1⟩
private theorem pe_not (ha : PE X a ta) : PE X (.UnaryOp .Not a pos) (tNotV ta) := by
  intro pins s σ H Q I h
  refine UnaryOp_ (thn (ha pins s σ H _ I h) fun v s1 ⟨x, H1, I1, r1, q1⟩ => ?_)
  obtain ⟨c, rfl, q1⟩ := q1
  cases r1
  exact not_of (wpAny_truthy_bool ⟨.bl (!c), H1, I1, rfl, q1⟩)
def tIf (t : TT) (ta tb : TE) : TE := fun σ H Q => t σ H fun c H1 => if c = true then ta σ H1 Q else tb σ H1 Q
end
end L2

namespace L2
open PySem PySem.Spec PyProof.Rows

def SqL (K : PySem.W.Frag) (H : Hp) (a : Addr) (xs : List V) : Prop :=
  Rd H a (.lst xs) ∨
    ∃ (o : Obj) (its : Array Value) (n : Nat), K.lookup a = some o ∧ o.cls = .type "list" ∧ o.dict = none ∧ o.data = .seq its n ∧ its.size ≤ sizeLine ∧ Vals xs its.toList
def SqT (K : PySem.W.Frag) (H : Hp) (a : Addr) (xs : List V) : Prop :=
  Rd H a (.tup xs) ∨
    ∃ (o : Obj) (its : Array Value) (n : Nat), K.lookup a = some o ∧ o.cls = .type "tuple" ∧ o.data = .seq its n ∧ its.size ≤ sizeLine ∧ Vals xs its.toList
def absV : Value → Option V
  | .none => some .non
  | .bool b => some (.bl b)
  | .int i _ => some (.int i)
  | .str x _ => some (.str x)
  | .bytes b _ => some (.byt b)
  | .float b _ => some (.flt b)
  | .ref a => some (.ref a)
  | .type n => some (.ty n)
  | _ => none
private theorem RelV.abs {x : V} {u : Value} (r : RelV x u) : absV u = some x := by
  cases x with
  | non => cases r; rfl
  | bl _ => cases r; rfl
  | int _ => obtain ⟨t, rfl⟩ := r; rfl
  | str _ => obtain ⟨t, rfl⟩ := r; rfl
  | byt _ => obtain ⟨t, rfl⟩ := r; rfl
  | flt _ => obtain ⟨t, rfl⟩ := r; rfl
  | ref _ => cases r; rfl
  | ty _ => cases r; rfl
private theorem RelV.inj {x y : V} {u : Value} (r : RelV x u) (q : RelV y u) : x = y := Option.some.inj (r.abs.symm.trans q.abs)
private theorem Vals.inj : ∀ {xs ys : List V} {us : List Value}, Vals xs us → Vals ys us → xs = ys
  | _, _, _, .nil, .nil => rfl
  | _, _, _, .cons r t, .cons r' t' => by rw [r.inj r', Vals.inj t t']
section
variable {X : Cx} {pins : List (Addr × Obj)} {σ : St} {H : Hp} {s : Shared} {a : Addr} {xs ys : List V}
private theorem SqL.of {K : PySem.W.Frag} (h : H a = some (.lst xs)) : SqL K H a xs := .inl (.inl h)
private theorem SqT.of {K : PySem.W.Frag} (h : H a = some (.tup xs)) : SqT K H a xs := .inl (.inl h)
private theorem Inv.list (I : Inv X pins σ H s) (h : SqL X.K H a xs) : ∃ its : List Value, Vals xs its ∧ PlainL s.heap a its.toArray ∧ xs.length ≤ sizeLine := by
  rcases h with h | ⟨o, its, n, hk, hc, hd, hs, hz, r⟩
  · obtain ⟨z, its, n, r, e⟩ := h.ok I.hok
    exact ⟨its, r, ⟨_, n, e, rfl, rfl, rfl⟩, z⟩
  · refine ⟨its.toList, r, ⟨o, n, I.kIn a o hk, hc, hd, by simpa using hs⟩, ?_⟩
    have e := r.length
    simp only [Array.length_toList] at e
    omega
private theorem Inv.tuple (I : Inv X pins σ H s) (h : SqT X.K H a xs) : ∃ its : List Value, Vals xs its ∧ IsTup s.heap a its.toArray ∧ xs.length ≤ sizeLine := by
  rcases h with h | ⟨o, its, n, hk, hc, hs, hz, r⟩
  · obtain ⟨z, its, r, p⟩ := h.ok I.hok
    exact ⟨its, r, p, z⟩
  · refine ⟨its.toList, r, ⟨o, I.kIn a o hk, hc, n, by simpa using hs⟩, ?_⟩
    have e := r.length
    simp only [Array.length_toList] at e
    omega
private theorem Inv.list_inj (I : Inv X pins σ H s) (h : SqL X.K H a xs) (h' : SqL X.K H a ys) : xs = ys := by
  obtain ⟨its, r, ⟨o, n, e, _, _, d⟩, _⟩ := I.list h
  obtain ⟨its', r', ⟨o', n', e', _, _, d'⟩, _⟩ := I.list h'
  rw [e] at e'; cases e'
  rw [d] at d'
  injection d' with d1 _
  have : its = its' := by simpa using congrArg Array.toList d1
  subst this
  exact r.inj r'
private theorem Inv.tuple_inj (I : Inv X pins σ H s) (h : SqT X.K H a xs) (h' : SqT X.K H a ys) : xs = ys := by
  obtain ⟨its, r, ⟨o, e, _, n, d⟩, _⟩ := I.tuple h
  obtain ⟨its', r', ⟨o', e', _, n', d'⟩, _⟩ := I.tuple h'
  rw [e] at e'; cases e'
  rw [d] at d'
  injection d' with d1 _
  have : its = its' := by simpa using congrArg Array.toList d1
  subst this
  exact r.inj r'
end

abbrev Cx.wish (X : Cx) (E : Value → Shared → Prop) : Cx := { X with xe := E }
abbrev Cx.nox (X : Cx) : Cx := X.wish fun _ _ => False
private theorem Cx.Ok.wish {X : Cx} (ok : X.Ok) (E : Value → Shared → Prop) : (X.wish E).Ok :=
  ⟨ok.mod, ok.kind, ok.glob, ok.blt, ok.above, ok.inj, ok.has, ok.cab, ok.hd, ok.frames, ok.stk, ok.exf, ok.bs, ok.bsz, ok.noex, ok.exfs, ok.funs, ok.frf⟩
private theorem Cx.Ok.unwish {X : Cx} {E : Value → Shared → Prop} (ok : (X.wish E).Ok) : X.Ok :=
  ⟨ok.mod, ok.kind, ok.glob, ok.blt, ok.above, ok.inj, ok.has, ok.cab, ok.hd, ok.frames, ok.stk, ok.exf, ok.bs, ok.bsz, ok.noex, ok.exfs, ok.funs, ok.frf⟩
section
variable {X : Cx} {pins : List (Addr × Obj)} {σ : St} {H : Hp} {s : Shared} {E : Value → Shared → Prop}
private theorem Inv.wish (I : Inv X pins σ H s) (E : Value → Shared → Prop) : Inv (X.wish E) pins σ H s := ⟨I.ok.wish E, I.os, I.bare, I.base, I.loc, I.cell, I.free, I.freeC, I.pin, I.hok, I.len⟩
private theorem Inv.unwish (I : Inv (X.wish E) pins σ H s) : Inv X pins σ H s := ⟨I.ok.unwish, I.os, I.bare, I.base, I.loc, I.cell, I.free, I.freeC, I.pin, I.hok, I.len⟩
private theorem SP.unwish {D : Ends} {f : Flow} {s' : Shared} (h : SP (X.wish E) pins D f s') : SP X pins D f s' := by
  cases f with
  | next => obtain ⟨σ', H', I, q⟩ := h; exact ⟨σ', H', I.unwish, q⟩
  | brk => obtain ⟨σ', H', I, q⟩ := h; exact ⟨σ', H', I.unwish, q⟩
  | cont => obtain ⟨σ', H', I, q⟩ := h; exact ⟨σ', H', I.unwish, q⟩
  | ret u => obtain ⟨v, σ', H', I, r, q⟩ := h; exact ⟨v, σ', H', I.unwish, r, q⟩
private theorem PE.nox {e : Expr} {t : TE} (h : PE X.nox e t) : PE X e t := fun pins s σ H Q I hw =>
  wpAny_mono (h pins s σ H Q (I.wish _) hw) (fun _ _ ⟨v, H', I', r, q⟩ => ⟨v, H', I'.unwish, r, q⟩) fun _ _ z => False.elim z
private theorem PT.nox {e : Expr} {t : TT} (h : PT X.nox e t) : PT X e t := fun pins s σ H Q I hw =>
  wpAny_mono (h pins s σ H Q (I.wish _) hw) (fun _ _ ⟨H', I', q⟩ => ⟨H', I'.unwish, q⟩) fun _ _ z => False.elim z
private theorem PSs.nox {st : List Stmt} {t : TS} (h : PSs X.nox st t) : PSs X st t := fun pins s σ H D I hw =>
  wpAny_mono (h pins s σ H D (I.wish _) hw) (fun _ _ q => q.unwish) fun _ _ z => False.elim z
end

section
variable {X : Cx} {st : Stmt} {rest : List Stmt} {t u : TS} {e : Expr} {te : TE} {pos : Pos}
def tNext : TS := fun D σ H => D.nx σ H
def tSeq (t u : TS) : TS := fun D σ H => t { D with nx := u D } σ H
private theorem pss_nil : PSs X [] tNext := fun _ _ σ H _ I h => wpAny_execs_nil ⟨σ, H, I, h⟩
private theorem pss_cons (h1 : PS X st t) (h2 : PSs X rest u) : PSs X (st :: rest) (tSeq t u) := by
  intro pins s σ H D I h
  refine wpAny_execs_cons (thn (h1 pins s σ H { D with nx := u D } I h) fun f s1 q => ?_)
  cases f with
  | next =>
    obtain ⟨σ', H', I', q⟩ := q
    exact h2 pins s1 σ' H' D I' q
  | ret v => exact q
  | brk => exact q
  | cont => exact q
private theorem pss_one (h1 : PS X st t) : PSs X [st] t := by
  intro pins s σ H D I h
  refine wpAny_execs_cons (thn (h1 pins s σ H D I h) fun f s1 q => ?_)
  cases f with
  | next => exact wpAny_execs_nil q
  | ret v => exact q
  | brk => exact q
  | cont => exact q
def tBreak : TS := fun D σ H => D.bk σ H
def tCont : TS := fun D σ H => D.ct σ H
private theorem Inv.quiet {pins : List (Addr × Obj)} {σ : St} {H : Hp} {s : Shared} (I : Inv X pins σ H s) : interactive X.env = false := by simp [interactive, I.ok.kind]
def tDrop (te : TE) : TS := fun D σ H => te σ H fun _ H1 => D.nx σ H1
private theorem ps_expr (he : PE X e te) (hs : swapsWith e none pos.line X.env = pure false := by rfl) : PS X (.Expr e pos) (tDrop te) := by
  intro pins s σ H D I h
  exact wpAny_Expr_any (thn (he pins s σ H _ I h) fun v s1 ⟨x, H1, I1, r1, q1⟩ => ⟨σ, H1, I1, q1⟩) I.quiet hs
def tRet (te : TE) : TS := fun D σ H => te σ H D.rt
private theorem ps_ret (he : PE X e te) : PS X (.Return (some e) pos) (tRet te) := by
  intro pins s σ H D I h
  exact wpAny_Return_some (thn (he pins s σ H _ I h) fun v s1 ⟨x, H1, I1, r1, q1⟩ => ⟨x, σ, H1, I1, r1, q1⟩)
def tRetN : TS := fun D _ H => D.rt .non H
def tIfS (c : TT) (t u : TS) : TS := fun D σ H => c σ H fun b H1 => if b = true then t D σ H1 else u D σ H1
private theorem ps_if {c : Expr} {a b : List Stmt} {tc : TT} (hc : PT X c tc) (ha : PSs X a t) (hb : PSs X b u) : PS X (.If c a b pos) (tIfS tc t u) := by
  intro pins s σ H D I h
  refine wpAny_If (thn (hc pins s σ H _ I h) fun d s1 ⟨H1, I1, q1⟩ => ?_)
  cases d with
  | true => exact ha pins s1 σ H1 D I1 q1
  | false => exact hb pins s1 σ H1 D I1 q1
def tNever : TS := fun _ _ _ => False
end

abbrev TG := V → St → Hp → (St → Hp → Prop) → Prop
abbrev TGs := List V → St → Hp → (St → Hp → Prop) → Prop
def PG (X : Cx) (target : Expr) (t : TG) : Prop :=
  ∀ (pins : List (Addr × Obj)) (s : Shared) (σ : St) (H : Hp) (v : V) (u : Value) (Q : St → Hp → Prop), Inv X pins σ H s → RelV v u → t v σ H Q →
    wpAny (model X.prog X.w) X.A (assign target X.env u) (fun _ s' => ∃ σ' H', Inv X pins σ' H' s' ∧ Q σ' H') X.xe s
def PGs (X : Cx) (ts : List Expr) (t : TGs) : Prop :=
  ∀ (pins : List (Addr × Obj)) (s : Shared) (σ : St) (H : Hp) (vs : List V) (us : List Value) (Q : St → Hp → Prop), Inv X pins σ H s → Vals vs us → t vs σ H Q →
    wpAny (model X.prog X.w) X.A (assignInOrder ((assignEach ts X.env).map (·.2)) us) (fun _ s' => ∃ σ' H', Inv X pins σ' H' s' ∧ Q σ' H') X.xe s
abbrev TSet := V → V → V → Hp → (Hp → Prop) → Prop
def PSet (X : Cx) (t : TSet) : Prop :=
  ∀ (pins : List (Addr × Obj)) (s : Shared) (σ : St) (H : Hp) (o i v : V) (ov iv u : Value) (Q : Hp → Prop), Inv X pins σ H s → RelV o ov → RelV i iv → RelV v u → t o i v H Q →
    wpAny (model X.prog X.w) X.A (setItem ov iv u) (fun _ s' => ∃ H', Inv X pins σ H' s' ∧ Q H') X.xe s
abbrev TIp := V → V → Hp → VK → Prop
def PIp (X : Cx) (op : Operator) (t : TIp) : Prop :=
  ∀ (pins : List (Addr × Obj)) (s : Shared) (σ : St) (H : Hp) (x y : V) (v u : Value) (Q : VK), Inv X pins σ H s → RelV x v → RelV y u → t x y H Q →
    wpAny (model X.prog X.w) X.A (inplaceOp op v u) (EP X pins σ Q) X.xe s
section
variable {X : Cx} {pos : Pos}
def gName (i : Nat) : TG := fun v σ H Q => Q (σ.set i (some v)) H
private theorem pg_name {i : Nat} {x : Str} (hN : X.N.Nodup) (hi : X.N[i]? = some x) (hx : Loc X.env.scope x) (hf : X.fn x = true ∨ X.env.scope.names.lookup x = some .local := by first | exact .inl rfl | exact .inr rfl | assumption) : PG X (.Name x pos) (gName i) := by
  intro pins s σ H v u Q I r h
  exact wpAny_assign_Name (store_ok I hN hi hx r (fun s' I' => ⟨_, H, I', h⟩) hf)
def gNil : TGs := fun vs σ H Q => vs = [] ∧ Q σ H
def gCons (t : TG) (u : TGs) : TGs := fun vs σ H Q => ∃ v r, vs = v :: r ∧ t v σ H fun σ' H' => u r σ' H' Q
private theorem pgs_nil : PGs X [] gNil := by
  intro pins s σ H vs us Q I r h
  obtain ⟨e, h⟩ := h
  subst e
  cases r
  exact assignInOrder_nil ⟨σ, H, I, h⟩
private theorem pgs_cons {e : Expr} {es : List Expr} {t : TG} {u : TGs} (h1 : PG X e t) (h2 : PGs X es u)
    (hs : (assignEach (e :: es) X.env).map (·.2) = assign e X.env :: (assignEach es X.env).map (·.2) := by rfl) : PGs X (e :: es) (gCons t u) := by
  intro pins s σ H vs us Q I r h
  obtain ⟨v, vr, e1, h⟩ := h
  subst e1
  cases r with
  | cons r rr =>
    rw [hs]
    refine assignInOrder_cons (thn (h1 pins s σ H _ _ _ I r h) fun _ s1 ⟨σ1, H1, I1, q1⟩ => ?_)
    exact h2 pins s1 σ1 H1 _ _ Q I1 rr q1
def gTup (K : PySem.W.Frag) (n : Nat) (t : TGs) : TG := fun v σ H Q => ∃ a xs, v = .ref a ∧ SqT K H a xs ∧ xs.length = n ∧ t xs σ H Q
private theorem pg_tup {es : List Expr} {k : Nat} {t : TGs} {n : Nat} (hc : X.calm = true) (h : PGs X es t)
    (hn : (assignEach es X.env).length = n := by rfl) (hst : (assignEach es X.env).findIdx? (·.1) = none := by rfl) : PG X (.Tuple es k pos) (gTup X.K n t) := by
  intro pins s σ H v u Q I r hw
  obtain ⟨a, xs, e1, hq, hl, hw⟩ := hw
  subst e1
  cases r
  obtain ⟨its, rv, ht, hz⟩ := I.tuple hq
  refine assign_Tuple_tuple (I.ok.hd hc) ht (by simp [hn, ← hl, rv.length]) hst fun h' hx => ?_
  have I1 : Inv X pins σ H { s with heap := h' } := I.kept (t' := s.toks) fun b o e => hx b o (Nat.ne_of_lt (Heap.lt_size e)) e
  exact h pins _ σ H xs _ Q I1 (by simpa using rv) hw
def gSub (to ti : TE) (t : TSet) : TG := fun v σ H Q => to σ H fun o H1 => ti σ H1 fun i H2 => t o i v H2 fun H3 => Q σ H3
private theorem pg_sub {o i : Expr} {to ti : TE} {t : TSet} (ho : PE X o to) (hi : PE X i ti) (hs : PSet X t)
    (ha : ∀ v, assign (.Subscript o i pos) X.env v = (do
      let ov ← holding [v] (eval o X.env)
      let iv ← holding [v, ov] (eval i X.env)
      standAt pos
      holding [v, ov, iv] (setItem ov iv v)
      release [v, ov, iv] []) := by intro _; rfl) : PG X (.Subscript o i pos) (gSub to ti t) := by
  intro pins s σ H v u Q I r h
  rw [ha]
  refine wpAny_bind (wpAny_holding (thn (ho pins s σ H _ I h) fun ov s1 ⟨x, H1, I1, r1, q1⟩ => ?_))
  refine wpAny_bind (wpAny_holding (thn (hi pins s1 σ H1 _ I1 q1) fun iv s2 ⟨y, H2, I2, r2, q2⟩ => ?_))
  refine wpAny_bind (wpAny_standAt (wpAny_bind (wpAny_holding (thn (hs pins s2 σ H2 x y v ov iv u _ I2 r1 r2 r q2) fun _ s3 ⟨H3, I3, q3⟩ => ?_))))
  exact wpAny_release ⟨σ, H3, I3, q3⟩
def tAsg (te : TE) (g : TG) : TS := fun D σ H => te σ H fun x H1 => g x σ H1 D.nx
private theorem ps_asg {tg e : Expr} {te : TE} {g : TG} (he : PE X e te) (hg : PG X tg g) (hs : swapsWithSole [tg] e pos.line X.env = pure false := by rfl) (hw : swappedStores [tg] e X.env = pure none := by rfl)
    (h1 : (assignEach [tg] X.env).map (·.2) = [assign tg X.env] := by rfl) : PS X (.Assign [tg] e pos) (tAsg te g) := by
  intro pins s σ H D I h
  refine wpAny_Assign_stores (thn (he pins s σ H _ I h) fun v s1 ⟨x, H1, I1, r1, q1⟩ => ?_) hs hw
  rw [h1]
  exact thn (hg pins s1 σ H1 x v _ I1 r1 q1) fun _ s2 q => q
private theorem ps_set {i : Nat} {x : Str} {e : Expr} {te : TE} {pos' : Pos} (hN : X.N.Nodup) (hi : X.N[i]? = some x) (hx : Loc X.env.scope x) (he : PE X e te) (hs : swapsWith e (some (.Name x pos')) pos.line X.env = pure false := by rfl) (hf : X.fn x = true ∨ X.env.scope.names.lookup x = some .local := by first | exact .inl rfl | exact .inr rfl | assumption) :
    PS X (.Assign [.Name x pos'] e pos) (tAsg te (gName i)) := by
  intro pins s σ H D I h
  refine wpAny_Assign_Name (thn (he pins s σ H _ I h) fun v s1 ⟨y, H1, I1, r1, q1⟩ => ?_) hs
  exact store_ok I1 hN hi hx r1 (fun s2 I2 => ⟨_, H1, I2, q1⟩) hf
def tPar (i j : Nat) (ta : TA) : TS := fun D σ H => ta σ H fun vs H1 => ∃ v w, vs = [v, w] ∧ D.nx ((σ.set i (some v)).set j (some w)) H1
def tAug (i : Nat) (te : TE) (ti : TIp) : TS := fun D σ H => ∃ x, σ[i]? = some (some x) ∧ te σ H fun y H1 => ti x y H1 fun z H2 => D.nx (σ.set i (some z)) H2
def tAugS (to ti te : TE) (tget : V → V → Hp → VK → Prop) (tip : TIp) (tset : TSet) : TS := fun D σ H => to σ H fun o H1 => ti σ H1 fun i H2 => tget o i H2 fun x H3 => te σ H3 fun y H4 => tip x y H4 fun z H5 => tset o i z H5 fun H6 => D.nx σ H6
def PGet (X : Cx) (t : V → V → Hp → VK → Prop) : Prop :=
  ∀ (pins : List (Addr × Obj)) (s : Shared) (σ : St) (H : Hp) (o i : V) (ov iv : Value) (Q : VK), Inv X pins σ H s → RelV o ov → RelV i iv → t o i H Q →
    wpAny (model X.prog X.w) X.A (getItem ov iv) (EP X pins σ Q) X.xe s
def ipI (f : Int → Int → Int) : TIp := fun x y H Q => ∃ i j, x = .int i ∧ y = .int j ∧ Q (.int (f i j)) H
end

section
variable {X : Cx} {pos : Pos}
def tWhile (c : TT) (tb : TS) : TS := fun D σ H => ∃ W : Nat → St → Hp → Prop, (∃ m, W m σ H) ∧ ∀ m σ H, W m σ H →
  c σ H fun b H1 => if b = true then ∃ N : St → Hp → Prop, (∀ σ' H', N σ' H' → ∃ m', m' < m ∧ W m' σ' H') ∧ tb { D with nx := N, ct := N, bk := D.nx } σ H1 else D.nx σ H1
end

structure It where
  go : Nat → Hp → Prop
  yld : Nat → Hp → V → Hp → Prop
  stop : Nat → Hp → Prop
def FpOk (X : Cx) (pins : List (Addr × Obj)) (H : Hp) (b : Addr) : Prop :=
  H b = none ∧ b ≠ X.env.locals ∧ b ∉ X.fs ∧ (b ∈ X.ex ∨ X.s₀.heap.objs.size ≤ b) ∧ (∀ x c, X.env.cells.lookup x = some c → c ≠ b) ∧ ∀ p ∈ X.pn ++ pins, p.1 ≠ b
private theorem Inv.fpOk {X : Cx} {pins : List (Addr × Obj)} {σ : St} {H H' : Hp} {s : Shared} {b : Addr} (I : Inv X pins σ H s) (hb : s.heap.objs.size ≤ b) (hn : H' b = none) : FpOk X pins H' b := by
  refine ⟨hn, Nat.ne_of_gt (Nat.lt_of_lt_of_le I.lt hb), I.nofs hb, .inr (Nat.le_trans I.sz hb), fun x c e z => ?_, fun p hp z => ?_⟩
  · obtain ⟨v, q⟩ := I.cell x c e
    exact absurd (Nat.lt_of_lt_of_le q.lt (by rw [z]; exact hb)) (Nat.lt_irrefl _)
  · exact absurd (Nat.lt_of_lt_of_le (Heap.lt_size (I.pin p hp).1) (by rw [z]; exact hb)) (Nat.lt_irrefl _)
structure Turn (P : Program) (w : World) (K : PySem.W.Frag) (tg : Expr) (J : It) (fp : List Addr) (it : Addr) (tn : Nat → Heap → Prop) : Prop where
  mem : it ∈ fp
  obj : ∀ i h, tn i h → ∀ b ∈ fp, ∃ o, h.get? b = some o ∧ ∀ v, o.data ≠ .cell v
  keep : ∀ i h h', tn i h → (∀ b ∈ fp, ∀ o, h.get? b = some o → h'.get? b = some o) → tn i h'
  item : ∀ (X : Cx), X.prog = P → X.w = w → X.K = K → X.calm = true → ∀ (i : Nat) (pins : List (Addr × Obj)) (s : Shared) (σ : St) (H : Hp) (E : Value → Shared → Prop), Inv X pins σ H s → (∀ b ∈ fp, FpOk X pins H b) → tn i s.heap → J.go i H →
    wpAny (model P w) X.A (pyNext (.ref it)) (fun r s1 => ∃ u, r = some u ∧
      wpAny (model P w) X.A (letOwnedTupleGo tg (.ref it) u) (fun _ s2 => ∃ x H', Inv X pins σ H' s2 ∧ RelV x u ∧ J.yld i H x H' ∧ tn (i + 1) s2.heap ∧ ∀ b ∈ fp, H' b = none) E s1) E s
  done : ∀ (X : Cx), X.prog = P → X.w = w → X.K = K → X.calm = true → ∀ (i : Nat) (pins : List (Addr × Obj)) (s : Shared) (σ : St) (H : Hp) (E : Value → Shared → Prop), Inv X pins σ H s → (∀ b ∈ fp, FpOk X pins H b) → tn i s.heap → J.stop i H →
    wpAny (model P w) X.A (pyNext (.ref it)) (fun r s1 => r = none ∧ Inv X pins σ H s1) E s
  self : ∀ (A : Around) (i : Nat) (s : Shared) (Q : Value → Shared → Prop) (E : Value → Shared → Prop), tn i s.heap → Q (.ref it) s → wpAny (model P w) A (pyIter (.ref it)) Q E s
abbrev TI := St → Hp → (It → Hp → Prop) → Prop
def PIE (X : Cx) (pins : List (Addr × Obj)) (σ : St) (tg : Expr) (R : It → Hp → Prop) (itv : Value) (s2 : Shared) : Prop :=
  ∃ (it : Addr) (fp : List Addr) (tn : Nat → Heap → Prop) (J : It) (H' : Hp), itv = .ref it ∧ Inv X pins σ H' s2 ∧ Turn X.prog X.w X.K tg J fp it tn ∧ tn 0 s2.heap ∧ (∀ b ∈ fp, FpOk X pins H' b) ∧ R J H'
def PI (X : Cx) (tg iter : Expr) (wi : TI) : Prop :=
  ∀ (pins : List (Addr × Obj)) (s : Shared) (σ : St) (H : Hp) (R : It → Hp → Prop), Inv X pins σ H s → wi σ H R →
    wpAny (model X.prog X.w) X.A (eval iter X.env) (fun v s1 => wpAny (model X.prog X.w) X.A (pyIter v) (PIE X pins σ tg R) X.xe s1) X.xe s

private theorem go_of {M : Model} {A : Around} {E : Value → Shared → Prop} {s : Shared} {tg : Expr} {it : Addr} {u : Value} {o : Obj} {n : String} {vs : Array Value} {Q : Unit → Shared → Prop} (ho : s.heap.get? it = some o) (hc : o.cls = .type n) (hd : o.data = .fields vs)
    (hn : ["enumerate", "zip", "dict_itemiterator", "dict_reverseitemiterator", "odict_iterator", "itertools.zip_longest", "itertools.pairwise"].contains n = false) (hQ : Q () s) : wpAny M A (letOwnedTupleGo tg (.ref it) u) Q E s := by
  unfold letOwnedTupleGo
  cases tg <;> first
    | exact wpAny_pure hQ
    | (cases u <;> first
        | exact wpAny_pure hQ
        | (refine wpAny_bind (wpAny_load ho ?_)
           rw [hc, hd]
           show wpAny M A (if (["enumerate", "zip", "dict_itemiterator", "dict_reverseitemiterator", "odict_iterator", "itertools.zip_longest", "itertools.pairwise"].contains n && vs[0]? == some (rawInt _)) = true then _ else _) Q E s
           rw [if_neg (by intro h; rw [hn, Bool.false_and] at h; cases h)]
           exact wpAny_pure hQ))

def Itl (K : PySem.W.Frag) (a : Addr) : It :=
  ⟨fun i H => ∃ xs x, SqL K H a xs ∧ xs[i]? = some x, fun i H x H' => H' = H ∧ ∀ xs, SqL K H a xs → xs[i]? = some x, fun i H => ∃ xs, SqL K H a xs ∧ xs.length ≤ i⟩
def Itt (K : PySem.W.Frag) (a : Addr) : It :=
  ⟨fun i H => ∃ xs x, SqT K H a xs ∧ xs[i]? = some x, fun i H x H' => H' = H ∧ ∀ xs, SqT K H a xs → xs[i]? = some x, fun i H => ∃ xs, SqT K H a xs ∧ xs.length ≤ i⟩
def Itr (lo : Int) (n : Nat) : It := ⟨fun i _ => i < n, fun i H x H' => H' = H ∧ x = .int (lo + i), fun i _ => n ≤ i⟩
private theorem turn_list {P : Program} {w : World} {K : PySem.W.Frag} {tg : Expr} (a it : Addr) : Turn P w K tg (Itl K a) [it] it (fun i h => h.IsListIter it a i) where
  mem := by simp
  obj := fun i h st b hb => by
    have e : b = it := by simpa using hb
    subst e
    obtain ⟨o, e, c, d⟩ := st
    exact ⟨o, e, fun v z => by rw [d] at z; cases z⟩
  keep := fun i h h' st k => st.at fun o e => k it (by simp) o e
  item := by
    intro X hP hw hK hc i pins s σ H E I hf st hg
    subst hP hw hK
    obtain ⟨xs, x, hq, hx⟩ := hg
    obtain ⟨its, rv, p, hz⟩ := I.list hq
    obtain ⟨u, hu, ru⟩ := rv.get hx
    obtain ⟨f0, f1, f2, f3, f4, f5⟩ := hf it (by simp)
    refine wpAny_pyNext_list_item st p.isList (x := u) (by simpa using hu) fun h' st' sb => ?_
    have I1 : Inv X pins σ H { s with heap := h' } := I.turned (t' := s.toks) (fun b o hb e => (sb.2 b hb).trans e) f0 f1 f3 f4 f5
    obtain ⟨o, e, c, d⟩ := id st'
    exact ⟨u, rfl, go_of (s := { s with heap := h' }) e c d (by decide) ⟨x, H, I1, ru, ⟨rfl, fun ys hy => by rw [I.list_inj hy hq]; exact hx⟩, st', fun b hb => (hf b hb).1⟩⟩
  done := by
    intro X hP hw hK hc i pins s σ H E I hf st hg
    subst hP hw hK
    obtain ⟨xs, hq, hx⟩ := hg
    obtain ⟨its, rv, p, hz⟩ := I.list hq
    obtain ⟨f0, f1, f2, f3, f4, f5⟩ := hf it (by simp)
    have hl := rv.length
    exact wpAny_pyNext_list_end (I.ok.hd hc) st p.isList (by simp; omega) fun h' eb => ⟨rfl, I.turned (t' := s.toks) (fun b o hb e => eb b o hb e) f0 f1 f3 f4 f5⟩
  self := fun _ _ _ _ _ st h => wpAny_pyIter_listiter st h
private theorem turn_tuple {P : Program} {w : World} {K : PySem.W.Frag} {tg : Expr} (a it : Addr) : Turn P w K tg (Itt K a) [it] it (fun i h => h.IsTupleIter it a i) where
  mem := by simp
  obj := fun i h st b hb => by
    have e : b = it := by simpa using hb
    subst e
    obtain ⟨o, e, c, d⟩ := st
    exact ⟨o, e, fun v z => by rw [d] at z; cases z⟩
  keep := fun i h h' st k => st.at fun o e => k it (by simp) o e
  item := by
    intro X hP hw hK hc i pins s σ H E I hf st hg
    subst hP hw hK
    obtain ⟨xs, x, hq, hx⟩ := hg
    obtain ⟨its, rv, p, hz⟩ := I.tuple hq
    obtain ⟨u, hu, ru⟩ := rv.get hx
    obtain ⟨f0, f1, f2, f3, f4, f5⟩ := hf it (by simp)
    refine wpAny_pyNext_tuple_item st (show s.heap.IsTuple a its.toArray from p) (x := u) (by simpa using hu) fun h' st' sb => ?_
    have I1 : Inv X pins σ H { s with heap := h' } := I.turned (t' := s.toks) (fun b o hb e => (sb.2 b hb).trans e) f0 f1 f3 f4 f5
    obtain ⟨o, e, c, d⟩ := id st'
    exact ⟨u, rfl, go_of (s := { s with heap := h' }) e c d (by decide) ⟨x, H, I1, ru, ⟨rfl, fun ys hy => by rw [I.tuple_inj hy hq]; exact hx⟩, st', fun b hb => (hf b hb).1⟩⟩
  done := by
    intro X hP hw hK hc i pins s σ H E I hf st hg
    subst hP hw hK
    obtain ⟨xs, hq, hx⟩ := hg
    obtain ⟨its, rv, p, hz⟩ := I.tuple hq
    obtain ⟨f0, f1, f2, f3, f4, f5⟩ := hf it (by simp)
    have hl := rv.length
    exact wpAny_pyNext_tuple_end (I.ok.hd hc) st (show s.heap.IsTuple a its.toArray from p) (by simp; omega) fun h' eb => ⟨rfl, I.turned (t' := s.toks) (fun b o hb e => eb b o hb e) f0 f1 f3 f4 f5⟩
  self := fun _ _ _ _ _ st h => wpAny_pyIter_tupleiter st h
private theorem turn_range {P : Program} {w : World} {K : PySem.W.Frag} {tg : Expr} (it : Addr) (lo : Int) (n : Nat) : Turn P w K tg (Itr lo n) [it] it (fun i h => IsRangeIter h it (lo + (i : Nat) * 1) ((n : Int) - (i : Nat)) 1) where
  mem := by simp
  obj := fun i h st b hb => by
    have e : b = it := by simpa using hb
    subst e
    exact ⟨_, st, fun v z => by
      have z' : Data.fields _ = Data.cell v := z
      cases z'⟩
  keep := fun i h h' st k => k it (by simp) _ st
  item := by
    intro X hP hw hK hc i pins s σ H E I hf st hg
    subst hP hw hK
    obtain ⟨f0, f1, f2, f3, f4, f5⟩ := hf it (by simp)
    have W := Walks.range (prog := X.prog) (w := X.w) (I.ok.hd hc) it lo 1 n
    refine W.item i s _ _ hg st fun v h' tk hv st' kk => ?_
    obtain ⟨t, rfl⟩ := hv
    have I1 : Inv X pins σ H { s with heap := h', toks := tk } := I.turned (fun b o hb e => kk b o (by simpa using hb) e) f0 f1 f3 f4 f5
    refine ⟨_, rfl, go_of (s := { s with heap := h', toks := tk }) (n := "range_iterator") st' rfl rfl (by decide) ⟨.int (lo + i), H, I1, ⟨t, ?_⟩, ⟨rfl, rfl⟩, st', fun b hb => (hf b hb).1⟩⟩
    rw [Int.mul_one]
  done := by
    intro X hP hw hK hc i pins s σ H E I hf st hg
    subst hP hw hK
    obtain ⟨f0, f1, f2, f3, f4, f5⟩ := hf it (by simp)
    exact wpAny_pyNext_range_end (I.ok.hd hc) st (by have : n ≤ i := hg; omega) fun h' eb => ⟨rfl, I.turned (t' := s.toks) (fun b o hb e => eb b o hb e) f0 f1 f3 f4 f5⟩
  self := fun _ _ _ _ _ st h => wpAny_pyIter_rangeiter st h
end L2

namespace L2
open PySem PySem.Spec PyProof.Rows
section
variable {X : Cx} {tg : Expr}
def iList (K : PySem.W.Frag) (tl : TE) : TI := fun σ H R => tl σ H fun x H1 => ∃ a, x = .ref a ∧ (∃ xs, SqL K H1 a xs) ∧ R (Itl K a) H1
def iTup (K : PySem.W.Frag) (tl : TE) : TI := fun σ H R => tl σ H fun x H1 => ∃ a, x = .ref a ∧ (∃ xs, SqT K H1 a xs) ∧ R (Itt K a) H1
private theorem pi_list {l : Expr} {tl : TE} (hl : PE X l tl) : PI X tg l (iList X.K tl) := by
  intro pins s σ H R I h
  refine thn (hl pins s σ H _ I h) fun v s1 ⟨x, H1, I1, r1, q1⟩ => ?_
  obtain ⟨a, e, ⟨xs, hq⟩, q⟩ := q1
  subst e
  cases r1
  obtain ⟨its, rv, p, hz⟩ := I1.list hq
  refine wpAny_pyIter_list p.isList ?_
  refine ⟨s1.heap.objs.size, [s1.heap.objs.size], _, _, H1, rfl, I1.kept (t' := s1.toks) fun b o e => Heap.get?_push_of_some _ e, turn_list a _, ⟨_, Heap.get?_push_size _ rfl, rfl, rfl⟩, fun b hb => ?_, q⟩
  have e : b = s1.heap.objs.size := by simpa using hb
  subst e
  exact I1.fpOk (Nat.le_refl _) (I1.hok.fresh (Nat.le_refl _))
private theorem pi_tup {l : Expr} {tl : TE} (hl : PE X l tl) : PI X tg l (iTup X.K tl) := by
  intro pins s σ H R I h
  refine thn (hl pins s σ H _ I h) fun v s1 ⟨x, H1, I1, r1, q1⟩ => ?_
  obtain ⟨a, e, ⟨xs, hq⟩, q⟩ := q1
  subst e
  cases r1
  obtain ⟨its, rv, p, hz⟩ := I1.tuple hq
  refine wpAny_pyIter_tuple (show s1.heap.IsTuple a its.toArray from p) ?_
  refine ⟨s1.heap.objs.size, [s1.heap.objs.size], _, _, H1, rfl, I1.kept (t' := s1.toks) fun b o e => Heap.get?_push_of_some _ e, turn_tuple a _, ⟨_, Heap.get?_push_size _ rfl, rfl, rfl⟩, fun b hb => ?_, q⟩
  have e : b = s1.heap.objs.size := by simpa using hb
  subst e
  exact I1.fpOk (Nat.le_refl _) (I1.hok.fresh (Nat.le_refl _))
private theorem range_it {pins : List (Addr × Obj)} {σ : St} {H : Hp} {s : Shared} {R : It → Hp → Prop} {E : Value → Shared → Prop} {lo hi : Int} {t u v : Tok} {tk : Nat} (I : Inv X pins σ H s) (h1 : -(2 ^ 62) ≤ lo) (h2 : lo < 2 ^ 62) (h3 : -(2 ^ 62) ≤ hi) (h4 : hi < 2 ^ 62)
    (q : R (Itr lo (hi - lo).toNat) H) : wpAny (model X.prog X.w) X.A (pyIter (.ref s.heap.objs.size)) (PIE X pins σ tg R) E { s with heap := s.heap.push { cls := .type "range", data := .fields #[.int lo t, .int hi u, .int 1 v] }, toks := tk } := by
  refine wpAny_pyIter_range (IsRange.new ..) (small_one h1 h2 h3 h4) ?_
  have I1 : Inv X pins σ H { s with heap := s.heap.push { cls := .type "range", data := .fields #[.int lo t, .int hi u, .int 1 v] }, toks := tk } := I.kept fun b o e => Heap.get?_push_of_some _ e
  refine ⟨(s.heap.push { cls := .type "range", data := .fields #[.int lo t, .int hi u, .int 1 v] }).objs.size, [(s.heap.push { cls := .type "range", data := .fields #[.int lo t, .int hi u, .int 1 v] }).objs.size], _, _, H, rfl,
    I1.kept (t' := tk) fun b o e => Heap.get?_push_of_some _ e, turn_range _ lo (hi - lo).toNat, ?_, fun b hb => ?_, q⟩
  · have e1 : lo + ((0 : Nat) : Int) * 1 = lo := by simp
    have e2 : (((hi - lo).toNat : Nat) : Int) - ((0 : Nat) : Int) = Builtin.Range.rangeSize lo hi 1 := by rw [rangeSize_one]; split <;> omega
    show IsRangeIter _ _ (lo + ((0 : Nat) : Int) * 1) ((((hi - lo).toNat : Nat) : Int) - ((0 : Nat) : Int)) 1
    rw [e1, e2]
    exact Heap.get?_push_size _ rfl
  · have e : b = (s.heap.push { cls := .type "range", data := .fields #[.int lo t, .int hi u, .int 1 v] }).objs.size := by simpa using hb
    subst e
    exact I1.fpOk (Nat.le_refl _) (I1.hok.fresh (Nat.le_refl _))
def iRng1 (ta : TA) : TI := fun σ H R => ta σ H fun vs H1 => ∃ j : Int, vs = [.int j] ∧ -(2 ^ 62) ≤ j ∧ j < 2 ^ 62 ∧ R (Itr 0 j.toNat) H1
def iRng2 (ta : TA) : TI := fun σ H R => ta σ H fun vs H1 => ∃ i j : Int, vs = [.int i, .int j] ∧ (-(2 ^ 62) ≤ i ∧ i < 2 ^ 62 ∧ -(2 ^ 62) ≤ j ∧ j < 2 ^ 62) ∧ R (Itr i (j - i).toNat) H1
private theorem pi_range1 {a : Expr} {ta : TA} {p pos : Pos} (hg : Gl X "range") (hm : X.mg "range" = none) (ha : PA X [a] ta) (hs : starEach [a] X.env = [(false, eval a X.env)] := by rfl) : PI X tg (.Call (.Name "range" p) [a] [] pos) (iRng1 ta) := by
  intro pins s σ H R I h
  refine Call_ (ld_blt I hg hm boot_range (PyProof.Rows.callWith_type1 (thn (ha pos pins s σ H _ I h) fun us s1 ⟨vs, H1, I1, r1, q1⟩ => ?_) hs rfl))
  obtain ⟨j, e, q1, q2, q⟩ := q1
  subst e
  cases r1 with
  | cons r rr =>
    cases rr
    obtain ⟨t, rfl⟩ := r
    exact call_range_1 (range_it I1 (by omega) (by omega) q1 q2 (by simpa using q))

def tFor (wi : TI) (g : TG) (tb : TS) : TS := fun D σ H => wi σ H fun J H1 => ∃ W : Nat → Nat → St → Hp → Prop, (∃ m, W 0 m σ H1) ∧ ∀ i m σ H, W i m σ H →
  (J.stop i H ∧ D.nx σ H) ∨ (J.go i H ∧ ∃ N : St → Hp → Prop, (∀ σ' H', N σ' H' → ∃ m', m' < m ∧ W (i + 1) m' σ' H') ∧ ∀ x H', J.yld i H x H' → g x σ H' fun σ2 H2 => tb { D with nx := N, ct := N, bk := D.nx } σ2 H2)
def pinsAt (fp : List Addr) (h : Heap) : List (Addr × Obj) := fp.filterMap fun b => (h.get? b).map fun o => (b, o)
private theorem mem_pinsAt {fp : List Addr} {h : Heap} {b : Addr} {o : Obj} (hb : b ∈ fp) (e : h.get? b = some o) : (b, o) ∈ pinsAt fp h := List.mem_filterMap.mpr ⟨b, hb, by rw [e]; rfl⟩
private theorem of_pinsAt {fp : List Addr} {h : Heap} {p : Addr × Obj} (hp : p ∈ pinsAt fp h) : p.1 ∈ fp ∧ h.get? p.1 = some p.2 := by
  obtain ⟨b, hb, e⟩ := List.mem_filterMap.mp hp
  cases q : h.get? b with
  | none => rw [q] at e; cases e
  | some o =>
    rw [q] at e
    have e' : (b, o) = p := Option.some.inj e
    subst e'
    exact ⟨hb, q⟩
private theorem Inv.pinned {pins : List (Addr × Obj)} {σ : St} {H : Hp} {s : Shared} {fp : List Addr} (I : Inv X pins σ H s) (hf : ∀ b ∈ fp, FpOk X pins H b) (ho : ∀ b ∈ fp, ∃ o, s.heap.get? b = some o ∧ ∀ v, o.data ≠ .cell v) : Inv X (pins ++ pinsAt fp s.heap) σ H s :=
  I.pins_of fun p hp => (List.mem_append.mp hp).elim (fun z => I.pin p (List.mem_append_right _ z)) fun z => by
    obtain ⟨hb, e⟩ := of_pinsAt z
    obtain ⟨f0, f1, f2, _⟩ := hf p.1 hb
    obtain ⟨o, e', d⟩ := ho p.1 hb
    rw [e] at e'; cases e'
    exact ⟨e, f0, f1, f2, d⟩
private theorem Inv.unpinned {pins pl : List (Addr × Obj)} {σ : St} {H : Hp} {s : Shared} (I : Inv X (pins ++ pl) σ H s) : Inv X pins σ H s := I.pins_of fun p hp => I.pin p (List.mem_append_right _ (List.mem_append_left _ hp))
private theorem ps_for {iter : Expr} {body : List Stmt} {wi : TI} {g : TG} {tb : TS} {pos : Pos} (hp : PassesOwn (model X.prog X.w) X.A X.env X.xe) (hc : X.calm = true) (hi : PI X tg iter wi) (hg : PG X tg g) (hb : PSs X body tb)
    (hs : ∀ x, foldedSetIterable iter X.env x = pure x := by intro _; rfl) : PS X (.For tg iter body [] pos) (tFor wi g tb) := by
  intro pins s σ H D I h
  refine wpAny_For (thn (hi pins s σ H _ I h) fun v s1 h1 => thn h1 fun itv s2 h2 => ?_) hs
  obtain ⟨it, fp, tn, J, H2, e, I2, T, st2, f2, W, ⟨m0, w0⟩, turn⟩ := h2
  subst e
  -- what stays true of the iterator's objects through the loop
  have stat : ∀ {H' : Hp}, (∀ b ∈ fp, H' b = none) → ∀ b ∈ fp, FpOk X pins H' b := fun hn b hb => ⟨hn b hb, (f2 b hb).2⟩
  refine codeAny_forLoop_any (fun n s' => ∃ i σ' H', Inv X pins σ' H' s' ∧ tn i s'.heap ∧ (∀ b ∈ fp, H' b = none) ∧ W i n σ' H') ?_ m0 ⟨0, σ, H2, I2, st2, fun b hb => (f2 b hb).1, w0⟩
  rintro n s3 ⟨i, σ3, H3, I3, st3, fr3, w3⟩
  rcases turn i n σ3 H3 w3 with ⟨stop, qn⟩ | ⟨go, N, hN, step⟩
  · refine wpAny_passesOwn hp (thn (T.done X rfl rfl rfl hc i pins s3 σ3 H3 X.xe I3 (stat fr3) st3 stop) fun r s4 ⟨hr, I4⟩ => ?_)
    subst hr
    exact wpAny_execs_nil ⟨σ3, H3, I4, qn⟩
  · refine wpAny_passesOwn hp (thn (T.item X rfl rfl rfl hc i pins s3 σ3 H3 X.xe I3 (stat fr3) st3 go) fun r s4 ⟨u, hr, h4⟩ => ?_)
    subst hr
    refine wpAny_passesOwn hp (thn h4 fun _ s5 ⟨x, H5, I5, r5, y5, st5, fr5⟩ => ?_)
    have I5' := I5.pinned (stat fr5) (T.obj _ _ st5)
    refine wpAny_passesOwn hp (thn (hg _ s5 σ3 H5 x u _ I5' r5 (step x H5 y5)) fun _ s6 ⟨σ6, H6, I6, q6⟩ => ?_)
    refine wpAny_passesOwn hp (thn (hb _ s6 σ6 H6 _ I6 q6) fun f s7 q7 => ?_)
    have again : ∀ {σ7 : St} {H7 : Hp}, Inv X (pins ++ pinsAt fp s5.heap) σ7 H7 s7 → N σ7 H7 → ∃ m, m < n ∧ ∃ i σ' H', Inv X pins σ' H' s7 ∧ tn i s7.heap ∧ (∀ b ∈ fp, H' b = none) ∧ W i m σ' H' := fun {σ7 H7} I7 n7 => by
      obtain ⟨m', hm, w7⟩ := hN σ7 H7 n7
      refine ⟨m', hm, i + 1, σ7, H7, I7.unpinned, T.keep _ _ _ st5 fun b hb o e => (I7.pin (b, o) (List.mem_append_right _ (List.mem_append_right _ (mem_pinsAt hb e)))).1, fun b hb => ?_, w7⟩
      obtain ⟨o, e, d⟩ := T.obj _ _ st5 b hb
      exact (I7.pin (b, o) (List.mem_append_right _ (List.mem_append_right _ (mem_pinsAt hb e)))).2.1
    cases f with
    | next => obtain ⟨σ7, H7, I7, n7⟩ := q7; exact again I7 n7
    | cont => obtain ⟨σ7, H7, I7, n7⟩ := q7; exact again I7 n7
    | brk => obtain ⟨σ7, H7, I7, q7⟩ := q7; exact ⟨σ7, H7, I7.unpinned, q7⟩
    | ret v => obtain ⟨x7, σ7, H7, I7, r7, q7⟩ := q7; exact ⟨x7, σ7, H7, I7.unpinned, r7, q7⟩
end

private theorem for_list {K : PySem.W.Frag} {a : Addr} {xs : List V} {g : TG} {tb : TS} {D : Ends} {σ : St} {H : Hp} (Pv : Nat → St → Hp → Prop) (h0 : Pv 0 σ H) (hl : ∀ i σ H, i ≤ xs.length → Pv i σ H → SqL K H a xs)
    (hs : ∀ i x σ H, xs[i]? = some x → Pv i σ H → g x σ H fun σ2 H2 => tb { D with nx := Pv (i + 1), ct := Pv (i + 1), bk := D.nx } σ2 H2) (hd : ∀ σ H, Pv xs.length σ H → D.nx σ H) :
    ∃ W : Nat → Nat → St → Hp → Prop, (∃ m, W 0 m σ H) ∧ ∀ i m σ H, W i m σ H →
      ((Itl K a).stop i H ∧ D.nx σ H) ∨ ((Itl K a).go i H ∧ ∃ N : St → Hp → Prop, (∀ σ' H', N σ' H' → ∃ m', m' < m ∧ W (i + 1) m' σ' H') ∧ ∀ x H', (Itl K a).yld i H x H' → g x σ H' fun σ2 H2 => tb { D with nx := N, ct := N, bk := D.nx } σ2 H2) := by
  refine ⟨fun i m σ H => m = xs.length - i ∧ i ≤ xs.length ∧ Pv i σ H, ⟨xs.length, by simp, Nat.zero_le _, h0⟩, ?_⟩
  rintro i m σ H ⟨rfl, hi, p⟩
  have q := hl i σ H hi p
  by_cases hlt : i < xs.length
  · refine .inr ⟨⟨xs, xs[i], q, by simp [hlt]⟩, Pv (i + 1), fun σ' H' p' => ⟨xs.length - (i + 1), by omega, rfl, hlt, p'⟩, fun x H' y => ?_⟩
    obtain ⟨e, y⟩ := y
    subst e
    exact hs i x σ _ (y xs q) p
  · have e : i = xs.length := by omega
    subst e
    exact .inl ⟨⟨xs, q, Nat.le_refl _⟩, hd σ H p⟩
private theorem for_tup {K : PySem.W.Frag} {a : Addr} {xs : List V} {g : TG} {tb : TS} {D : Ends} {σ : St} {H : Hp} (Pv : Nat → St → Hp → Prop) (h0 : Pv 0 σ H) (hl : ∀ i σ H, i ≤ xs.length → Pv i σ H → SqT K H a xs)
    (hs : ∀ i x σ H, xs[i]? = some x → Pv i σ H → g x σ H fun σ2 H2 => tb { D with nx := Pv (i + 1), ct := Pv (i + 1), bk := D.nx } σ2 H2) (hd : ∀ σ H, Pv xs.length σ H → D.nx σ H) :
    ∃ W : Nat → Nat → St → Hp → Prop, (∃ m, W 0 m σ H) ∧ ∀ i m σ H, W i m σ H →
      ((Itt K a).stop i H ∧ D.nx σ H) ∨ ((Itt K a).go i H ∧ ∃ N : St → Hp → Prop, (∀ σ' H', N σ' H' → ∃ m', m' < m ∧ W (i + 1) m' σ' H') ∧ ∀ x H', (Itt K a).yld i H x H' → g x σ H' fun σ2 H2 => tb { D with nx := N, ct := N, bk := D.nx } σ2 H2) := by
  refine ⟨fun i m σ H => m = xs.length - i ∧ i ≤ xs.length ∧ Pv i σ H, ⟨xs.length, by simp, Nat.zero_le _, h0⟩, ?_⟩
  rintro i m σ H ⟨rfl, hi, p⟩
  have q := hl i σ H hi p
  by_cases hlt : i < xs.length
  · refine .inr ⟨⟨xs, xs[i], q, by simp [hlt]⟩, Pv (i + 1), fun σ' H' p' => ⟨xs.length - (i + 1), by omega, rfl, hlt, p'⟩, fun x H' y => ?_⟩
    obtain ⟨e, y⟩ := y
    subst e
    exact hs i x σ _ (y xs q) p
  · have e : i = xs.length := by omega
    subst e
    exact .inl ⟨⟨xs, q, Nat.le_refl _⟩, hd σ H p⟩
private theorem for_range {lo : Int} {n : Nat} {g : TG} {tb : TS} {D : Ends} {σ : St} {H : Hp} (Pv : Nat → St → Hp → Prop) (h0 : Pv 0 σ H)
    (hs : ∀ i σ H, i < n → Pv i σ H → g (.int (lo + i)) σ H fun σ2 H2 => tb { D with nx := Pv (i + 1), ct := Pv (i + 1), bk := D.nx } σ2 H2) (hd : ∀ σ H, Pv n σ H → D.nx σ H) :
    ∃ W : Nat → Nat → St → Hp → Prop, (∃ m, W 0 m σ H) ∧ ∀ i m σ H, W i m σ H →
      ((Itr lo n).stop i H ∧ D.nx σ H) ∨ ((Itr lo n).go i H ∧ ∃ N : St → Hp → Prop, (∀ σ' H', N σ' H' → ∃ m', m' < m ∧ W (i + 1) m' σ' H') ∧ ∀ x H', (Itr lo n).yld i H x H' → g x σ H' fun σ2 H2 => tb { D with nx := N, ct := N, bk := D.nx } σ2 H2) := by
  refine ⟨fun i m σ H => m = n - i ∧ i ≤ n ∧ Pv i σ H, ⟨n, by simp, Nat.zero_le _, h0⟩, ?_⟩
  rintro i m σ H ⟨rfl, hi, p⟩
  by_cases hlt : i < n
  · refine .inr ⟨hlt, Pv (i + 1), fun σ' H' p' => ⟨n - (i + 1), by omega, rfl, hlt, p'⟩, fun x H' y => ?_⟩
    obtain ⟨e, y⟩ := y
    subst e y
    exact hs i σ _ hlt p
  · have e : i = n := by omega
    subst e
    exact .inl ⟨Nat.le_refl _, hd σ H p⟩
end L2

namespace L2
open PySem PySem.Spec PyProof.Rows

abbrev R2 := V → V → Hp → VK → Prop
def OpR (X : Cx) (f : Value → Value → Sem Value) (r : R2) : Prop :=
  ∀ (pins : List (Addr × Obj)) (s : Shared) (σ : St) (H : Hp) (x y : V) (v u : Value) (Q : VK), Inv X pins σ H s → RelV x v → RelV y u → r x y H Q →
    wpAny (model X.prog X.w) X.A (f v u) (EP X pins σ Q) X.xe s
def UnR (X : Cx) (f : Value → Sem Value) (r : V → Hp → VK → Prop) : Prop :=
  ∀ (pins : List (Addr × Obj)) (s : Shared) (σ : St) (H : Hp) (x : V) (v : Value) (Q : VK), Inv X pins σ H s → RelV x v → r x H Q →
    wpAny (model X.prog X.w) X.A (f v) (EP X pins σ Q) X.xe s
def CallR (X : Cx) (f : Value) (r : List V → Hp → VK → Prop) : Prop :=
  ∀ (pins : List (Addr × Obj)) (s : Shared) (σ : St) (H : Hp) (xs : List V) (us : List Value) (Q : VK), Inv X pins σ H s → Vals xs us → r xs H Q →
    wpAny (model X.prog X.w) X.A (call f us) (EP X pins σ Q) X.xe s
def TruR (X : Cx) (r : V → Hp → (Bool → Hp → Prop) → Prop) : Prop :=
  ∀ (pins : List (Addr × Obj)) (s : Shared) (σ : St) (H : Hp) (x : V) (v : Value) (Q : Bool → Hp → Prop), Inv X pins σ H s → RelV x v → r x H Q →
    wpAny (model X.prog X.w) X.A (truthy v) (TP X pins σ Q) X.xe s

def tOp (r : R2) (ta tb : TE) : TE := fun σ H Q => ta σ H fun x H1 => tb σ H1 fun y H2 => r x y H2 Q
def tUn (r : V → Hp → VK → Prop) (ta : TE) : TE := fun σ H Q => ta σ H fun x H1 => r x H1 Q
def rI (C : Int → Int → Prop) (g : Int → Int → V) : R2 := fun x y H Q => ∃ i j, x = .int i ∧ y = .int j ∧ C i j ∧ Q (g i j) H
def rI0 (g : Int → Int → V) : R2 := fun x y H Q => ∃ i j, x = .int i ∧ y = .int j ∧ Q (g i j) H
def rU (g : Int → V) : V → Hp → VK → Prop := fun x H Q => ∃ i, x = .int i ∧ Q (g i) H

section
variable {X : Cx} {a b c : Expr} {ta tb tc : TE} {pos : Pos}

private theorem binT (ha : PE X a ta) (hb : PE X b tb) {pins : List (Addr × Obj)} {s : Shared} {σ : St} {H : Hp} {R : V → V → Hp → Prop} (I : Inv X pins σ H s)
    (h : ta σ H fun x H1 => tb σ H1 fun y H2 => R x y H2) {Q : Value → Shared → Prop} {f : Value → Value → Sem Value}
    (hf : ∀ v u s2 x y H2, Inv X pins σ H2 s2 → RelV x v → RelV y u → R x y H2 → wpAny (model X.prog X.w) X.A (f v u) Q X.xe s2) :
    wpAny (model X.prog X.w) X.A (eval a X.env) (fun v s₁ => wpAny (model X.prog X.w) X.A (eval b X.env) (fun u s₂ => wpAny (model X.prog X.w) X.A (f v u) Q X.xe s₂) X.xe s₁) X.xe s := by
  refine thn (ha pins s σ H _ I h) fun v s1 ⟨x, H1, I1, r1, q1⟩ => ?_
  refine thn (hb pins s1 σ H1 _ I1 q1) fun u s2 ⟨y, H2, I2, r2, q2⟩ => ?_
  exact hf v u s2 x y H2 I2 r1 r2 q2

private theorem pe_op {op : Operator} {r : R2} (ho : OpR X (binaryOp op) r) (ha : PE X a ta) (hb : PE X b tb) : PE X (.BinOp a op b pos) (tOp r ta tb) := by
  intro pins s σ H Q I h
  exact wpAny_BinOp (binT ha hb I h fun v u s2 x y H2 I2 rx ry q => ho pins s2 σ H2 x y v u Q I2 rx ry q)
private theorem pe_un {op : UnaryOp} {r : V → Hp → VK → Prop} (ho : UnR X (unaryOp op) r) (ha : PE X a ta) : PE X (.UnaryOp op a pos) (tUn r ta) := by
  intro pins s σ H Q I h
  exact UnaryOp_ (thn (ha pins s σ H _ I h) fun v s1 ⟨x, H1, I1, r1, q1⟩ => ho pins s1 σ H1 x v Q I1 r1 q1)

private theorem opI {f : Value → Value → Sem Value} {C : Int → Int → Prop} {g : Int → Int → Int}
    (rule : ∀ (i j : Int) (t u : Tok) (s : Shared) (Q : Value → Shared → Prop) (E : Value → Shared → Prop), C i j → Q (.int (g i j) s.toks) { s with toks := s.toks + 1 } → wpAny (model X.prog X.w) X.A (f (.int i t) (.int j u)) Q E s) :
    OpR X f (rI C fun i j => .int (g i j)) := by
  intro pins s σ H x y v u Q I rx ry h
  obtain ⟨i, j, rfl, rfl, hc, q⟩ := h
  obtain ⟨t, rfl⟩ := rx
  obtain ⟨t', rfl⟩ := ry
  exact rule i j t t' s _ _ hc ⟨.int (g i j), H, I.tok _, ⟨_, rfl⟩, q⟩
private theorem opI0 {f : Value → Value → Sem Value} {g : Int → Int → Int}
    (rule : ∀ (i j : Int) (t u : Tok) (s : Shared) (Q : Value → Shared → Prop) (E : Value → Shared → Prop), Q (.int (g i j) s.toks) { s with toks := s.toks + 1 } → wpAny (model X.prog X.w) X.A (f (.int i t) (.int j u)) Q E s) :
    OpR X f (rI0 fun i j => .int (g i j)) := by
  intro pins s σ H x y v u Q I rx ry h
  obtain ⟨i, j, rfl, rfl, q⟩ := h
  obtain ⟨t, rfl⟩ := rx
  obtain ⟨t', rfl⟩ := ry
  exact rule i j t t' s _ _ ⟨.int (g i j), H, I.tok _, ⟨_, rfl⟩, q⟩

def CDiv (i j : Int) : Prop := 0 < j ∧ j < 1073741824
def CDivN (i j : Int) : Prop := j ≠ 0 ∧ j.natAbs < 1073741824
def CPow (i j : Int) : Prop := 0 ≤ j ∧ j ≤ 1000000 ∧ i.natAbs < 2 ^ 64
def CMul (i j : Int) : Prop := (-(2 ^ 64) < i ∧ i < 2 ^ 64) ∨ (-(2 ^ 64) < j ∧ j < 2 ^ 64)
private theorem CMul.ok {i j : Int} (h : CMul i j) : IntMulOk i j := by
  rcases h with ⟨h1, h2⟩ | ⟨h1, h2⟩
  · exact .of_left (intBits_le_64 h1 h2)
  · exact .of_right (intBits_le_64 h1 h2)

private theorem op_add : OpR X (binaryOp .Add) (rI0 fun i j => .int (i + j)) := opI0 fun _ _ _ _ _ _ _ q => add_int q
private theorem op_sub : OpR X (binaryOp .Sub) (rI0 fun i j => .int (i - j)) := opI0 fun _ _ _ _ _ _ _ q => sub_int q
private theorem op_mul : OpR X (binaryOp .Mult) (rI CMul fun i j => .int (i * j)) := opI fun _ _ _ _ _ _ _ hc q => mul_int q hc.ok
private theorem op_mod : OpR X (binaryOp .Mod) (rI (fun _ j => 0 < j) fun i j => .int (i % j)) := opI fun i j _ _ _ _ _ hc q => by
  have h1 : (0 : Int) < j := hc
  exact mod_int' (by omega) (by rw [Int.fmod_eq_emod_of_nonneg i (by omega)]; exact q)
private theorem op_pow : OpR X (binaryOp .Pow) (rI CPow fun i j => .int (i ^ j.toNat)) := opI fun _ _ _ _ _ _ _ hc q => pow_int_small hc.1 hc.2.1 hc.2.2 q


private theorem unI {f : Value → Sem Value} {g : Int → Int}
    (rule : ∀ (i : Int) (t : Tok) (s : Shared) (Q : Value → Shared → Prop) (E : Value → Shared → Prop), Q (.int (g i) s.toks) { s with toks := s.toks + 1 } → wpAny (model X.prog X.w) X.A (f (.int i t)) Q E s) :
    UnR X f (rU fun i => .int (g i)) := by
  intro pins s σ H x v Q I rx h
  obtain ⟨i, rfl, q⟩ := h
  obtain ⟨t, rfl⟩ := rx
  exact rule i t s _ _ ⟨.int (g i), H, I.tok _, ⟨_, rfl⟩, q⟩
private theorem un_neg : UnR X (unaryOp .USub) (rU fun i => .int (-i)) := unI fun _ _ _ _ _ q => neg_int q

end

def scal : V → V → Bool
  | .non, .non => true | .non, .int _ => true | .int _, .non => true | .non, .bl _ => true | .bl _, .non => true | .non, .str _ => true | .str _, .non => true
  | .int _, .int _ => true | .bl _, .bl _ => true | .str _, .str _ => true | .byt _, .byt _ => true
  | .int _, .str _ => true | .str _, .int _ => true | .bl _, .str _ => true | .str _, .bl _ => true
  | _, _ => false
def rEq : R2 := fun x y H Q => scal x y = true ∧ Q (.bl (decide (x = y))) H
def rNe : R2 := fun x y H Q => scal x y = true ∧ Q (.bl (!decide (x = y))) H

private theorem dec_int {i j : Int} : decide (V.int i = V.int j) = (i == j) := by
  rw [Bool.eq_iff_iff]
  simp
private theorem dec_bl {i j : Bool} : decide (V.bl i = V.bl j) = (i == j) := by
  rw [Bool.eq_iff_iff]
  simp
private theorem dec_str {i j : Str} : decide (V.str i = V.str j) = (i == j) := by
  rw [Bool.eq_iff_iff]
  simp
private theorem dec_byt {i j : Array UInt8} : decide (V.byt i = V.byt j) = (i.toList == j.toList) := by
  rw [Bool.eq_iff_iff]
  cases i
  cases j
  simp

section
variable {X : Cx} {a b c : Expr} {ta tb tc : TE} {pos : Pos}
private theorem fin_bl {pins : List (Addr × Obj)} {σ : St} {H : Hp} {s : Shared} {Q : VK} {k k' : Bool} (I : Inv X pins σ H s) (q : Q (.bl k) H) (e : k = k') : EP X pins σ Q (.bool k') s := by
  subst e
  exact ⟨.bl k, H, I, rfl, q⟩
private theorem op_eq : OpR X (compareOp .Eq) rEq := by
  intro pins s σ H x y v u Q I rx ry h
  obtain ⟨hs, q⟩ := h
  cases x with
  | non =>
    cases rx
    cases y with
    | non => cases ry; exact PySem.EqNone.eq_none_none (fin_bl I q (by simp))
    | bl j => cases ry; exact PySem.EqNone.eq_none_bool (fin_bl I q (by simp))
    | int j => obtain ⟨t', rfl⟩ := ry; exact PySem.EqNone.eq_none_int (fin_bl I q (by simp))
    | str j => obtain ⟨t', rfl⟩ := ry; exact PySem.EqNone.eq_none_str (fin_bl I q (by simp))
    | _ => exact absurd (show false = true from hs) Bool.false_ne_true
  | bl i =>
    cases rx
    cases y with
    | non => cases ry; exact PySem.EqNone.eq_bool_none (fin_bl I q (by simp))
    | bl j => cases ry; exact eq_bool (fin_bl I q dec_bl)
    | str j => obtain ⟨t', rfl⟩ := ry; exact PySem.EqMixed.eq_bool_str (fin_bl I q (by simp))
    | _ => exact absurd (show false = true from hs) Bool.false_ne_true
  | int i =>
    obtain ⟨t, rfl⟩ := rx
    cases y with
    | non => cases ry; exact PySem.EqNone.eq_int_none (fin_bl I q (by simp))
    | int j => obtain ⟨t', rfl⟩ := ry; exact eq_int (fin_bl I q dec_int)
    | str j => obtain ⟨t', rfl⟩ := ry; exact PySem.EqMixed.eq_int_str (fin_bl I q (by simp))
    | _ => exact absurd (show false = true from hs) Bool.false_ne_true
  | str i =>
    obtain ⟨t, rfl⟩ := rx
    cases y with
    | non => cases ry; exact PySem.EqNone.eq_str_none (fin_bl I q (by simp))
    | bl j => cases ry; exact PySem.EqMixed.eq_str_bool (fin_bl I q (by simp))
    | int j => obtain ⟨t', rfl⟩ := ry; exact PySem.EqMixed.eq_str_int (fin_bl I q (by simp))
    | str j => obtain ⟨t', rfl⟩ := ry; exact eq_str (fin_bl I q dec_str)
    | _ => exact absurd (show false = true from hs) Bool.false_ne_true
  | byt i =>
    obtain ⟨t, rfl⟩ := rx
    cases y with
    | byt j => obtain ⟨t', rfl⟩ := ry; exact PySem.W.eq_bytes (fin_bl I q dec_byt)
    | _ => exact absurd (show false = true from hs) Bool.false_ne_true
  | _ => cases y <;> exact absurd (show false = true from hs) Bool.false_ne_true
private theorem op_ne : OpR X (compareOp .NotEq) rNe := by
  intro pins s σ H x y v u Q I rx ry h
  obtain ⟨hs, q⟩ := h
  cases x with
  | non =>
    cases rx
    cases y with
    | non => cases ry; exact PySem.EqNone.ne_none_none (fin_bl I q (by simp))
    | bl j => cases ry; exact PySem.EqNone.ne_none_bool (fin_bl I q (by simp))
    | int j => obtain ⟨t', rfl⟩ := ry; exact PySem.EqNone.ne_none_int (fin_bl I q (by simp))
    | str j => obtain ⟨t', rfl⟩ := ry; exact PySem.EqNone.ne_none_str (fin_bl I q (by simp))
    | _ => exact absurd (show false = true from hs) Bool.false_ne_true
  | bl i =>
    cases rx
    cases y with
    | non => cases ry; exact PySem.EqNone.ne_bool_none (fin_bl I q (by simp))
    | bl j => cases ry; exact ne_bool (fin_bl I q (congrArg not dec_bl))
    | str j => obtain ⟨t', rfl⟩ := ry; exact PySem.EqMixed.ne_bool_str (fin_bl I q (by simp))
    | _ => exact absurd (show false = true from hs) Bool.false_ne_true
  | int i =>
    obtain ⟨t, rfl⟩ := rx
    cases y with
    | non => cases ry; exact PySem.EqNone.ne_int_none (fin_bl I q (by simp))
    | int j => obtain ⟨t', rfl⟩ := ry; exact ne_int (fin_bl I q (congrArg not dec_int))
    | str j => obtain ⟨t', rfl⟩ := ry; exact PySem.EqMixed.ne_int_str (fin_bl I q (by simp))
    | _ => exact absurd (show false = true from hs) Bool.false_ne_true
  | str i =>
    obtain ⟨t, rfl⟩ := rx
    cases y with
    | non => cases ry; exact PySem.EqNone.ne_str_none (fin_bl I q (by simp))
    | bl j => cases ry; exact PySem.EqMixed.ne_str_bool (fin_bl I q (by simp))
    | int j => obtain ⟨t', rfl⟩ := ry; exact PySem.EqMixed.ne_str_int (fin_bl I q (by simp))
    | str j => obtain ⟨t', rfl⟩ := ry; exact ne_str (fin_bl I q (congrArg not dec_str))
    | _ => exact absurd (show false = true from hs) Bool.false_ne_true
  | byt i =>
    obtain ⟨t, rfl⟩ := rx
    cases y with
    | byt j => obtain ⟨t', rfl⟩ := ry; exact PySem.W.ne_bytes (fin_bl I q (congrArg not dec_byt))
    | _ => exact absurd (show false = true from hs) Bool.false_ne_true
  | _ => cases y <;> exact absurd (show false = true from hs) Bool.false_ne_true


private theorem op_isN : OpR X (compareOp .Is) (fun x y H Q => y = .non ∧ Q (.bl (decide (x = .non))) H) := by
  intro pins s σ H x y v u Q I rx ry h
  obtain ⟨rfl, q⟩ := h
  cases ry
  refine is_none_gen (fin_bl I q ?_)
  cases x <;> first
    | (cases rx; rfl)
    | (obtain ⟨t, rfl⟩ := rx; rfl)

def isObj : HO → Bool
  | .lst _ => true
  | .ins _ _ _ => true
  | _ => false

private theorem OpR.or {f : Value → Value → Sem Value} {r r' : R2} (h : OpR X f r) (h' : OpR X f r') : OpR X f (fun x y H Q => r x y H Q ∨ r' x y H Q) := by
  intro pins s σ H x y v u Q I rx ry q
  rcases q with q | q
  · exact h pins s σ H x y v u Q I rx ry q
  · exact h' pins s σ H x y v u Q I rx ry q

private theorem nomark (b : Expr) {op : CmpOp} (h : op ≠ .In := by decide) (h2 : op ≠ .NotIn := by decide) : behindInMarks op b = false := by
  have e1 : (op == CmpOp.In) = false := by cases op <;> first | rfl | exact absurd rfl h
  have e2 : (op == CmpOp.NotIn) = false := by cases op <;> first | rfl | exact absurd rfl h2
  cases b <;> simp [behindInMarks, e1, e2]
private theorem pe_cmpR {op : CmpOp} {r : R2} (ho : OpR X (compareOp op) r) (ha : PE X a ta) (hb : PE X b tb) (hm : behindInMarks op b = false) : PE X (.Compare a [op] [b] pos) (tOp r ta tb) := by
  intro pins s σ H Q I h
  exact wpAny_Compare1 (binT ha hb I h fun v u s2 x y H2 I2 rx ry q => ho pins s2 σ H2 x y v u Q I2 rx ry q) hm
def tTest (t : TE) : TT := fun σ H Q => t σ H fun x H' => ∃ k, x = .bl k ∧ Q k H'
private theorem pt_cmpR {op : CmpOp} {r : R2} (ho : OpR X (compareOp op) r) (ha : PE X a ta) (hb : PE X b tb) (hm : behindInMarks op b = false) : PT X (.Compare a [op] [b] pos) (tTest (tOp r ta tb)) := by
  intro pins s σ H Q I h
  refine wpAny_isTrue_Compare1 (thn (ha pins s σ H _ I h) fun v s1 ⟨x, H1, I1, r1, q1⟩ => thn (hb pins s1 σ H1 _ I1 q1) fun u s2 ⟨y, H2, I2, r2, q2⟩ =>
    thn (ho pins s2 σ H2 x y v u _ I2 r1 r2 q2) fun c s3 ⟨z, H3, I3, r3, k, e, q3⟩ => ?_) hm
  subst e
  cases r3
  exact wpAny_truthy_bool ⟨H3, I3, q3⟩
def tChain (r r' : R2) (ta tb tc : TE) : TE := fun σ H Q => ta σ H fun x H1 => tb σ H1 fun y H2 => r x y H2 fun z H3 => ∃ k, z = .bl k ∧
  (if k = true then tc σ H3 fun w' H4 => r' y w' H4 Q else Q (.bl false) H3)

def TruV (K : PySem.W.Frag) (x : V) (H : Hp) (k : Bool) : Prop :=
  match x with
  | .non => k = false
  | .bl b => k = b
  | .int i => k = (i != 0)
  | .str y => y.length ≤ sizeLine ∧ k = ((y.length : Int) != 0)
  | .byt y => y.size ≤ sizeLine ∧ k = ((y.size : Int) != 0)
  | .ref p => (∃ xs, SqL K H p xs ∧ k = !xs.isEmpty) ∨ (∃ xs, SqT K H p xs ∧ k = !xs.isEmpty) ∨ ∃ kvs, H p = some (.dK kvs) ∧ k = !kvs.isEmpty
  | _ => False
private theorem line63 : (sizeLine : Nat) < 2 ^ 63 := by rw [sizeLine_eq]; decide

private theorem op_add_str : OpR X (binaryOp .Add) (fun x y H Q => ∃ i j, x = .str i ∧ y = .str j ∧ i.length + j.length ≤ sizeLine ∧ Q (.str (i ++ j)) H) := by
  intro pins s σ H x y v u Q I rx ry h
  obtain ⟨i, j, rfl, rfl, hz, q⟩ := h
  obtain ⟨t, rfl⟩ := rx
  obtain ⟨t', rfl⟩ := ry
  exact add_str (fun t' tk => ⟨.str (i ++ j), H, I.tok _, ⟨_, rfl⟩, q⟩) hz

def PlainIxT (b : Expr) : Prop := ∀ o i, subscripted b false o i = operate [o, i] (getItem o i)

private theorem vals1 {x : V} {us : List Value} (r : Vals [x] us) : ∃ u, us = [u] ∧ RelV x u := by
  cases r with
  | cons r1 r2 => cases r2; exact ⟨_, rfl, r1⟩
private theorem vals2 {x y : V} {us : List Value} (r : Vals [x, y] us) : ∃ u w', us = [u, w'] ∧ RelV x u ∧ RelV y w' := by
  cases r with
  | cons r1 r2 =>
    cases r2 with
    | cons r3 r4 => cases r4; exact ⟨_, _, rfl, r1, r3⟩
private theorem call_ord : CallR X (.builtin "ord") (fun xs H Q => ∃ x, xs = [.str x] ∧ x.length = 1 ∧ Q (.int (x.cps.getD 0 0 : Nat)) H) := by
  intro pins s σ H xs us Q I r h
  obtain ⟨x, rfl, hz, q⟩ := h
  obtain ⟨u, rfl, t, rfl⟩ := vals1 r
  exact ord_of_one hz ⟨.int _, H, I.tok _, ⟨_, rfl⟩, q⟩
def LenV (K : PySem.W.Frag) (x : V) (H : Hp) (n : Nat) : Prop :=
  match x with
  | .str y => y.length ≤ sizeLine ∧ n = y.length
  | .byt y => y.size ≤ sizeLine ∧ n = y.size
  | .ref p => (∃ xs, SqL K H p xs ∧ n = xs.length) ∨ ∃ xs, SqT K H p xs ∧ n = xs.length
  | _ => False
end
end L2

namespace L2
open PySem PySem.Spec PyProof.Rows

structure ObjM (h : Heap) (x dx C : Addr) (mA : Str → Option Value) : Prop where
  obj : h.get? x = some (PySem.W.instObj C dx)
  ns : h.Ns1 dx mA
  ne : dx ≠ x

private theorem lookIn_ns {h : Heap} {dx : Addr} {mA : Str → Option Value} (n : h.Ns1 dx mA) : ∃ od, h.get? dx = some od ∧ ∀ name, PySem.W.lookIn name od = some (mA name) := by
  obtain ⟨o, es, ep, ho, hd, hk, _, hm⟩ := n
  refine ⟨o, ho, fun name => ?_⟩
  have e := hm name
  unfold nsFind findBy at e
  rw [← Array.find?_toList] at e
  unfold PySem.W.lookIn
  rw [hd]
  dsimp only
  split
  · rename_i y q
    rw [q] at e
    exact congrArg some e
  · rename_i q
    rw [q] at e
    have a : es.toList.any (·.refKey) = false := by
      rw [List.any_eq_false]
      intro y hy
      obtain ⟨z, t, hkey⟩ := hk y (Array.mem_toList_iff.mp hy)
      simp [DictEntry.refKey, hkey]
    have a' : ¬ es.toList.any (·.refKey) = true := by rw [a]; exact Bool.false_ne_true
    rw [if_neg a']
    exact congrArg some e

private theorem ObjM.look {h : Heap} {x dx C : Addr} {mA : Str → Option Value} (I : ObjM h x dx C mA) : ∃ od, PySem.W.InstAt h x (PySem.W.instObj C dx) C (some od) ∧ ∀ name, PySem.W.lookIn name od = some (mA name) :=
  let ⟨od, ho, hl⟩ := lookIn_ns I.ns
  ⟨od, ⟨I.obj, rfl, rfl, ho⟩, hl⟩

section
variable {prog : Program} {w : World} {A : Around} {E : Value → Shared → Prop} {s : Shared} {K : PySem.W.Frag} {x dx C f : Addr} {mA : Str → Option Value} {name : Str} {v : Value}

private theorem get_map {expr : Bool} {Q : Value → Shared → Prop} (X : K.In s.heap) (I : ObjM s.heap x dx C mA) (hg : PySem.W.plainGet K C name = true) (hh : PySem.W.hasDictIn K C = true)
    (ha : PySem.W.findIn K (.ref C) name = some none) (hv : mA name = some v) (hv' : PySem.W.handedIn v = true) (h : Q v { s with toks := s.toks + 1 }) :
    wpAny (model prog w) A (getAttr (.ref x) name expr) Q E s := by
  obtain ⟨od, J, hl⟩ := I.look
  exact PySem.W.get_value X J (PySem.W.plainGet_of hg).1 (PySem.W.findObj_own hh ha rfl (by rw [hl, hv])) hv' h


private theorem get_meth {pl : Sem Bool} {Q : Value × List Value → Shared → Prop} (X : K.In s.heap) (I : ObjM s.heap x dx C mA) (hg : PySem.W.plainGet K C name = true)
    (hf : PySem.W.findIn K (.ref C) name = some (some (.ref f))) (ht : PySem.W.isFn K (.ref f) = true) (hv : mA name = none) (h : Q (.ref f, [.ref x]) s) :
    wpAny (model prog w) A (getMethod (.ref x) name pl) Q E s := by
  obtain ⟨od, J, hl⟩ := I.look
  exact PySem.W.method_fn X J (PySem.W.plainGet_of hg).1 (PySem.W.plainGet_of hg).2 hf (beq_iff_eq.mp ht) (by show (PySem.W.lookIn name od).map (·.isSome) = some false; rw [hl, hv]; rfl) h

private theorem set_map {ns : List Str} {Q : Unit → Shared → Prop} (X : K.In s.heap) (I : ObjM s.heap x dx C mA)
    (hs : PySem.W.findIn K (.ref C) "__setattr__" = some (some (.builtin "object.__setattr__"))) (hp : PySem.W.plainOver K C = true) (ht : PySem.W.takerIn K C name = some none) (hh : PySem.W.hasDictIn K C = true)
    (hw : PySem.Within mA ns) (hsz : ns.length ≤ sizeLine)
    (h : ∀ h', ObjM h' x dx C (fun y => if y = name then some v else mA y) → Heap.SameBut dx s.heap h' → Q () { s with heap := h', toks := s.toks + 2 }) :
    wpAny (model prog w) A (setAttr (.ref x) name v) Q E s := by
  obtain ⟨od, J, hl⟩ := I.look
  refine PySem.W.set_plain X J hs (PySem.W.osa_open (s := { s with toks := s.toks + 1 }) (r := none) X J hp ht fun b => ?_)
  obtain ⟨cd, hc, hd'⟩ := PySem.W.any_some hh
  have hx : s.heap.get? x = some ⟨.ref C, some dx, .plain, #[]⟩ := I.obj
  refine wpAny_bind (wpAny_pure (wpAny_bind (wpAny_bind (wpAny_loadPart hx (wpAny_bind (PySem.W.Looks.here (s := { s with toks := s.toks + 1 }) (PySem.W.looks_clsIn X hc) ?_))))))
  rw [hd']
  refine wpAny_pure (a := some dx) (wpAny_bind (wpAny_pure (wpAny_bind ?_)))
  refine wpAny_nsSet1 (s := { s with toks := s.toks + 1 }) I.ns fun h' hn2 hs2 => ?_
  obtain ⟨oD, esD, epD, hoD, hdD, hcD⟩ := hn2.count (PySem.Within.cons name v hw)
  refine wpAny_bind (wpAny_lookBehind hoD (by rw [hdD]; exact pastItsLine_dict (Nat.le_trans hcD (by rw [List.length_cons]; omega))) ?_)
  exact wpAny_pure (h _ ⟨(hs2.2 _ (Ne.symm I.ne)).trans I.obj, hn2, I.ne⟩ hs2)

private theorem make_map {R : Result → Shared → Prop} {vs : List Value} {kw : List (Str × Value)} (X : K.In s.heap) (hm : PySem.W.makesIn K C = true)
    (hi : PySem.W.findIn K (.ref C) "__init__" = some (some (.ref f))) (hf : PySem.W.typeIn K (.ref f) = some (.type "function"))
    (h : codeAny (model prog w) (A.under (.builtin "type.__call__" ⟨.ref C :: vs, kw⟩)) (.call (.ref f) ⟨.ref (s.heap.objs.size + 1) :: vs, kw⟩) (PySem.W.InitBack (s.heap.objs.size + 1) R)
      { s with heap := (s.heap.push PySem.W.emptyDict).push (PySem.W.instObj C s.heap.objs.size) }) :
    codeAny (model prog w) A (.call (.ref C) ⟨vs, kw⟩) R s := by
  obtain ⟨hh, g, d, t, os⟩ := s
  exact PySem.W.make_core (PySem.W.makes_of X hm) (PySem.W.looks_findIn X hi) (fun self => PySem.W.bind_fn X self hf) (.inl rfl) h
end

def putF (f : Str) (v : V) : List (Str × V) → List (Str × V)
  | [] => [(f, v)]
  | (g, x) :: r => if g = f then (g, v) :: r else (g, x) :: putF f v r
private theorem lookup_putF (f g : Str) (v : V) : ∀ fs : List (Str × V), (putF f v fs).lookup g = if g = f then some v else fs.lookup g
  | [] => by
    show List.lookup g [(f, v)] = _
    by_cases h : g = f
    · have hb : (g == f) = true := beq_iff_eq.mpr h
      simp only [List.lookup, hb, if_pos h]
    · have hb : (g == f) = false := beq_eq_false_iff_ne.mpr h
      simp only [List.lookup, hb, if_neg h]
  | (k, x) :: r => by
    have ih := lookup_putF f g v r
    rw [show putF f v ((k, x) :: r) = (if k = f then (k, v) :: r else (k, x) :: putF f v r) from rfl]
    by_cases hk : k = f
    · rw [if_pos hk]
      by_cases h : g = k
      · have hb : (g == k) = true := beq_iff_eq.mpr h
        simp only [List.lookup, hb, if_pos (h.trans hk)]
      · have hb : (g == k) = false := beq_eq_false_iff_ne.mpr h
        simp only [List.lookup, hb, if_neg (fun e : g = f => h (e.trans hk.symm))]
    · rw [if_neg hk]
      by_cases h : g = k
      · have hb : (g == k) = true := beq_iff_eq.mpr h
        simp only [List.lookup, hb, if_neg (fun e : g = f => hk (h.symm.trans e))]
      · have hb : (g == k) = false := beq_eq_false_iff_ne.mpr h
        simp only [List.lookup, hb]
        exact ih
private theorem keys_putF (f : Str) (v : V) : ∀ fs : List (Str × V), f ∈ (putF f v fs).map (·.1) ∧ ∀ g, g ∈ fs.map (·.1) → g ∈ (putF f v fs).map (·.1)
  | [] => ⟨by simp [putF], fun g h => by simp at h⟩
  | (k, x) :: r => by
    obtain ⟨i1, i2⟩ := keys_putF f v r
    rw [show putF f v ((k, x) :: r) = (if k = f then (k, v) :: r else (k, x) :: putF f v r) from rfl]
    by_cases hk : k = f
    · rw [if_pos hk]
      subst hk
      exact ⟨by simp, fun g h => by simpa using h⟩
    · rw [if_neg hk]
      refine ⟨?_, fun g h => ?_⟩
      · rw [List.map_cons]
        exact List.mem_cons_of_mem _ i1
      · rw [List.map_cons] at h ⊢
        rcases List.mem_cons.mp h with e | e
        · exact List.mem_cons.mpr (.inl e)
        · exact List.mem_cons_of_mem _ (i2 g e)
private theorem length_putF (f : Str) (v : V) : ∀ fs : List (Str × V), (putF f v fs).length ≤ fs.length + 1
  | [] => by simp [putF]
  | (k, x) :: r => by
    have ih := length_putF f v r
    rw [show putF f v ((k, x) :: r) = (if k = f then (k, v) :: r else (k, x) :: putF f v r) from rfl]
    by_cases hk : k = f
    · rw [if_pos hk, List.length_cons, List.length_cons]; omega
    · rw [if_neg hk, List.length_cons, List.length_cons]; omega

private theorem RelO.some_of {v : V} {o : Option Value} (r : RelO (some v) o) : ∃ u, o = some u ∧ RelV v u := by
  cases o with
  | none => exact (show False from r).elim
  | some u => exact ⟨u, rfl, r⟩
private theorem RelO.none_of {o : Option Value} (r : RelO none o) : o = none := by
  cases o with
  | none => rfl
  | some u => exact (show False from r).elim
private theorem handed_of {v : V} {u : Value} (r : RelV v u) : PySem.W.handedIn u = true := by
  cases v with
  | non => cases (show u = Value.none from r); rfl
  | bl b => cases (show u = Value.bool b from r); rfl
  | int i => obtain ⟨t, e⟩ := (show ∃ t, u = Value.int i t from r); cases e; rfl
  | str x => obtain ⟨t, e⟩ := (show ∃ t, u = Value.str x t from r); cases e; rfl
  | byt b => obtain ⟨t, e⟩ := (show ∃ t, u = Value.bytes b t from r); cases e; rfl
  | flt b => obtain ⟨t, e⟩ := (show ∃ t, u = Value.float b t from r); cases e; rfl
  | ref a => cases (show u = Value.ref a from r); rfl
  | ty n => cases (show u = Value.type n from r); rfl

section
variable {P : Program} {w : World} {H H' : Hp} {h h' : Heap} {a C dx : Addr} {fs fs' : List (Str × V)}
private theorem ins_get (hok : HOk P w H h) (e : H a = some (.ins C dx fs)) : ∃ mA, ObjM h a dx C mA ∧ (∀ f, RelO (fs.lookup f) (mA f)) ∧ PySem.Within mA (fs.map (·.1)) ∧ fs.length ≤ 1000 ∧ H dx = some (.own a) := by
  obtain ⟨d, z, ne, ob, mA, n, r, q⟩ := (show ObjOk P w H h a (.ins C dx fs) from hok a _ e)
  exact ⟨mA, ⟨ob, n, ne⟩, r, q, z, d⟩
end

structure Cls (K : PySem.W.Frag) (C : Addr) : Prop where
  pg : PySem.W.plainGet K C Str.empty = true
  hd : PySem.W.hasDictIn K C = true
  po : PySem.W.plainOver K C = true
  sa : PySem.W.findIn K (.ref C) "__setattr__" = some (some (.builtin "object.__setattr__"))
private theorem Cls.get {K : PySem.W.Frag} {C : Addr} (c : Cls K C) (f : Str) : PySem.W.plainGet K C f = true := c.pg
def NoAttr (K : PySem.W.Frag) (C : Addr) (f : Str) : Prop := PySem.W.findIn K (.ref C) f = some none
private theorem NoAttr.taker {K : PySem.W.Frag} {C : Addr} {f : Str} (n : NoAttr K C f) : PySem.W.takerIn K C f = some none := by
  unfold PySem.W.takerIn
  rw [show PySem.W.findIn K (.ref C) f = some none from n]
  rfl
structure Con (K : PySem.W.Frag) (C : Addr) (f : Str) (v : V) (u : Value) : Prop where
  at_ : PySem.W.findIn K (.ref C) f = some (some u)
  rel : RelV v u
  get : PySem.W.specialIn K u "__get__" = some none
  cp : PySem.W.copiedNames.contains f = false
structure Meth (K : PySem.W.Frag) (C : Addr) (m : Str) (f : Addr) : Prop where
  at_ : PySem.W.findIn K (.ref C) m = some (some (.ref f))
  fn : PySem.W.isFn K (.ref f) = true
  kp : PySem.W.keepIn K (.ref f) = true

section
variable {X : Cx} {pins : List (Addr × Obj)} {σ : St} {H : Hp} {s : Shared} {a C dx : Addr} {fs : List (Str × V)} {f : Str} {v : V} {A : Around} {E : Value → Shared → Prop}

private theorem getattr_ok {b : Bool} {Q : Value → Shared → Prop} (I : Inv X pins σ H s) (e : H a = some (.ins C dx fs)) (c : Cls X.K C) (n : NoAttr X.K C f) (l : fs.lookup f = some v)
    (h : ∀ u s', Inv X pins σ H s' → RelV v u → Q u s') : wpAny (model X.prog X.w) A (getAttr (.ref a) f b) Q E s := by
  obtain ⟨mA, O, r, _, _, _⟩ := ins_get I.hok e
  obtain ⟨u, hu, ru⟩ := RelO.some_of (v := v) (o := mA f) (by rw [← l]; exact r f)
  exact get_map I.kIn O (c.get f) c.hd n hu (handed_of ru) (h u _ (I.tok _) ru)


private theorem getmeth_ok {m : Str} {g : Addr} {pl : Sem Bool} {Q : Value × List Value → Shared → Prop} (I : Inv X pins σ H s) (e : H a = some (.ins C dx fs)) (c : Cls X.K C) (k : Meth X.K C m g) (l : fs.lookup m = none)
    (h : Q (.ref g, [.ref a]) s) : wpAny (model X.prog X.w) A (getMethod (.ref a) m pl) Q E s := by
  obtain ⟨mA, O, r, _, _, _⟩ := ins_get I.hok e
  have hn : mA m = none := RelO.none_of (by rw [← l]; exact r m)
  exact get_meth I.kIn O (c.get m) k.at_ k.fn hn h

private theorem setattr_ok {y : V} {u : Value} {Q : Unit → Shared → Prop} (I : Inv X pins σ H s) (e : H a = some (.ins C dx fs)) (c : Cls X.K C) (n : NoAttr X.K C f) (hl : fs.length < 1000) (ry : RelV y u)
    (h : ∀ s', Inv X pins σ (upd H a (.ins C dx (putF f y fs))) s' → Q () s') : wpAny (model X.prog X.w) A (setAttr (.ref a) f u) Q E s := by
  obtain ⟨mA, O, r, wi, _, ho⟩ := ins_get I.hok e
  have hz : (fs.map (·.1)).length ≤ sizeLine := by rw [List.length_map, sizeLine_eq]; omega
  refine set_map I.kIn O c.sa c.po n.taker c.hd wi hz fun h' O' sb => h _ ?_
  have hd : ∃ o, h'.get? dx = some o := let ⟨o, _, _, e', _⟩ := O'.ns; ⟨o, e'⟩
  refine I.write (x := a) (e := dx) (by rw [e]; exact True.intro) (.inr ho) (fun b q hb z => (sb.2 b hb).trans z) hd ?_
  refine ⟨by rw [upd_ne O.ne]; exact ho, ?_, O.ne, O'.obj, _, O'.ns, fun g => ?_, fun g hg => ?_⟩
  · have := length_putF f y fs; omega
  · show RelO ((putF f y fs).lookup g) (if g = f then some u else mA g)
    rw [lookup_putF]
    by_cases q : g = f
    · rw [if_pos q, if_pos q]; exact ry
    · rw [if_neg q, if_neg q]; exact r g
  · by_cases q : g = f
    · rw [q]; exact (keys_putF f y fs).1
    · refine (keys_putF f y fs).2 g (wi g fun z => hg ?_)
      show (if g = f then some u else mA g) = none
      rw [if_neg q]; exact z

private theorem Inv.made (I : Inv X pins σ H s) : Inv X pins σ (upd (upd H s.heap.objs.size (.own (s.heap.objs.size + 1))) (s.heap.objs.size + 1) (.ins C s.heap.objs.size []))
    { s with heap := (s.heap.push PySem.W.emptyDict).push (PySem.W.instObj C s.heap.objs.size) } := by
  have e1 : (s.heap.push PySem.W.emptyDict).get? s.heap.objs.size = some PySem.W.emptyDict := Heap.get?_push_size s.heap rfl
  have e2 : ((s.heap.push PySem.W.emptyDict).push (PySem.W.instObj C s.heap.objs.size)).get? (s.heap.objs.size + 1) = some (PySem.W.instObj C s.heap.objs.size) := by
    have := Heap.get?_push_size (s.heap.push PySem.W.emptyDict) (o := PySem.W.instObj C s.heap.objs.size) rfl
    rwa [Heap.size_push] at this
  have e3 : (s.heap.push PySem.W.emptyDict).Ns s.heap.objs.size (fun _ => none) := ⟨PySem.W.emptyDict, #[], _, e1, rfl, (fun e he => absurd he (by simp)), fun _ => rfl⟩
  have I1 := I.laid (a := s.heap.objs.size) (o := .own (s.heap.objs.size + 1)) (h' := s.heap.push PySem.W.emptyDict) (t' := s.toks) (fun b u q => Heap.get?_push_of_some _ q) (Nat.le_refl _) ⟨_, e1⟩
  refine I1.laid (a := s.heap.objs.size + 1) (o := .ins C s.heap.objs.size []) (t' := s.toks) (fun b u q => Heap.get?_push_of_some _ q) (Nat.le_of_eq (Heap.size_push _ _)) ?_
  have ne : s.heap.objs.size ≠ s.heap.objs.size + 1 := Nat.ne_of_lt (Nat.lt_succ_self _)
  refine ⟨by rw [upd_ne ne, upd_same], Nat.zero_le _, ne, e2, fun _ => none, (Heap.Ns1.of_empty e3).at fun o q => Heap.get?_push_of_some _ q, fun _ => True.intro, fun y hy => absurd rfl hy⟩

private theorem attr_of {prog : Program} {w : World} {env : Env} {e : Expr} {f : Str} {pos : Pos} {s : Shared} {Q : Value → Shared → Prop} (hb : attributeBase e f env (eval e env) = eval e env)
    (h : wpAny (model prog w) A (eval e env) (fun o s₁ => wpAny (model prog w) A (getAttr o f true) Q E s₁) E s) : wpAny (model prog w) A (eval (.Attribute e f pos) env) Q E s :=
  Attribute_any_ h (by rw [arm_eval_Attribute, hb])
end

def tFld (K : PySem.W.Frag) (ta : TE) (f : Str) : TE := fun σ H Q => ta σ H fun x H1 => ∃ a C dx fs v, x = .ref a ∧ H1 a = some (.ins C dx fs) ∧ Cls K C ∧ NoAttr K C f ∧ fs.lookup f = some v ∧ Q v H1
def tCon (K : PySem.W.Frag) (ta : TE) (f : Str) : TE := fun σ H Q => ta σ H fun x H1 => ∃ a C dx fs v u, x = .ref a ∧ H1 a = some (.ins C dx fs) ∧ Cls K C ∧ Con K C f v u ∧ fs.lookup f = none ∧ Q v H1
def sFld (K : PySem.W.Frag) (ta tv : TE) (f : Str) : TS := fun D σ H => tv σ H fun y H1 => ta σ H1 fun x H2 => ∃ a C dx fs, x = .ref a ∧ H2 a = some (.ins C dx fs) ∧ Cls K C ∧ NoAttr K C f ∧ fs.length < 1000 ∧
  D.nx σ (upd H2 a (.ins C dx (putF f y fs)))
def InOp (X : Cx) (op : Operator) (rd : V → V → Hp → VK → Prop) : Prop :=
  ∀ (pins : List (Addr × Obj)) (s : Shared) (σ : St) (H : Hp) (x y : V) (u v : Value) (Q : VK), Inv X pins σ H s → RelV x u → RelV y v → rd x y H Q → wpAny (model X.prog X.w) X.A (inplaceOp op u v) (EP X pins σ Q) X.xe s
def sFldAug (K : PySem.W.Frag) (ta tv : TE) (rd : V → V → Hp → VK → Prop) (f : Str) : TS := fun D σ H => ta σ H fun x H1 => ∃ a C dx fs v, x = .ref a ∧ H1 a = some (.ins C dx fs) ∧ Cls K C ∧ NoAttr K C f ∧ fs.lookup f = some v ∧
  tv σ H1 fun y H2 => rd v y H2 fun z H3 => ∃ dx' fs', H3 a = some (.ins C dx' fs') ∧ fs'.length < 1000 ∧ D.nx σ (upd H3 a (.ins C dx' (putF f z fs')))

section
variable {X : Cx} {o e value : Expr} {f : Str} {pos pos' tpos : Pos} {ta tv : TE}
private theorem pe_fld (he : PE X e ta) (hb : attributeBase e f X.env (eval e X.env) = eval e X.env) : PE X (.Attribute e f pos) (tFld X.K ta f) := by
  intro pins s σ H Q I h
  refine attr_of hb (thn (he pins s σ H _ I h) fun u s1 ⟨x, H1, I1, rx, a, C, dx, fs, v, ex, ea, c, n, l, q⟩ => ?_)
  subst ex
  obtain rfl : u = Value.ref a := rx
  exact getattr_ok I1 ea c n l fun u' s2 I2 ru => ⟨v, H1, I2, ru, q⟩
private theorem ps_fld (ha : PE X o ta) (hv : PE X value tv) (hs : swapsWith value (some (.Attribute o f pos')) pos.line X.env = pure false) : PS X (.Assign [.Attribute o f pos'] value pos) (sFld X.K ta tv f) := by
  intro pins s σ H D I h
  refine plainObj_wpAny_Assign_Attribute (thn (hv pins s σ H _ I h) fun u s1 ⟨y, H1, I1, ry, q⟩ => thn (ha pins s1 σ H1 _ I1 q) fun ov s2 ⟨x, H2, I2, rx, a, C, dx, fs, ex, ea, c, n, l, q2⟩ => ?_) hs
  subst ex
  obtain rfl : ov = Value.ref a := rx
  exact setattr_ok I2 ea c n l ry fun s3 I3 => ⟨σ, _, I3, q2⟩
def rAdd : V → V → Hp → VK → Prop := fun x y H Q => ∃ i j, x = .int i ∧ y = .int j ∧ Q (.int (i + j)) H
def rSub : V → V → Hp → VK → Prop := fun x y H Q => ∃ i j, x = .int i ∧ y = .int j ∧ Q (.int (i - j)) H

private theorem methcall_of {pl : Sem Bool} {m : Str} {apos : Pos} {args : List Expr} {pins : List (Addr × Obj)} {s : Shared} {σ : St} {H : Hp} {Q : Value → Shared → Prop} {te : TE} (he : PE X e te) (I : Inv X pins σ H s)
    (h : te σ H fun x H1 => ∃ a C dx fs g, x = .ref a ∧ H1 a = some (.ins C dx fs) ∧ Cls X.K C ∧ Meth X.K C m g ∧ fs.lookup m = none ∧
      ∀ s1, Inv X pins σ H1 s1 → wpAny (model X.prog X.w) X.A (callWith pos (.ref g) [.ref a] (backTo pos (starEach args X.env)) (backToKw pos (keywordEach [] X.env))) Q X.xe s1)
    (ht : eval (.Call (.Attribute e m apos) args [] pos) X.env = (do
      let ov ← eval e X.env
      standAt apos.atName
      let (f, first) ← holding [ov] (getMethod ov m pl)
      callWith pos f first (backTo pos (starEach args X.env)) (backToKw pos (keywordEach [] X.env)))) :
    wpAny (model X.prog X.w) X.A (eval (.Call (.Attribute e m apos) args [] pos) X.env) Q X.xe s := by
  refine PySem.W.methodCall_KW (pl := pl) (thn (he pins s σ H _ I h) fun u s1 ⟨x, H1, I1, rx, a, C, dx, fs, g, ex, ea, c, k, l, q⟩ => ?_) ht
  subst ex
  obtain rfl : u = Value.ref a := rx
  exact getmeth_ok I1 ea c k l (q s1 I1)
end

section
variable {X : Cx} {pins : List (Addr × Obj)} {σ : St} {H : Hp} {s : Shared} {A : Around} {E : Value → Shared → Prop} {Q : Value → Shared → Prop} {c : Value} {b : Bool}
inductive TyOf (K : PySem.W.Frag) (H : Hp) : V → Value → Prop where
  | non : TyOf K H .non (.type "NoneType")
  | bl (x : Bool) : TyOf K H (.bl x) (.type "bool")
  | int (i : Int) : TyOf K H (.int i) (.type "int")
  | str (x : Str) : TyOf K H (.str x) (.type "str")
  | flt (x : UInt64) : TyOf K H (.flt x) (.type "float")
  | lst {a : Addr} {xs : List V} (e : H a = some (.lst xs)) : TyOf K H (.ref a) (.type "list")
  | frz {a : Addr} {o : Obj} {xs : List V} (e : H a = some (.frz o (.lst xs))) : TyOf K H (.ref a) (.type "list")
  | tup {a : Addr} {xs : List V} (e : H a = some (.tup xs)) : TyOf K H (.ref a) (.type "tuple")
  | dK {a : Addr} {kvs : List (Key × V)} (e : H a = some (.dK kvs)) : TyOf K H (.ref a) (.type "dict")
  | dT {a : Addr} {kvs : List (List Key × V)} (e : H a = some (.dT kvs)) : TyOf K H (.ref a) (.type "dict")
  | ins {a C dx : Addr} {fs : List (Str × V)} (e : H a = some (.ins C dx fs)) (cl : Cls K C) (ha : PySem.W.findIn K (.ref C) "__class__" = some (some (.builtin "object.__class__")))
      (hn : PySem.W.specialIn K (.builtin "object.__class__") "__get__" = some (some (.builtin "getset_descriptor.__get__"))) (htk : PySem.W.takesIn K (.builtin "object.__class__") = some true)
      (hm : PySem.W.mroIn K C (.type "object") = some true) : TyOf K H (.ref a) (.ref C)
private theorem isinst_ok {x : V} {u t : Value} (I : Inv X pins σ H s) (rx : RelV x u) (ty : TyOf X.K H x t) (e : PySem.W.kitOne X.K t c = some b) (h : ∀ tk, Q (.bool b) { s with toks := tk }) :
    wpAny (model X.prog X.w) A (call (.builtin "isinstance") [u, c]) Q E s := by
  cases ty with
  | non => cases (show u = Value.none from rx); exact PySem.W.kia_one PySem.W.kitx_none I.kIn True.intro e (fun z => nomatch z) h
  | bl y => cases (show u = Value.bool y from rx); exact PySem.W.kia_one PySem.W.kitx_bool I.kIn True.intro e (fun z => nomatch z) h
  | int i => obtain ⟨t, q⟩ := (show ∃ t, u = Value.int i t from rx); cases q; exact PySem.W.kia_one PySem.W.kitx_int I.kIn True.intro e (fun z => nomatch z) h
  | str y => obtain ⟨t, q⟩ := (show ∃ t, u = Value.str y t from rx); cases q; exact PySem.W.kia_one PySem.W.kitx_str I.kIn True.intro e (fun z => nomatch z) h
  | flt y => obtain ⟨t, q⟩ := (show ∃ t, u = Value.float y t from rx); cases q; exact PySem.W.kia_one PySem.W.kitx_float I.kIn True.intro e (fun z => nomatch z) h
  | @lst a xs ea =>
    cases (show u = Value.ref a from rx)
    obtain ⟨_, _, n, _, h1⟩ := (show ObjOk X.prog X.w H s.heap a (.lst xs) from I.hok a _ ea)
    exact PySem.W.kia_one PySem.W.kitx_list I.kIn ⟨_, h1, rfl⟩ e (fun z => nomatch z) h
  | @frz a ob xs ea =>
    cases (show u = Value.ref a from rx)
    obtain ⟨_, _, _, n, _, h1⟩ := (show ObjOk X.prog X.w H s.heap a (.frz ob (.lst xs)) from I.hok a _ ea)
    exact PySem.W.kia_one PySem.W.kitx_list I.kIn ⟨_, h1, rfl⟩ e (fun z => nomatch z) h
  | @tup a xs ea =>
    cases (show u = Value.ref a from rx)
    obtain ⟨_, _, _, p⟩ := (show ObjOk X.prog X.w H s.heap a (.tup xs) from I.hok a _ ea)
    obtain ⟨o, h1, h2, _⟩ := p
    exact PySem.W.kia_one PySem.W.kitx_tuple I.kIn ⟨o, h1, h2⟩ e (fun z => nomatch z) h
  | @dK a kvs ea =>
    cases (show u = Value.ref a from rx)
    obtain ⟨_, _, vs, _, p⟩ := (show ObjOk X.prog X.w H s.heap a (.dK kvs) from I.hok a _ ea)
    obtain ⟨o, es, ep, h1, h2, _⟩ := p
    exact PySem.W.kia_one PySem.W.kitx_dict I.kIn ⟨o, h1, h2.1⟩ e (fun z => nomatch z) h
  | @dT a kvs ea =>
    cases (show u = Value.ref a from rx)
    obtain ⟨_, _, xs, _, o, es, ep, h1, h2, _⟩ := (show ObjOk X.prog X.w H s.heap a (.dT kvs) from I.hok a _ ea)
    exact PySem.W.kia_one PySem.W.kitx_dict I.kIn ⟨o, h1, h2.1⟩ e (fun z => nomatch z) h
  | @ins a C dx fs ea cl ha hn htk hm =>
    cases (show u = Value.ref a from rx)
    obtain ⟨mA, O, _⟩ := ins_get I.hok ea
    obtain ⟨od, J, _⟩ := O.look
    exact PySem.W.kia_one (PySem.W.kitx_own (cl.get _) cl.hd ha hn htk hm) I.kIn J e (fun z => nomatch z) h
end
end L2

namespace L2
open PySem PySem.Spec PyProof.Rows

structure Room (k : Nat) (A : Around) : Prop where
  hd : A.handled = none
  dp : A.depth + 3 * k + 5 < recursionLimit
  un : A.units + 16 * k + 200 < cLine
private theorem Room.mono {j k : Nat} {A : Around} (r : Room k A) (h : j ≤ k) : Room j A := ⟨r.hd, by have := r.dp; omega, by have := r.un; omega⟩
private theorem Room.deeper {k : Nat} {A : Around} (r : Room (k + 1) A) (env : Env) : Room k (A.deeper env) :=
  ⟨r.hd, by have := r.dp; show A.depth + 1 + 3 * k + 5 < _; omega, by have := r.un; show A.units + 3 + 16 * k + 200 < _; omega⟩
private theorem Room.in1 {k : Nat} {A : Around} (r : Room (k + 1) A) : Room k A.in1 :=
  ⟨r.hd, by have := r.dp; show A.depth + 3 * k + 5 < _; omega, by have := r.un; show A.units + 1 + 16 * k + 200 < _; omega⟩
private theorem make_depth {A : Around} {C : Addr} {us : List Value} {kw : List (Str × Value)} : (A.under (.builtin "type.__call__" ⟨.ref C :: us, kw⟩)).depth = A.depth + 1 := by
  first | rfl | simp [Around.under, Code.weight, Code.isCreation, Code.isGuard, Code.isCaller, Code.frames, Code.isFrame, guardIds]
private theorem make_units {A : Around} {C : Addr} {us : List Value} {kw : List (Str × Value)} : (A.under (.builtin "type.__call__" ⟨.ref C :: us, kw⟩)).units = A.units + 1 := by
  first | rfl | simp [Around.under, Code.cUnits, Code.frames, Code.isFrame]
private theorem Room.make {k : Nat} {A : Around} (r : Room (k + 1) A) (C : Addr) (us : List Value) (kw : List (Str × Value)) : Room k (A.under (.builtin "type.__call__" ⟨.ref C :: us, kw⟩)) :=
  ⟨r.hd, by have := r.dp; rw [make_depth]; omega, by have := r.un; rw [make_units]; omega⟩
private theorem Room.depth {k : Nat} {A : Around} (r : Room k A) : A.depth < recursionLimit := by have := r.dp; omega
private theorem Room.units {k : Nat} {A : Around} (r : Room k A) : A.units + 64 < cLine := by have := r.un; omega

def tNil : TA := fun _ H Q => Q [] H
def tCons (ta : TE) (tr : TA) : TA := fun σ H Q => ta σ H fun x H1 => tr σ H1 fun xs H2 => Q (x :: xs) H2
section
variable {X : Cx} {e : Expr} {es : List Expr} {te : TE} {t : TA} {pos : Pos}
private theorem pa_nil : PA X [] tNil := fun _ _ _ _ H Q I h => Calls.spliced_nil ⟨[], H, I, .nil, h⟩
private theorem pa_cons (ha : PE X e te) (hr : PA X es t) (hs : starEach (e :: es) X.env = (false, eval e X.env) :: starEach es X.env := by rfl) : PA X (e :: es) (tCons te t) := by
  intro pos pins s σ H Q I h
  rw [hs]
  show wpAny _ _ (spliced ((false, eval e X.env) :: backTo pos (starEach es X.env))) _ _ s
  refine Calls.spliced_cons (thn (ha pins s σ H _ I h) fun u s1 ⟨x, H1, I1, r1, q1⟩ => ?_)
  exact thn (hr pos pins s1 σ H1 _ I1 q1) fun us s2 ⟨xs, H2, I2, r2, q2⟩ => ⟨x :: xs, H2, I2, .cons r1 r2, q2⟩

def tTup (t : TA) : TE := fun σ H Q => t σ H fun xs H1 => xs.length ≤ sizeLine ∧ ∀ p, H1 p = none → Q (.ref p) (upd H1 p (.tup xs))
def tLst (t : TA) : TE := fun σ H Q => t σ H fun xs H1 => xs.length ≤ sizeLine ∧ ∀ p, H1 p = none → Q (.ref p) (upd H1 p (.lst xs))
private theorem pe_tup {x1} (h : PA X es t) : PE X (.Tuple es x1 pos) (tTup t) := by
  intro pins s σ H Q I hq
  refine wpAny_Tuple_spliced (thn (h pos pins s σ H _ I hq) fun us s1 ⟨xs, H1, I1, r, z, q⟩ => ⟨by rw [← r.length]; exact z, ?_⟩)
  have hf : H1 s1.heap.objs.size = none := I1.hok.fresh (Nat.le_refl _)
  refine ⟨.ref s1.heap.objs.size, upd H1 s1.heap.objs.size (.tup xs), I1.laid (t' := s1.toks) (fun b u e => Heap.get?_push_of_some _ e) (Nat.le_refl _) ?_, rfl, q _ hf⟩
  exact ⟨z, us, r, ⟨_, Heap.get?_push_size _ rfl, rfl, _, rfl⟩⟩
private theorem pe_lst (h : PA X es t) : PE X (.List es pos) (tLst t) := by
  intro pins s σ H Q I hq
  refine wpAny_List_spliced (thn (h pos pins s σ H _ I hq) fun us s1 ⟨xs, H1, I1, r, z, q⟩ => ⟨by rw [← r.length]; exact z, ?_⟩)
  have hf : H1 s1.heap.objs.size = none := I1.hok.fresh (Nat.le_refl _)
  refine ⟨.ref s1.heap.objs.size, upd H1 s1.heap.objs.size (.lst xs), I1.laid (t' := s1.toks) (fun b u e => Heap.get?_push_of_some _ e) (Nat.le_refl _) ?_, rfl, q _ hf⟩
  exact ⟨z, us, 0, r, Heap.get?_push_size _ rfl⟩
end

abbrev Sp := List V → Hp → VK → XK → Prop
abbrev CXT := List Env → Hp → Shared → XK → Value → Shared → Prop

structure Env0 (P : Program) (w : World) (K : PySem.W.Frag) (mg : Str → Option Value) (base : Heap) (A : Around) (outer : List Env) (s : Shared) (H : Hp) : Prop where
  frames : A.frames = some outer
  mod : Mod K mg base
  bs : ∀ b o, base.get? b = some o → s.heap.get? b = some o ∧ H b = none
  bsz : base.objs.size ≤ s.heap.objs.size
  funs : s.heap.FunFrames base outer
  frf : ∀ b ∈ frs outer, H b = none
  hok : HOk P w H s.heap
  bare : AllBare s.gens
def CE (outer : List Env) (P : Program) (w : World) (H : Hp) (s : Shared) (Q : VK) (u : Value) (s' : Shared) : Prop :=
  ∃ v H', s'.os = s.os ∧ AllBare s'.gens ∧ Un (frs outer) [] H H' s.heap s'.heap ∧ HOk P w H' s'.heap ∧ RelV v u ∧ Q v H'
def CR (CX : CXT) (outer : List Env) (P : Program) (w : World) (H : Hp) (s : Shared) (Q : VK) (E : XK) (r : Result) (s' : Shared) : Prop :=
  match r with
  | .ok (.ret u) => CE outer P w H s Q u s'
  | .ok _ => False
  | .error e => CX outer H s E e s'
structure FnOk (P : Program) (w : World) (K : PySem.W.Frag) (mg : Str → Option Value) (base : Heap) (CX : CXT) (k : Nat) (f : Addr) (fd : FuncData) (ps : List Str) (sp : Sp) : Prop where
  len : ∀ vs H Q E, sp vs H Q E → vs.length = ps.length
  run : ∀ (A : Around) (outer : List Env) (s : Shared) (H : Hp) (args : Args) (us : List Value) (vs : List V) (Q : VK) (E : XK), Room k A → Env0 P w K mg base A outer s H → BindsTo s fd args (ps.zip us) → Vals vs us → sp vs H Q E →
    codeAny (model P w) A (.call (.ref f) args) (CR CX outer P w H s Q E) s
private theorem FnOk.mono {P : Program} {w : World} {K : PySem.W.Frag} {mg : Str → Option Value} {base : Heap} {CX : CXT} {j k : Nat} {f : Addr} {fd : FuncData} {ps : List Str} {sp : Sp} (F : FnOk P w K mg base CX j f fd ps sp) (h : j ≤ k) :
    FnOk P w K mg base CX k f fd ps sp := ⟨F.len, fun A outer s H args us vs Q E hr => F.run A outer s H args us vs Q E (hr.mono h)⟩
private theorem FnOk.imp {P : Program} {w : World} {K : PySem.W.Frag} {mg : Str → Option Value} {base : Heap} {CX : CXT} {k : Nat} {f : Addr} {fd : FuncData} {ps : List Str} {sp sp' : Sp} (F : FnOk P w K mg base CX k f fd ps sp)
    (h : ∀ vs H Q E, sp' vs H Q E → sp vs H Q E) : FnOk P w K mg base CX k f fd ps sp' :=
  ⟨fun vs H Q E q => F.len vs H Q E (h _ _ _ _ q), fun A outer s H args us vs Q E hr he hb hv hs => F.run A outer s H args us vs Q E hr he hb hv (h _ _ _ _ hs)⟩

private theorem Env0.make {P : Program} {w : World} {K : PySem.W.Frag} {mg : Str → Option Value} {base : Heap} {A : Around} {outer : List Env} {s : Shared} {H : Hp} (e : Env0 P w K mg base A outer s H) (C : Addr) (us : List Value) (kw : List (Str × Value)) :
    Env0 P w K mg base (A.under (.builtin "type.__call__" ⟨.ref C :: us, kw⟩)) outer s H := ⟨by first | exact e.frames | (simpa [Around.under, Code.envs, Code.isFrame, pushEnvs] using e.frames), e.mod, e.bs, e.bsz, e.funs, e.frf, e.hok, e.bare⟩
private theorem Env0.in1 {P : Program} {w : World} {K : PySem.W.Frag} {mg : Str → Option Value} {base : Heap} {A : Around} {outer : List Env} {s : Shared} {H : Hp} (e : Env0 P w K mg base A outer s H) :
    Env0 P w K mg base A.in1 outer s H := ⟨e.frames, e.mod, e.bs, e.bsz, e.funs, e.frf, e.hok, e.bare⟩

section
variable {X : Cx} {pins : List (Addr × Obj)} {σ : St} {H : Hp} {s s' : Shared}
private theorem Inv.env0 (I : Inv X pins σ H s) : Env0 X.prog X.w X.K X.mg X.base X.A X.stack s H :=
  ⟨I.ok.frames, I.ok.mod, I.bs, Nat.le_trans I.ok.bsz I.sz, I.stack, I.stkFree, I.hok, I.bare⟩
private theorem Inv.after {Q : VK} {u : Value} (I : Inv X pins σ H s) (h : CE X.stack X.prog X.w H s Q u s') : EP X pins σ Q u s' := by
  obtain ⟨v, H', os, bare, un, hok, r, q⟩ := h
  obtain ⟨hh, g, d, t, os'⟩ := s'
  obtain rfl : os' = s.os := os
  exact ⟨v, H', I.call (h' := hh) (g' := g) (d' := d) (t' := t) (ch := []) un hok bare (fun b z => absurd z (by simp)), r, q⟩
end

def tCall (sp : Sp) (dvs : List V) (E : XK) (t : TA) : TE := fun σ H Q => t σ H fun vs H1 => sp (vs ++ dvs) H1 Q E
def tMeth (C : Addr) (m : Str) (sp : Sp) (dvs : List V) (E : XK) (ta : TE) (t : TA) : TE := fun σ H Q => ta σ H fun x H1 => ∃ a dx fs, x = .ref a ∧ H1 a = some (.ins C dx fs) ∧ fs.lookup m = none ∧
  t σ H1 fun vs H2 => sp (x :: (vs ++ dvs)) H2 Q E
def tMake (C : Addr) (sp : Sp) (dvs : List V) (E : XK) (t : TA) : TE := fun σ H Q => t σ H fun vs H1 => ∀ x dx, H1 x = none → H1 dx = none → dx ≠ x →
  sp (.ref x :: (vs ++ dvs)) (upd (upd H1 dx (.own x)) x (.ins C dx [])) (fun v H2 => v = .non ∧ Q (.ref x) H2) E

def Binds (K : PySem.W.Frag) (fd : FuncData) (ps : List Str) (ds : List Value) : Prop :=
  ∀ (s : Shared) (us : List Value), K.In s.heap → (us ++ ds).length = ps.length → BindsTo s fd ⟨us, []⟩ (ps.zip (us ++ ds))
private theorem Binds.all {K : PySem.W.Frag} {fd : FuncData} {ps : List Str} (h : ∀ us : List Value, us.length = ps.length → bindArgs fd ⟨us, []⟩ = pure (ps.zip us)) : Binds K fd ps [] := fun s us _ hl => by
  rw [List.append_nil] at hl ⊢
  exact .of_eq (h us hl)

def Passes (CX : CXT) (X : Cx) (E : XK) : Prop := ∀ (pins : List (Addr × Obj)) (σ : St) (H : Hp) (s : Shared) (e : Value) (s' : Shared), Inv X pins σ H s → CX X.stack H s E e s' → X.xe e s'

section
variable {X : Cx} {CX : CXT} {k : Nat} {f C : Addr} {fd : FuncData} {ps : List Str} {sp : Sp} {dvs : List V} {ds : List Value} {E : XK} {x m : Str} {p pos apos : Pos} {e o : Expr} {es : List Expr} {ta : TE} {t : TA}

private theorem run_fn {pins : List (Addr × Obj)} {σ : St} {H : Hp} {s : Shared} {Q : VK} {us : List Value} {vs : List V} (F : FnOk X.prog X.w X.K X.mg X.base CX k f fd ps sp) (hr : Room k X.A) (hb : Binds X.K fd ps ds) (hd : Vals dvs ds) (hx : Passes CX X E)
    (I : Inv X pins σ H s) (r : Vals vs us) (h : sp (vs ++ dvs) H Q E) : wpAny (model X.prog X.w) X.A (call (.ref f) us) (EP X pins σ Q) X.xe s := by
  have r2 : Vals (vs ++ dvs) (us ++ ds) := r.append hd
  have hl : (us ++ ds).length = ps.length := by rw [← r2.length]; exact F.len _ _ _ _ h
  refine wpAny_call (codeAny_mono (F.run X.A X.stack s H ⟨us, []⟩ (us ++ ds) (vs ++ dvs) Q E hr I.env0 (hb s us I.kIn hl) r2 h) fun r s' hq => ?_)
  cases r with
  | error e => exact hx pins σ H s e s' I hq
  | ok fl =>
    cases fl with
    | ret u => exact I.after hq
    | next => exact False.elim hq
    | brk => exact False.elim hq
    | cont => exact False.elim hq

private theorem pe_call (F : FnOk X.prog X.w X.K X.mg X.base CX k f fd ps sp) (hr : Room k X.A) (hg : Gl X x) (hm : X.mg x = some (.ref f)) (hk : PySem.W.keepIn X.K (.ref f) = true) (hb : Binds X.K fd ps ds) (hd : Vals dvs ds) (hx : Passes CX X E)
    (ha : PA X (e :: es) t) (hdb : (x == ("__debug__" : Str)) = false := by decide) (he : starEach (e :: es) X.env = (false, eval e X.env) :: starEach es X.env := by rfl) (hpl : (backTo pos (starEach es X.env)).any (·.1) = false := by rfl) :
    PE X (.Call (.Name x p) (e :: es) [] pos) (tCall sp dvs E t) := by
  intro pins s σ H Q I h
  refine wpAny_Call_Name_kw (ld_glob I hg hm ?_ hdb)
  refine PySem.W.callWith_K (h₀ := X.base) I.ok.mod.kin hk (thn (ha pos pins s σ H _ I h) fun us s1 ⟨vs, H1, I1, r, q⟩ => ⟨I1.kIn, ?_⟩) he hpl
  exact run_fn F hr hb hd hx I1 r q

private theorem pe_meth {pl : Sem Bool} (he : PE X o ta) (c : Cls X.K C) (hm : Meth X.K C m f) (F : FnOk X.prog X.w X.K X.mg X.base CX k f fd ps sp) (hr : Room k X.A) (hb : Binds X.K fd ps ds) (hd : Vals dvs ds) (hx : Passes CX X E) (ha : PA X (e :: es) t)
    (hst : starEach (e :: es) X.env = (false, eval e X.env) :: starEach es X.env := by rfl) (hpl : (backTo pos (starEach es X.env)).any (·.1) = false := by rfl)
    (ht : eval (.Call (.Attribute o m apos) (e :: es) [] pos) X.env = (do
      let ov ← eval o X.env
      standAt apos.atName
      let (f, first) ← holding [ov] (getMethod ov m pl)
      callWith pos f first (backTo pos (starEach (e :: es) X.env)) (backToKw pos (keywordEach [] X.env))) := by rfl) :
    PE X (.Call (.Attribute o m apos) (e :: es) [] pos) (tMeth C m sp dvs E ta t) := by
  intro pins s σ H Q I h
  refine PySem.W.methodCall_KW (pl := pl) (thn (he pins s σ H _ I h) fun u s1 ⟨x, H1, I1, rx, a, dx, fs, ex, ea, l, q⟩ => ?_) ht
  subst ex
  obtain rfl : u = Value.ref a := rx
  refine getmeth_ok I1 ea c hm l ?_
  refine PySem.W.callWith_K (first := [.ref a]) (h₀ := X.base) I.ok.mod.kin hm.kp (thn (ha pos pins s1 σ H1 _ I1 q) fun us s2 ⟨vs, H2, I2, r, q2⟩ => ⟨I2.kIn, ?_⟩) hst hpl
  exact run_fn (us := .ref a :: us) (vs := .ref a :: vs) F hr hb hd hx I2 (.cons rfl r) q2
private theorem pe_meth0 {pl : Sem Bool} (he : PE X o ta) (c : Cls X.K C) (hm : Meth X.K C m f) (F : FnOk X.prog X.w X.K X.mg X.base CX k f fd ps sp) (hr : Room k X.A) (hb : Binds X.K fd ps ds) (hd : Vals dvs ds) (hx : Passes CX X E)
    (ht : eval (.Call (.Attribute o m apos) [] [] pos) X.env = (do
      let ov ← eval o X.env
      standAt apos.atName
      let (f, first) ← holding [ov] (getMethod ov m pl)
      callWith pos f first (backTo pos (starEach [] X.env)) (backToKw pos (keywordEach [] X.env))) := by rfl) :
    PE X (.Call (.Attribute o m apos) [] [] pos) (tMeth C m sp dvs E ta tNil) := by
  intro pins s σ H Q I h
  refine PySem.W.methodCall_KW (pl := pl) (thn (he pins s σ H _ I h) fun u s1 ⟨x, H1, I1, rx, a, dx, fs, ex, ea, l, q⟩ => ?_) ht
  subst ex
  obtain rfl : u = Value.ref a := rx
  refine getmeth_ok I1 ea c hm l ?_
  exact PySem.W.callWith_K0 (first := [.ref a]) I1.kIn hm.kp (run_fn (us := [.ref a]) (vs := [.ref a]) F hr hb hd hx I1 (.cons rfl .nil) q)

structure Mk (K : PySem.W.Frag) (C f : Addr) : Prop where
  makes : PySem.W.makesIn K C = true
  init : PySem.W.findIn K (.ref C) "__init__" = some (some (.ref f))
  fn : PySem.W.isFn K (.ref f) = true
  kp : PySem.W.keepIn K (.ref C) = true

private theorem run_make {pins : List (Addr × Obj)} {σ : St} {H : Hp} {s : Shared} {Q : VK} {us : List Value} {vs : List V} (M : Mk X.K C f) (F : FnOk X.prog X.w X.K X.mg X.base CX k f fd ps sp) (hr : Room (k + 1) X.A) (hb : Binds X.K fd ps ds) (hd : Vals dvs ds)
    (hx : Passes CX X E) (I : Inv X pins σ H s) (r : Vals vs us)
    (h : ∀ x dx, H x = none → H dx = none → dx ≠ x → sp (.ref x :: (vs ++ dvs)) (upd (upd H dx (.own x)) x (.ins C dx [])) (fun v H2 => v = .non ∧ Q (.ref x) H2) E) :
    wpAny (model X.prog X.w) X.A (call (.ref C) us) (EP X pins σ Q) X.xe s := by
  have hq := h (s.heap.objs.size + 1) s.heap.objs.size (I.hok.fresh (Nat.le_succ _)) (I.hok.fresh (Nat.le_refl _)) (Nat.ne_of_lt (Nat.lt_succ_self _))
  have I2 := Inv.made (C := C) I
  have r2 : Vals (V.ref (s.heap.objs.size + 1) :: (vs ++ dvs)) (Value.ref (s.heap.objs.size + 1) :: (us ++ ds)) := .cons rfl (r.append hd)
  have hl : (Value.ref (s.heap.objs.size + 1) :: us ++ ds).length = ps.length := by
    have e := r2.length
    rw [F.len _ _ _ _ hq] at e
    exact e.symm
  refine wpAny_call (make_map (f := f) I.kIn M.makes M.init (beq_iff_eq.mp M.fn) (codeAny_mono (F.run _ X.stack _ _ ⟨Value.ref (s.heap.objs.size + 1) :: us, []⟩ (Value.ref (s.heap.objs.size + 1) :: (us ++ ds)) _ _ E (hr.make C us [])
    (I2.env0.make C us []) (hb _ (Value.ref (s.heap.objs.size + 1) :: us) I2.kIn hl) r2 hq) fun r s' hq' => ?_))
  cases r with
  | error e => exact hx pins σ _ _ e s' I2 hq'
  | ok fl =>
    cases fl with
    | ret u =>
      obtain ⟨v, H', I3, rv, ev, q3⟩ := I2.after hq'
      subst ev
      exact ⟨rv, ⟨V.ref (s.heap.objs.size + 1), H', I3, rfl, q3⟩⟩
    | next => exact False.elim hq'
    | brk => exact False.elim hq'
    | cont => exact False.elim hq'
private theorem pe_make0 (M : Mk X.K C f) (F : FnOk X.prog X.w X.K X.mg X.base CX k f fd ps sp) (hr : Room (k + 1) X.A) (hg : Gl X x) (hm : X.mg x = some (.ref C)) (hb : Binds X.K fd ps ds) (hd : Vals dvs ds) (hx : Passes CX X E)
    (hdb : (x == ("__debug__" : Str)) = false := by decide) : PE X (.Call (.Name x p) [] [] pos) (tMake C sp dvs E tNil) := by
  intro pins s σ H Q I h
  refine wpAny_Call_Name_kw (ld_glob I hg hm ?_ hdb)
  exact PySem.W.callWith_K0 I.kIn M.kp (run_make (us := []) M F hr hb hd hx I .nil h)
end

def PK (X : Cx) (kws : List Keyword) (t : TA) : Prop :=
  ∀ (pos : Pos) (pins : List (Addr × Obj)) (s : Shared) (σ : St) (H : Hp) (Q : List V → Hp → Prop), Inv X pins σ H s → t σ H Q → wpAny (model X.prog X.w) X.A (evalAll ((backToKw pos (keywordEach kws X.env)).map (·.2))) (AP X pins σ Q) X.xe s
section
variable {X : Cx} {CX : CXT} {k : Nat} {f C : Addr} {fd : FuncData} {ps ks : List Str} {sp : Sp} {E : XK} {x m : Str} {p pos apos kpos : Pos} {e o : Expr} {es : List Expr} {kws : List Keyword} {te ta : TE} {t tk : TA} {nm : Option Str}

structure KBinds (K : PySem.W.Frag) (fd : FuncData) (ps ks : List Str) (g : List Value → List Value → List Value) (gV : List V → List V → List V) : Prop where
  to : ∀ (s : Shared) (us ws : List Value), K.In s.heap → (g us ws).length = ps.length → BindsTo s fd ⟨us, ks.zip ws⟩ (ps.zip (g us ws))
  rel : ∀ {vs : List V} {us : List Value} {zs : List V} {ws : List Value}, Vals vs us → Vals zs ws → Vals (gV vs zs) (g us ws)
def tCallK (sp : Sp) (gV : List V → List V → List V) (E : XK) (t tk : TA) : TE := fun σ H Q => t σ H fun vs H1 => tk σ H1 fun zs H2 => sp (gV vs zs) H2 Q E
variable {g : List Value → List Value → List Value} {gV : List V → List V → List V}
end

structure FnScope (N P : List Str) (sc : Scope) : Prop where
  kind : sc.kind = .function
  co : sc.isCoroutine = false
  gen : sc.isGenerator = false
  nd : N.Nodup
  pre : N.take P.length = P
  par : ∀ x ∈ P, sc.names.lookup x = some .local ∨ sc.names.lookup x = some .cell
  nofree : ∀ y ∈ sc.names, y.2 ≠ .free

private theorem bindL_out {kindOf : Str → Option NameKind} {x : Str} : ∀ {binds : List (Str × Value)} {m : Str → Option Value}, (∀ v, (x, v) ∉ binds) → bindL kindOf binds m x = m x
  | [], _, _ => rfl
  | (n, v) :: r, m, h => by
    unfold bindL
    rw [bindL_out fun w hw => h w (List.mem_cons_of_mem _ hw)]
    split
    · have : x ≠ n := by rintro rfl; exact h v List.mem_cons_self
      simp [this]
    · rfl
private theorem bindC_out {kindOf : Str → Option NameKind} {x : Str} : ∀ {binds : List (Str × Value)} {m : Str → Option Value}, (∀ v, (x, v) ∉ binds) → bindC kindOf binds m x = m x
  | [], _, _ => rfl
  | (n, v) :: r, m, h => by
    unfold bindC
    rw [bindC_out fun w hw => h w (List.mem_cons_of_mem _ hw)]
    split
    · rfl
    · have : x ≠ n := by rintro rfl; exact h v List.mem_cons_self
      simp [this]
private theorem bindL_get {kindOf : Str → Option NameKind} {x : Str} {v : Value} : ∀ {P : List Str} {vs : List Value} {i : Nat} {m : Str → Option Value}, P.Nodup → P[i]? = some x → vs[i]? = some v → kindOf x = some .local →
    bindL kindOf (P.zip vs) m x = some v
  | [], _, _, _, _, h, _, _ => by simp at h
  | _ :: _, [], _, _, _, _, h, _ => by simp at h
  | p :: P, w :: vs, 0, m, nd, h1, h2, hk => by
    simp at h1 h2; subst h1; subst h2
    show bindL kindOf ((p, w) :: P.zip vs) m p = _
    unfold bindL
    rw [bindL_out fun v hv => (List.nodup_cons.mp nd).1 (List.of_mem_zip hv).1, if_pos hk]
    simp
  | p :: P, w :: vs, i + 1, m, nd, h1, h2, hk => by
    show bindL kindOf ((p, w) :: P.zip vs) m x = _
    unfold bindL
    exact bindL_get (i := i) (List.nodup_cons.mp nd).2 (by simpa using h1) (by simpa using h2) hk
private theorem bindC_get {kindOf : Str → Option NameKind} {x : Str} {v : Value} : ∀ {P : List Str} {vs : List Value} {i : Nat} {m : Str → Option Value}, P.Nodup → P[i]? = some x → vs[i]? = some v → kindOf x ≠ some .local →
    bindC kindOf (P.zip vs) m x = some v
  | [], _, _, _, _, h, _, _ => by simp at h
  | _ :: _, [], _, _, _, _, h, _ => by simp at h
  | p :: P, w :: vs, 0, m, nd, h1, h2, hk => by
    simp at h1 h2; subst h1; subst h2
    show bindC kindOf ((p, w) :: P.zip vs) m p = _
    unfold bindC
    rw [bindC_out fun v hv => (List.nodup_cons.mp nd).1 (List.of_mem_zip hv).1, if_neg hk]
    simp
  | p :: P, w :: vs, i + 1, m, nd, h1, h2, hk => by
    show bindC kindOf ((p, w) :: P.zip vs) m x = _
    unfold bindC
    exact bindC_get (i := i) (List.nodup_cons.mp nd).2 (by simpa using h1) (by simpa using h2) hk

def start (N : List Str) (vs : List V) : St := vs.map some ++ List.replicate (N.length - vs.length) none

def cxOf (CX : CXT) (P : Program) (w : World) (K : PySem.W.Frag) (mg : Str → Option Value) (base : Heap) (N : List Str) (qual : Str) (scope : Scope) (f : Addr) (cd : Value) (A : Around) (outer : List Env) (s : Shared) (H : Hp) (E : XK) : Cx where
  prog := P
  w := w
  K := K
  mg := mg
  base := base
  A := A.deeper (envOfC qual scope s.heap.objs.size f cd)
  N := N
  s₀ := s
  H₀ := H
  env := envOfC qual scope s.heap.objs.size f cd
  outer := outer
  stack := envOfC qual scope s.heap.objs.size f cd :: outer
  ex := []
  calm := true
  fn := fun _ => true
  pn := []
  xe := fun e s' => wpAny (model P w) (A.deeper (envOfC qual scope s.heap.objs.size f cd)) (leaving (envOfC qual scope s.heap.objs.size f cd) e) (fun _ s'' => CX outer H s E e s'') (fun e' s'' => CX outer H s E e' s'') s'

private theorem cell_has {sc : Scope} {n : Nat} {x : Str} (h : sc.names.lookup x = some .cell) : ∃ c, (cellsFrom n sc.names []).lookup x = some c := by
  have q := PySem.W.cellsFrom_some sc.names n [] (.inl h)
  exact Option.isSome_iff_exists.mp q

private theorem inv_start {CX : CXT} {P : Program} {w : World} {K : PySem.W.Frag} {mg : Str → Option Value} {base : Heap} {N ps : List Str} {qual : Str} {scope : Scope} {f : Addr} {cd : Value} {A : Around} {outer : List Env} {s s1 : Shared} {H : Hp} {E : XK} {us : List Value} {vs : List V}
    (S : FnScope N ps scope) (hd : A.handled = none) (e0 : Env0 P w K mg base A outer s H) (hl : vs.length = ps.length) (r : Vals vs us)
    (x : InCallC s s.heap.objs.size (bindL (envOfC qual scope s.heap.objs.size f cd).kindOf (ps.zip us) fun _ => none) (cellsFrom (s.heap.objs.size + 1) scope.names []) (bindC (envOfC qual scope s.heap.objs.size f cd).kindOf (ps.zip us) fun _ => none) s1) :
    Inv (cxOf CX P w K mg base N qual scope f cd A outer s H E) [] (start N vs) H s1 := by
  have hpl : ps.length ≤ N.length := by have := congrArg List.length S.pre; rw [List.length_take] at this; omega
  obtain ⟨h1, tk, rfl, hk⟩ := x.done
  have noA : ∀ b : Addr, b ∉ (cxOf CX P w K mg base N qual scope f cd A outer s H E).ex := fun b z => absurd (show b ∈ ([] : List Addr) from z) (by simp)
  refine ⟨⟨e0.mod, S.kind, rfl, rfl, Nat.le_refl _, fun y z c h1 h2 => ?_, fun y hy => ?_, fun y c _ h => ?_, fun _ => hd, Around.frames_deeper e0.frames, .inr ⟨rfl, rfl⟩, fun b z => absurd z (noA b), e0.bs, e0.bsz, fun b _ _ => noA b, fun b z => absurd z (noA b), e0.funs, e0.frf⟩,
    rfl, e0.bare, Un.kept hk, ⟨_, x.toInCall.ns, fun i y v h1 h2 h3 => ?_⟩, fun y c h => ⟨_, x.cell y c h⟩, e0.hok.fresh (Nat.le_refl _), fun y c h => ?_, fun p hp => absurd (show p ∈ ([] : List (Addr × Obj)) from hp) (by simp), e0.hok.kept hk, ?_⟩
  · exact name_of_addr x.apart (PySem.mem_of_lookup h1) (PySem.mem_of_lookup h2)
  · have hy : scope.names.lookup y = some .cell ∨ scope.names.lookup y = some .free := hy
    rcases hy with hy | hy
    · exact cell_has hy
    · exact absurd rfl (S.nofree _ (PySem.mem_of_lookup hy))
  · exact Nat.le_of_lt (x.above y c (PySem.mem_of_lookup h))
  · have hi : i < vs.length := by
      unfold start at h2
      by_cases hi : i < vs.length
      · exact hi
      · rw [List.getElem?_append_right (by simpa using hi)] at h2
        rw [List.getElem?_replicate] at h2
        split at h2 <;> cases h2
    have ha : vs[i]? = some v := by
      unfold start at h2
      rw [List.getElem?_append_left (by simpa using hi), List.getElem?_map] at h2
      cases e : vs[i]? with
      | none => rw [e] at h2; cases h2
      | some a => rw [e] at h2; cases h2; rfl
    obtain ⟨u, hu, rv⟩ := r.get ha
    have hp : ps[i]? = some y := by
      rw [← S.pre, List.getElem?_take_of_lt (by omega)]; exact h1
    have ndP : ps.Nodup := by rw [← S.pre]; exact S.nd.sublist (List.take_sublist _ _)
    refine ⟨u, rv, ?_⟩
    rcases S.par y (List.mem_of_getElem? hp) with k | k
    · exact .inl ⟨k, bindL_get ndP hp hu k⟩
    · obtain ⟨c, e⟩ := cell_has (n := s.heap.objs.size + 1) k
      refine .inr ⟨.inl k, c, e, ?_⟩
      have q := x.cell y c e
      rw [bindC_get ndP hp hu (by show scope.names.lookup y ≠ _; rw [k]; decide)] at q
      exact q
  · exact e0.hok.fresh (Nat.le_of_lt (x.above y c (PySem.mem_of_lookup h)))
  · unfold start
    show _ = N.length
    rw [List.length_append, List.length_map, List.length_replicate]
    omega

private theorem fn_of {CX : CXT} {P : Program} {w : World} {K : PySem.W.Frag} {mg : Str → Option Value} {base : Heap} {k : Nat} {f : Addr} {name qual : Str} {params : Arguments} {body : List Stmt} {scope : Scope} {dV kV doc pm cdv ct oc : Value} {an od : Option Addr}
    {osl : Array (Option Value)} {N ps : List Str} {sp : Sp} (lk : K.lookup f = some ⟨oc, od, .func (PySem.W.fnOf name qual params body scope dV kV doc pm an cdv ct), osl⟩) (hcd : PySem.W.codeIn K cdv qual = true) (S : FnScope N ps scope)
    (len : ∀ vs H Q E, sp vs H Q E → vs.length = ps.length)
    (hbody : ∀ (A : Around) (outer : List Env) (s : Shared) (H : Hp) (vs : List V) (Q : VK) (E : XK), Room k (A.deeper (envOfC qual scope s.heap.objs.size f cdv)) → sp vs H Q E →
      ∃ t, PSs (cxOf CX P w K mg base N qual scope f cdv A outer s H E) body t ∧ t { nx := fun _ H' => Q .non H', rt := Q } (start N vs) H) :
    FnOk P w K mg base CX (k + 1) f (PySem.W.fnOf name qual params body scope dV kV doc pm an cdv ct) ps sp := by
  refine ⟨len, fun A outer s H args us vs Q E hr e0 hb r hsp => ?_⟩
  have hl := len _ _ _ _ hsp
  have KX : K.In s.heap := e0.mod.kin.keeps fun b o e => (e0.bs b o e).1
  have lim : s.heap.NoLimit := e0.mod.nolimit.keeps fun b o e => (e0.bs b o e).1
  have hkind : ∀ y ∈ ps.zip us, scope.names.lookup y.1 = some .local ∨ (scope.names.lookup y.1 = some .cell ∧ ((cellsFrom (s.heap.objs.size + 1) scope.names []).lookup y.1).isSome = true) := fun ⟨n, v⟩ hy => by
    rcases S.par n (List.of_mem_zip hy).1 with q | q
    · exact .inl q
    · exact .inr ⟨q, PySem.W.cellsFrom_some _ _ _ (.inl q)⟩
  refine codeAny_call_function hr.depth (KX _ _ lk) rfl S.co S.gen rfl (PySem.W.codeRec_of KX hcd) (hb _ _ _ _ ?_)
  refine wpAny_newFunctionEnv_cells S.kind hkind fun env he s1 x => ?_
  subst he
  refine ⟨lim.keeps x.toInCall.keep, codeAny_func ?_⟩
  obtain ⟨t, ht, hq⟩ := hbody A outer s H vs Q E (hr.deeper _) hsp
  have I : Inv (cxOf CX P w K mg base N qual scope f cdv A outer s H E) [] (start N vs) H s1 := inv_start S hr.hd e0 hl r x
  refine wpAny_mono (ht [] s1 (start N vs) H _ I hq) (fun fl s' hs => ?_) fun e s' hs => hs
  have fin : ∀ {σ' : St} {H' : Hp} {v : V} {u : Value}, Inv (cxOf CX P w K mg base N qual scope f cdv A outer s H E) [] σ' H' s' → RelV v u → Q v H' → CE outer P w H s Q u s' :=
    fun {σ' H' v u} J rv q => ⟨v, H', J.os, J.bare, J.base, J.hok, rv, q⟩
  cases fl with
  | ret u =>
    obtain ⟨v, σ', H', J, rv, q⟩ := hs
    exact fin J rv q
  | next =>
    obtain ⟨σ', H', J, q⟩ := hs
    exact fin (v := V.non) (u := Value.none) J rfl q
  | brk =>
    obtain ⟨_, _, _, q⟩ := hs
    exact False.elim q
  | cont =>
    obtain ⟨_, _, _, q⟩ := hs
    exact False.elim q
end L2

namespace L2
open PySem PySem.Spec PyProof.Rows
section
variable {X : Cx} {x : Str} {p pos : Pos} {e : Expr} {es : List Expr} {t : TA} {id T : String} {r : List V → Hp → VK → Prop}

def tCB (r : List V → Hp → VK → Prop) (t : TA) : TE := fun σ H Q => t σ H fun vs H1 => r vs H1 Q
private theorem pe_callB (hc : CallR X (.builtin id) r) (hg : Gl X x) (hm : X.mg x = none) (hv : bootBuiltins x = some (.builtin id)) (ha : PA X (e :: es) t) (hn : x ≠ "__name__" := by decide) (hdb : (x == ("__debug__" : Str)) = false := by decide)
    (he : starEach (e :: es) X.env = (false, eval e X.env) :: starEach es X.env := by rfl) (hpl : (backTo pos (starEach es X.env)).any (·.1) = false := by rfl) : PE X (.Call (.Name x p) (e :: es) [] pos) (tCB r t) := by
  intro pins s σ H Q I h
  refine wpAny_Call_Name_kw (ld_blt I hg hm hv ?_ hn hdb)
  exact PyProof.Rows.callWith_builtin1 (thn (ha pos pins s σ H _ I h) fun us s1 ⟨vs, H1, I1, r1, q1⟩ => hc pins s1 σ H1 vs us Q I1 r1 q1) he hpl
private theorem pe_callTy (hc : CallR X (.type T) r) (hg : Gl X x) (hm : X.mg x = none) (hv : bootBuiltins x = some (.type T)) (ha : PA X (e :: es) t) (hn : x ≠ "__name__" := by decide) (hdb : (x == ("__debug__" : Str)) = false := by decide)
    (he : starEach (e :: es) X.env = (false, eval e X.env) :: starEach es X.env := by rfl) (hpl : (backTo pos (starEach es X.env)).any (·.1) = false := by rfl) : PE X (.Call (.Name x p) (e :: es) [] pos) (tCB r t) := by
  intro pins s σ H Q I h
  refine wpAny_Call_Name_kw (ld_blt I hg hm hv ?_ hn hdb)
  exact PyProof.Rows.callWith_type1 (thn (ha pos pins s σ H _ I h) fun us s1 ⟨vs, H1, I1, r1, q1⟩ => hc pins s1 σ H1 vs us Q I1 r1 q1) he hpl
end
end L2

namespace HT
open PySem PyProof.Rows

def lexLt : List Int → List Int → Bool
  | [], [] => false
  | [], _ :: _ => true
  | _ :: _, [] => false
  | x :: xs, y :: ys => if x = y then lexLt xs ys else decide (x < y)
private theorem lexLt_cons (x y : Int) (xs ys : List Int) : lexLt (x :: xs) (y :: ys) = if x = y then lexLt xs ys else decide (x < y) := rfl


section
open PySem.SeqAt
open PySem.AutoSeq1 (wpAny_loadPart')
open PySem.MeetsSeq PySem.MeetsSeq2 PySem.MeetsSeq3

end

section
variable {prog : Program} {w : World} {A : Around} {E : Value → Shared → Prop} {s : Shared}



def sIx (n d : Nat) : Option Int → Nat
  | none => d
  | some v => if v < 0 then (v + (n : Int)).toNat else min v.toNat n
private theorem sIx_none (n d : Nat) : sIx n d none = d := rfl
private theorem sIx_nat (n d k : Nat) : sIx n d (some (k : Int)) = min k n := by
  show (if (k : Int) < 0 then ((k : Int) + (n : Int)).toNat else min (k : Int).toNat n) = min k n
  rw [if_neg (by omega), Int.toNat_natCast]
private theorem sIx_le (n d : Nat) (hd : d ≤ n) (o : Option Int) : sIx n d o ≤ n := by
  cases o with
  | none => exact hd
  | some v =>
    show (if v < 0 then (v + (n : Int)).toNat else min v.toNat n) ≤ n
    by_cases hv : v < 0
    · rw [if_pos hv]; omega
    · rw [if_neg hv]; exact Nat.min_le_right _ _
private theorem clip_eq (v : Int) (n d : Nat) : (if v < 0 then max (v + (n : Int)) 0 else min v (n : Int)) = ((sIx n d (some v) : Nat) : Int) := by
  show (if v < 0 then max (v + (n : Int)) 0 else min v (n : Int)) = (((if v < 0 then (v + (n : Int)).toNat else min v.toNat n) : Nat) : Int)
  by_cases hv : v < 0
  · simp only [if_pos hv]; omega
  · simp only [if_neg hv]; omega

end
end HT

namespace L2
open PySem PySem.Spec PyProof.Rows

abbrev TO := St → Hp → (Option Int → Hp → Prop) → Prop
def PO (X : Cx) (e : Option Expr) (t : TO) : Prop :=
  ∀ (pins : List (Addr × Obj)) (s : Shared) (σ : St) (H : Hp) (Q : Option Int → Hp → Prop), Inv X pins σ H s → t σ H Q →
    wpAny (model X.prog X.w) X.A (evalPart e X.env) (fun u s' => ∃ o H', Inv X pins σ H' s' ∧ IsPart u o ∧ Q o H') X.xe s
def tNoPart : TO := fun _ H Q => Q none H
def tPart (t : TE) : TO := fun σ H Q => t σ H fun x H1 => ∃ i, x = .int i ∧ Q (some i) H1


section
variable {X : Cx} {e : Expr} {te : TE} {lo hi : Option Expr} {tl th : TO} {pos p2 : Pos}

private theorem po_none : PO X none tNoPart := by
  intro pins s σ H Q I h
  rw [evalPart_none]
  exact wpAny_pure ⟨none, H, I, .none, h⟩
private theorem po_some (h : PE X e te) : PO X (some e) (tPart te) := by
  intro pins s σ H Q I hw
  rw [evalPart_some]
  refine thn (h pins s σ H _ I hw) fun u s1 ⟨x, H1, I1, r1, q1⟩ => ?_
  obtain ⟨i, rfl, q⟩ := q1
  obtain ⟨t, rfl⟩ := r1
  exact ⟨some i, H1, I1, .int i t, q⟩

def SlR (X : Cx) (r : V → Option Int → Option Int → Hp → VK → Prop) : Prop :=
  ∀ (pins : List (Addr × Obj)) (s : Shared) (σ : St) (H : Hp) (x : V) (v vl vu : Value) (lo hi : Option Int) (sl : Addr) (Q : VK), Inv X pins σ H s → RelV x v → s.heap.IsSliceOf sl vl vu .none → IsPart vl lo → IsPart vu hi → r x lo hi H Q →
    ∃ T id, typeLookup (.type T) "__getitem__" = pure (some (.builtin id)) ∧ s.TypeIs v T ∧ wpAny (model X.prog X.w) X.A (getItem v (.ref sl)) (EP X pins σ Q) X.xe s
private theorem SlR.or {r r' : V → Option Int → Option Int → Hp → VK → Prop} (h : SlR X r) (h' : SlR X r') : SlR X (fun x lo hi H Q => r x lo hi H Q ∨ r' x lo hi H Q) := by
  intro pins s σ H x v vl vu lo hi sl Q I rx hs pl pu q
  rcases q with q | q
  · exact h pins s σ H x v vl vu lo hi sl Q I rx hs pl pu q
  · exact h' pins s σ H x v vl vu lo hi sl Q I rx hs pl pu q
def tSl (r : V → Option Int → Option Int → Hp → VK → Prop) (te : TE) (tl th : TO) : TE := fun σ H Q => te σ H fun x H1 => tl σ H1 fun l H2 => th σ H2 fun u H3 => r x l u H3 Q
private theorem pe_slice {r : V → Option Int → Option Int → Hp → VK → Prop} (hr : SlR X r) (he : PE X e te) (hl : PO X lo tl) (hu : PO X hi th) : PE X (.Subscript e (.Slice lo hi none p2) pos) (tSl r te tl th) := by
  intro pins s σ H Q I h
  refine Subscript_ (thn (he pins s σ H _ I h) fun v s1 ⟨x, H1, I1, r1, q1⟩ => ?_)
  refine wpAny_Slice (thn (hl pins s1 σ H1 _ I1 q1) fun vl s2 ⟨l, H2, I2, pl, q2⟩ => thn (hu pins s2 σ H2 _ I2 q2) fun vu s3 ⟨u, H3, I3, pu, q3⟩ => ?_)
  rw [evalPart_none]
  refine wpAny_pure ?_
  have I4 : Inv X pins σ H3 { s3 with heap := s3.heap.push { cls := .type "slice", data := .fields #[vl, vu, .none] } } := I3.kept (t' := s3.toks) fun b ob q => Heap.get?_push_of_some _ q
  obtain ⟨T, id, hT, ht, hg⟩ := hr pins { s3 with heap := s3.heap.push { cls := .type "slice", data := .fields #[vl, vu, .none] } } σ H3 x v vl vu l u s3.heap.objs.size Q I4 r1 (Heap.IsSliceOf.new ..) pl pu q3
  show wpAny (model X.prog X.w) X.A (subscriptTail e (.Slice lo hi none p2) v (.ref s3.heap.objs.size)) (EP X pins σ Q) X.xe { s3 with heap := s3.heap.push { cls := .type "slice", data := .fields #[vl, vu, .none] } }
  exact tail_any (ops := [.ref s3.heap.objs.size, v]) ht hT hg (by with_unfolding_all rfl)

def cutV (xs : List V) (lo hi : Option Int) : List V := (xs.drop (HT.sIx xs.length 0 lo)).take (HT.sIx xs.length xs.length hi - HT.sIx xs.length 0 lo)
private theorem cutV_length (xs : List V) (lo hi : Option Int) : (cutV xs lo hi).length ≤ xs.length := by
  unfold cutV
  rw [List.length_take, List.length_drop]
  omega
def rSlT (K : PySem.W.Frag) : V → Option Int → Option Int → Hp → VK → Prop := fun x lo hi H Q => ∃ a xs, x = .ref a ∧ SqT K H a xs ∧
  ¬ (HT.sIx xs.length 0 lo = 0 ∧ HT.sIx xs.length xs.length hi = xs.length) ∧ ∀ p, H p = none → Q (.ref p) (upd H p (.tup (cutV xs lo hi)))

def rLtT (K : PySem.W.Frag) : R2 := fun x y H Q => ∃ a b ns ms, x = .ref a ∧ y = .ref b ∧ SqT K H a (ns.map V.int) ∧ SqT K H b (ms.map V.int) ∧ Q (.bl (HT.lexLt ns ms)) H
def rCatT (K : PySem.W.Frag) : R2 := fun x y H Q => ∃ a b xs ys, x = .ref a ∧ y = .ref b ∧ SqT K H a xs ∧ SqT K H b ys ∧ xs ≠ [] ∧ xs.length + ys.length ≤ sizeLine ∧
  (ys = [] → Q (.ref a) H) ∧ (ys ≠ [] → ∀ p, H p = none → Q (.ref p) (upd H p (.tup (xs ++ ys))))
end
end L2

namespace L2
open PySem PySem.Spec PyProof.Rows

def ixN (n : Nat) (i : Int) : Option Nat := if 0 ≤ i then (if i < n then some i.toNat else none) else if -(n : Int) ≤ i then some (i + n).toNat else none
def atI {α : Type} (xs : List α) (i : Int) : Option α := (ixN xs.length i).bind fun j => xs[j]?
private theorem ixN_seq {n : Nat} {i : Int} {j : Nat} (h : ixN n i = some j) : seqIndex? i n = some j ∧ j < n ∧ -(n : Int) ≤ i ∧ i < n := by
  unfold ixN at h
  by_cases h0 : 0 ≤ i
  · rw [if_pos h0] at h
    by_cases h1 : i < n
    · rw [if_pos h1] at h
      have e : i.toNat = j := Option.some.inj h
      exact ⟨by rw [seqIndex_of h0 h1, e], by omega, by omega, h1⟩
    · rw [if_neg h1] at h; cases h
  · rw [if_neg h0] at h
    by_cases h1 : -(n : Int) ≤ i
    · rw [if_pos h1] at h
      have e : (i + n).toNat = j := Option.some.inj h
      exact ⟨by rw [seqIndex_neg (by omega) h1, e], by omega, h1, by omega⟩
    · rw [if_neg h1] at h; cases h
private theorem atI_get {α : Type} {xs : List α} {i : Int} {v : α} (h : atI xs i = some v) : ∃ j, seqIndex? i xs.length = some j ∧ xs[j]? = some v ∧ j < xs.length ∧ -(xs.length : Int) ≤ i ∧ i < xs.length := by
  unfold atI at h
  cases e : ixN xs.length i with
  | none => rw [e] at h; cases h
  | some j =>
    rw [e] at h
    obtain ⟨h1, h2, h3, h4⟩ := ixN_seq e
    exact ⟨j, h1, h, h2, h3, h4⟩
private theorem atI_nat {α : Type} {xs : List α} {j : Nat} {v : α} (h : xs[j]? = some v) : atI xs (j : Int) = some v := by
  have hj : j < xs.length := (List.getElem?_eq_some_iff.mp h).1
  have e : ixN xs.length (j : Int) = some j := by
    unfold ixN
    rw [if_pos (by omega), if_pos (by omega)]; simp
  unfold atI; rw [e]; exact h

def PlainIx (b : Expr) : Prop := ∀ o i, subscripted b false o i = operate [o, i] (getItem o i)
def IxR (X : Cx) (r : R2) : Prop :=
  ∀ (value slice : Expr) (pins : List (Addr × Obj)) (s : Shared) (σ : St) (H : Hp) (x y : V) (v u : Value) (Q : VK), Inv X pins σ H s → RelV x v → RelV y u → r x y H Q →
    subscripted slice false v u = operate [v, u] (getItem v u) → wpAny (model X.prog X.w) X.A (subscriptTail value slice v u) (EP X pins σ Q) X.xe s
def MtR (X : Cx) (id : String) (r : V → List V → Hp → VK → Prop) : Prop :=
  ∀ (pins : List (Addr × Obj)) (s : Shared) (σ : St) (H : Hp) (x : V) (xs : List V) (v : Value) (us : List Value) (Q : VK), Inv X pins σ H s → RelV x v → Vals xs us → r x xs H Q →
    wpAny (model X.prog X.w) X.A (call (.builtin id) (v :: us)) (EP X pins σ Q) X.xe s
section
variable {X : Cx} {a b : Expr} {ta tb : TE} {pos : Pos}
private theorem IxR.or {r r' : R2} (h : IxR X r) (h' : IxR X r') : IxR X (fun x y H Q => r x y H Q ∨ r' x y H Q) := by
  intro value slice pins s σ H x y v u Q I rx ry q hs
  rcases q with q | q
  · exact h value slice pins s σ H x y v u Q I rx ry q hs
  · exact h' value slice pins s σ H x y v u Q I rx ry q hs
private theorem MtR.or {id : String} {r r' : V → List V → Hp → VK → Prop} (h : MtR X id r) (h' : MtR X id r') : MtR X id (fun x xs H Q => r x xs H Q ∨ r' x xs H Q) := by
  intro pins s σ H x xs v us Q I rx rs q
  rcases q with q | q
  · exact h pins s σ H x xs v us Q I rx rs q
  · exact h' pins s σ H x xs v us Q I rx rs q
private theorem pe_ix {r : R2} (hr : IxR X r) (ha : PE X a ta) (hb : PE X b tb) (hs : PlainIx b) : PE X (.Subscript a b pos) (tOp r ta tb) := by
  intro pins s σ H Q I h
  exact Subscript_ (binT ha hb I h fun v u s2 x y H2 I2 rx ry q => hr a b pins s2 σ H2 x y v u Q I2 rx ry q (hs _ _))

def rIxL (K : PySem.W.Frag) : R2 := fun x y H Q => ∃ p xs i v, x = .ref p ∧ y = .int i ∧ SqL K H p xs ∧ atI xs i = some v ∧ Q v H
def rIxT (K : PySem.W.Frag) : R2 := fun x y H Q => ∃ p xs i v, x = .ref p ∧ y = .int i ∧ SqT K H p xs ∧ atI xs i = some v ∧ Q v H
def rIxS : R2 := fun x y H Q => ∃ z i c, x = .str z ∧ y = .int i ∧ z.length ≤ sizeLine ∧ atI z.cps.toList i = some c ∧ Q (.str ⟨#[c]⟩) H
private theorem ix_list : IxR X (rIxL X.K) := by
  intro value slice pins s σ H x y v u Q I rx ry h hs
  obtain ⟨p, xs, i, z, rfl, rfl, hq, he, q⟩ := h
  cases rx
  obtain ⟨t, rfl⟩ := ry
  obtain ⟨its, r, pl, hz⟩ := I.list hq
  obtain ⟨j, h1, h2, h3, h4, h5⟩ := atI_get he
  obtain ⟨w, ew, rw'⟩ := r.get h2
  have hl := r.length
  have hn := line63
  have fin : EP X pins σ Q w s := ⟨z, H, I, rw', q⟩
  by_cases h0 : 0 ≤ i
  · have hj : i.toNat = j := by
      rw [seqIndex_of h0 h5] at h1
      exact Option.some.inj h1
    exact item_listR pl.isList h0 (by omega) (by rw [hj]; simpa using ew) fin hs
  · have hj : (i + (its.toArray.size : Int)).toNat = j := by
      rw [seqIndex_neg (by omega) h4] at h1
      rw [List.size_toArray, ← hl]
      exact Option.some.inj h1
    exact subscriptTail_builtinR (x := w) pl.isList.typeIs slot_list_getitem.lookup
      (wpAny_getItem_list_neg (Q := fun r s' => r = w ∧ EP X pins σ Q r s') pl.isList (by omega) (by rw [List.size_toArray] <;> omega) (by omega) (by rw [hj]; simpa using ew) ⟨rfl, fin⟩) hs
private theorem ix_str : IxR X rIxS := by
  intro value slice pins s σ H x y v u Q I rx ry h hs
  obtain ⟨z, i, c, rfl, rfl, hz, he, q⟩ := h
  obtain ⟨t, rfl⟩ := rx
  obtain ⟨t', rfl⟩ := ry
  obtain ⟨j, h1, h2, h3, h4, h5⟩ := atI_get he
  have hl : z.cps.toList.length = z.length := by simp [Str.length]
  rw [hl] at h1 h4 h5
  have hn := line63
  exact tail_any (typeIs_str s z t) slot_str_getitem.lookup (getItem_str (c := c) (by
    have e1 : decide (i < -(2 ^ 63 : Int)) = false := decide_eq_false (by omega)
    have e2 : decide (i ≥ 2 ^ 63) = false := decide_eq_false (by omega)
    rw [e1, e2, Bool.or_false]) (by rw [h1]; simpa using h2) ⟨.str ⟨#[c]⟩, H, I.tok _, ⟨_, rfl⟩, q⟩) hs
def rIx (K : PySem.W.Frag) : R2 := fun x y H Q => rIxL K x y H Q ∨ rIxT K x y H Q ∨ rIxS x y H Q

private theorem mapSeq_set (its : List Value) (n j : Nat) (u : Value) : Obj.mapSeq (·.setIfInBounds j u) { cls := .type "list", data := .seq its.toArray n } = { cls := .type "list", data := .seq (its.set j u).toArray n } := by
  simp [Obj.mapSeq]
private theorem Inv.lst {pins : List (Addr × Obj)} {σ : St} {H : Hp} {s : Shared} {p : Addr} {xs : List V} (I : Inv X pins σ H s) (h : H p = some (.lst xs)) :
    ∃ (its : List Value) (n : Nat), Vals xs its ∧ s.heap.get? p = some { cls := .type "list", data := .seq its.toArray n } ∧ xs.length ≤ sizeLine := by
  obtain ⟨z, its, n, r, e⟩ := I.hok p _ h
  exact ⟨its, n, r, e, z⟩
private theorem Inv.lstUpd {pins : List (Addr × Obj)} {σ : St} {H : Hp} {s : Shared} {p : Addr} {xs ys : List V} {its its' : List Value} {n n' : Nat} {f : Obj → Obj} (I : Inv X pins σ H s) (h : H p = some (.lst xs))
    (ho : s.heap.get? p = some { cls := .type "list", data := .seq its.toArray n }) (hf : f { cls := .type "list", data := .seq its.toArray n } = { cls := .type "list", data := .seq its'.toArray n' }) (r : Vals ys its') (hz : ys.length ≤ sizeLine) (t : Nat) :
    Inv X pins σ (upd H p (.lst ys)) { s with heap := s.heap.update p f, toks := t } := by
  have e : (s.heap.update p f).get? p = some { cls := .type "list", data := .seq its'.toArray n' } := by
    rw [Heap.get?_update_self f ho (by rw [hf] <;> rfl), hf]
  refine I.write (x := p) (e := p) (by rw [h]; trivial) (.inl rfl) (fun b u hb q => (Heap.get?_update_other _ _ (Ne.symm hb)).trans q) ⟨_, e⟩ ?_
  exact ⟨hz, its', n', r, e⟩
def rSetL : V → V → V → Hp → (Hp → Prop) → Prop := fun o i v H Q => ∃ p xs k j, o = .ref p ∧ i = .int k ∧ H p = some (.lst xs) ∧ ixN xs.length k = some j ∧ Q (upd H p (.lst (xs.set j v)))
private theorem set_list : PSet X rSetL := by
  intro pins s σ H o i v ov iv u Q I ro ri rv h
  obtain ⟨p, xs, k, j, rfl, rfl, hp, hj, q⟩ := h
  cases ro
  obtain ⟨t, rfl⟩ := ri
  obtain ⟨its, n, r, ho, hz⟩ := I.lst hp
  obtain ⟨h1, h2, h3, h4⟩ := ixN_seq hj
  have hl := r.length
  have hn := line63
  have I' : Inv X pins σ (upd H p (.lst (xs.set j v))) { s with heap := s.heap.update p (Obj.mapSeq (·.setIfInBounds j u)) } :=
    I.lstUpd hp ho (mapSeq_set its n j u) (r.set rv j) (by rw [List.length_set]; exact hz) s.toks
  by_cases h0 : 0 ≤ k
  · have hk : k.toNat = j := by
      rw [seqIndex_of h0 h4] at h1
      exact Option.some.inj h1
    exact PySem.W.ki_setAt ho h0 (by omega) (by rw [List.size_toArray, ← hl]; exact h4) (by rw [hk]; exact ⟨_, I', q⟩)
  · have hk : (k + (its.toArray.size : Int)).toNat = j := by
      rw [seqIndex_neg (by omega) h3] at h1
      rw [List.size_toArray, ← hl]
      exact Option.some.inj h1
    exact PySem.W.ki_setBack ho (by omega) (by rw [List.size_toArray, ← hl]; exact h3) (by omega) (by rw [hk]; exact ⟨_, I', q⟩)

private theorem clip2 (i : Int) (n d : Nat) : max 0 (min (if i < 0 then i + (n : Int) else i) (n : Int)) = ((HT.sIx n d (some i) : Nat) : Int) := by
  simp only [HT.sIx]
  by_cases h : i < 0
  · simp only [h, if_true] <;> omega
  · simp only [h, if_false] <;> omega
private theorem slice_bounds (lo hi : Option Int) (n : Nat) : (sliceBounds lo hi none n).1 = ((HT.sIx n 0 lo : Nat) : Int) ∧ (sliceBounds lo hi none n).2.1 = ((HT.sIx n n hi : Nat) : Int) ∧ (sliceBounds lo hi none n).2.2 = 1 := by
  refine ⟨?_, ?_, rfl⟩
  · cases lo with
    | none => simp [sliceBounds, HT.sIx]
    | some i => (simp only [sliceBounds, Option.getD_none, show (1 : Int) > 0 by decide, if_true]; exact clip2 i n 0)
  · cases hi with
    | none => simp [sliceBounds, HT.sIx]
    | some i => (simp only [sliceBounds, Option.getD_none, show (1 : Int) > 0 by decide, if_true]; exact clip2 i n n)
private theorem slicePick_cut (its : List Value) (lo hi : Option Int) : slicePick its.toArray lo hi none = ((its.drop (HT.sIx its.length 0 lo)).take (HT.sIx its.length its.length hi - HT.sIx its.length 0 lo)).toArray := by
  obtain ⟨h1, h2, h3⟩ := slice_bounds lo hi its.toArray.size
  unfold slicePick
  rw [h1, h2, h3]
  simp only [sliceRange_one, pick_run, List.size_toArray] <;> rfl
def rSlL (K : PySem.W.Frag) : V → Option Int → Option Int → Hp → VK → Prop := fun x lo hi H Q => ∃ a xs, x = .ref a ∧ SqL K H a xs ∧ ∀ p, H p = none → Q (.ref p) (upd H p (.lst (cutV xs lo hi)))
private theorem sl_list : SlR X (rSlL X.K) := by
  intro pins s σ H x v vl vu lo hi sl Q I rx hs pl pu h
  obtain ⟨a, xs, rfl, hx, q⟩ := h
  cases rx
  obtain ⟨its, r, ht, hz⟩ := I.list hx
  have hlen := r.length
  refine ⟨"list", _, slot_list_getitem.lookup, ht.isList.typeIs, ?_⟩
  refine wpAny_getItem_list_slice ht.isList hs pl pu .none (by simp) ?_ (by rw [List.size_toArray] <;> omega)
  rw [slicePick_cut, ← hlen]
  refine ⟨.ref s.heap.objs.size, _, I.laid (t' := s.toks) (o := .lst (cutV xs lo hi)) (fun b ob q => Heap.get?_push_of_some _ q) (Nat.le_refl _) ?_, rfl, q _ (I.hok.fresh (Nat.le_refl _))⟩
  exact ⟨Nat.le_trans (cutV_length xs lo hi) hz, _, 0, (r.drop (HT.sIx xs.length 0 lo)).take (HT.sIx xs.length xs.length hi - HT.sIx xs.length 0 lo), Heap.get?_push_size _ rfl⟩

def flatV : V → Bool
  | .non => true
  | .bl _ => true
  | .int _ => true
  | .str _ => true
  | _ => false
def eqV : V → V → Bool
  | .non, .non => true
  | .bl a, .bl b => a == b
  | .bl a, .int b => (if a then 1 else 0) == b
  | .int a, .bl b => a == (if b then 1 else 0)
  | .int a, .int b => a == b
  | .str a, .str b => a == b
  | _, _ => false
def eqU (x : V) (u : Value) : Bool := match u with
  | .none => eqV .non x
  | .bool b => eqV (.bl b) x
  | .int i _ => eqV (.int i) x
  | .str z _ => eqV (.str z) x
  | _ => false
def inV (x : V) (xs : List V) : Bool := xs.any fun y => eqV y x
def rIn (K : PySem.W.Frag) (neg : Bool) : R2 := fun x y H Q => ∃ p xs, y = .ref p ∧ (SqL K H p xs ∨ SqT K H p xs) ∧ flatV x = true ∧ xs.all flatV = true ∧ Q (.bl (if neg then !inV x xs else inV x xs)) H

private theorem call_len_seq : CallR X (.builtin "len") (fun xs H Q => ∃ p ys, xs = [.ref p] ∧ (SqL X.K H p ys ∨ SqT X.K H p ys) ∧ Q (.int ys.length) H) := by
  intro pins s σ H xs us Q I r h
  obtain ⟨p, ys, rfl, hq, q⟩ := h
  obtain ⟨u, rfl, rx⟩ := vals1 r
  cases rx
  have hn := line63
  rcases hq with hq | hq
  · obtain ⟨its, r', pl, hz⟩ := I.list hq
    have hlen := r'.length
    exact Calls.call_len_list pl.isList (by simp only [List.size_toArray] <;> omega) ⟨.int ys.length, H, I.tok _, ⟨s.toks + 1, by rw [List.size_toArray, hlen]⟩, q⟩
  · obtain ⟨its, r', pl, hz⟩ := I.tuple hq
    have hlen := r'.length
    exact len_tuple pl (by simp only [List.size_toArray] <;> omega) ⟨.int ys.length, H, I.tok _, ⟨s.toks + 1, by rw [List.size_toArray, hlen]⟩, q⟩
private theorem call_len_str : CallR X (.builtin "len") (fun xs H Q => ∃ z, xs = [.str z] ∧ z.length ≤ sizeLine ∧ Q (.int z.length) H) := by
  intro pins s σ H xs us Q I r h
  obtain ⟨z, rfl, hz, q⟩ := h
  obtain ⟨u, rfl, t, rfl⟩ := vals1 r
  have hn := line63
  exact len_str (by omega) ⟨.int z.length, H, I.tok _, ⟨_, rfl⟩, q⟩
private theorem CallR.or {f : Value} {r r' : List V → Hp → VK → Prop} (h : CallR X f r) (h' : CallR X f r') : CallR X f (fun xs H Q => r xs H Q ∨ r' xs H Q) := by
  intro pins s σ H xs us Q I rs q
  rcases q with q | q
  · exact h pins s σ H xs us Q I rs q
  · exact h' pins s σ H xs us Q I rs q
private theorem call_tuple_of : CallR X (.type "tuple") (fun xs H Q => ∃ p ys, xs = [.ref p] ∧ ((SqL X.K H p ys ∧ ∀ l, H l = none → Q (.ref l) (upd H l (.tup ys))) ∨ (SqT X.K H p ys ∧ Q (.ref p) H))) := by
  intro pins s σ H xs us Q I r h
  obtain ⟨p, ys, rfl, h⟩ := h
  obtain ⟨u, rfl, rx⟩ := vals1 r
  cases rx
  rcases h with ⟨hq, q⟩ | ⟨hq, q⟩
  · obtain ⟨its, r', pl, hz⟩ := I.list hq
    have hlen := r'.length
    refine call_tuple_list pl.isList (fun h' kp => ?_) (by simp only [List.size_toArray] <;> omega)
    have I1 : Inv X pins σ H { s with heap := h' } := I.kept (t' := s.toks) kp
    have I2 : Inv X pins σ (upd H h'.objs.size (.tup ys)) { s with heap := h'.push { cls := .type "tuple", data := .seq its.toArray } } :=
      I1.laid (t' := s.toks) (fun b o e => Heap.get?_push_of_some _ e) (Nat.le_refl _) (show ObjOk X.prog X.w _ _ _ (.tup ys) from ⟨hz, its, r', IsTup.new _ _⟩)
    exact ⟨.ref h'.objs.size, _, I2, rfl, q _ (I1.hok.fresh (Nat.le_refl _))⟩
  · obtain ⟨its, r', pl, hz⟩ := I.tuple hq
    exact call_tuple_same pl ⟨.ref p, H, I, rfl, q⟩

def tyV (K : PySem.W.Frag) (T : String) (x : V) (H : Hp) : Prop := match x with
  | .str _ => T = "str"
  | .int _ => T = "int"
  | .ref p => (T = "list" ∧ ∃ xs, SqL K H p xs) ∨ (T = "tuple" ∧ ∃ o, K.lookup p = some o ∧ o.cls = .type "tuple" ∧ o.dict = none) ∨
      (T = "dict" ∧ ((∃ kvs, H p = some (.dK kvs)) ∨ ∃ kvs, H p = some (.dT kvs))) ∨ (T = "set" ∧ ∃ S n, H p = some (.set S n))
  | _ => False
private theorem tyV_is {pins : List (Addr × Obj)} {σ : St} {H : Hp} {s : Shared} {T : String} {x : V} {v : Value} (I : Inv X pins σ H s) (r : RelV x v) (ty : tyV X.K T x H) :
    s.TypeIs v T ∧ ∀ a, v = .ref a → ∃ ob, s.heap.get? a = some ob ∧ ob.dict = none := by
  cases x with
  | str z =>
    obtain ⟨t, rfl⟩ := r
    cases (show T = "str" from ty)
    exact ⟨typeIs_str s z t, fun _ e => nomatch e⟩
  | int i =>
    obtain ⟨t, rfl⟩ := r
    cases (show T = "int" from ty)
    exact ⟨typeIs_int s i t, fun _ e => nomatch e⟩
  | ref p =>
    cases r
    rcases ty with ⟨rfl, xs, hq⟩ | ⟨rfl, o, hk, hc, hd⟩ | ⟨rfl, hk⟩ | ⟨rfl, S, n, hk⟩
    · obtain ⟨its, _, pl, _⟩ := I.list hq
      refine ⟨pl.isList.typeIs, fun a e => ?_⟩
      cases e
      obtain ⟨o, n, e, c, hd, _⟩ := pl
      exact ⟨o, e, hd⟩
    · refine ⟨⟨o, I.kIn p o hk, hc⟩, fun a e => ?_⟩
      cases e
      exact ⟨o, I.kIn _ o hk, hd⟩
    · have z : ∃ o, s.heap.get? p = some o ∧ o.ExactDict := by
        rcases hk with ⟨kvs, hk⟩ | ⟨kvs, hk⟩
        · obtain ⟨_, _, _, _, o, _, _, e, ex, _⟩ := I.hok p _ hk
          exact ⟨o, e, ex⟩
        · obtain ⟨_, _, _, _, o, _, _, e, ex, _⟩ := I.hok p _ hk
          exact ⟨o, e, ex⟩
      obtain ⟨o, e, ex⟩ := z
      refine ⟨⟨o, e, ex.1⟩, fun a e2 => ?_⟩
      cases e2
      exact ⟨o, e, ex.2.1⟩
    · obtain ⟨o, _, _, _, e, ex, _⟩ := I.hok p _ hk
      refine ⟨⟨o, e, ex.1⟩, fun a e2 => ?_⟩
      cases e2
      exact ⟨o, e, ex.2.1⟩
  | _ => exact False.elim ty
def tBM0 (K : PySem.W.Frag) (T : String) (r : V → List V → Hp → VK → Prop) (to : TE) : TE := fun σ H Q => to σ H fun x H1 => tyV K T x H1 ∧ r x [] H1 Q
def tBM (K : PySem.W.Frag) (T : String) (r : V → List V → Hp → VK → Prop) (to : TE) (t : TA) : TE := fun σ H Q => to σ H fun x H1 => tyV K T x H1 ∧ t σ H1 fun xs H2 => r x xs H2 Q
variable {o e : Expr} {es : List Expr} {to : TE} {t : TA} {name : Str} {apos cpos : Pos} {T id : String} {r : V → List V → Hp → VK → Prop}
private theorem pe_bm0 (pa : PlainAttrs T) (slot : Slot T name id) (hty : typeOf (.builtin id) = pure (.type "method_descriptor")) (hm : MtR X id r) (ho : PE X o to)
    (hbase : attributeBase o name X.env (eval o X.env) = eval o X.env := by rfl) (hline : (apos.endLine == cpos.line) = true := by rfl) : PE X (.Call (.Attribute o name apos) [] [] cpos) (tBM0 X.K T r to) := by
  intro pins s σ H Q I h
  refine wpAny_Call_method0_late hbase hline (thn (ho pins s σ H _ I h) fun v s1 ⟨x, H1, I1, r1, ty, q1⟩ => ?_)
  obtain ⟨h1, h2⟩ := tyV_is I1 r1 ty
  exact ⟨T, id, pa, slot, hty, h1, h2, Calls.callWith_builtin rfl (PySem.evalArgs_none (hm pins s1 σ H1 x [] v [] Q I1 r1 .nil q1))⟩
private theorem pe_bm (pa : PlainAttrs T) (slot : Slot T name id) (hty : typeOf (.builtin id) = pure (.type "method_descriptor")) (hm : MtR X id r) (ho : PE X o to) (ha : PA X (e :: es) t)
    (hbase : attributeBase o name X.env (eval o X.env) = eval o X.env := by rfl)
    (hfew : ((backTo cpos (starEach (e :: es) X.env)).all (fun x => !x.1) && (backToKw cpos (keywordEach [] X.env)).all (fun x => x.1.isSome)
      && decide ((e :: es).length + ([] : List Keyword).length + (if ([] : List Keyword).isEmpty then 0 else 1) < 30)) = true := by rfl)
    (hline : (apos.endLine == cpos.line) = true := by rfl) (hs : starEach (e :: es) X.env = (false, eval e X.env) :: starEach es X.env := by rfl) (hplain : (backTo cpos (starEach es X.env)).any (·.1) = false := by rfl) :
    PE X (.Call (.Attribute o name apos) (e :: es) [] cpos) (tBM X.K T r to t) := by
  intro pins s σ H Q I h
  refine wpAny_Call_method_late hbase hfew hline rfl (thn (ho pins s σ H _ I h) fun v s1 ⟨x, H1, I1, r1, ty, q1⟩ => ?_)
  obtain ⟨h1, h2⟩ := tyV_is I1 r1 ty
  refine ⟨T, id, pa, slot, hty, h1, h2, ?_⟩
  have hA := ha cpos pins s1 σ H1 _ I1 q1
  rw [hs] at hA ⊢
  refine Calls.callWith_builtin (by show (false || (backTo cpos (starEach es X.env)).any (·.1)) = false; rw [hplain] <;> rfl) (Calls.evalArgs_plain ?_)
  exact thn hA fun us s2 ⟨vs, H2, I2, r2, q2⟩ => hm pins s2 σ H2 x vs v us Q I2 r1 r2 q2
/- xs.append(e), list.index on a module's tuple .. are MtR facts of 06m -/
end
end L2

namespace L2
open PySem PySem.Spec PyProof.Rows

def MtM (X : Cx) (id : String) (r : V → List V → Hp → VK → Prop) : Prop :=
  ∀ (pins : List (Addr × Obj)) (s : Shared) (σ : St) (H : Hp) (x : V) (xs : List V) (v : Value) (us : List Value) (Q : VK), Inv X pins σ H s → RelV x v → Vals xs us → r x xs H Q →
    wpAny (model X.prog X.w) X.A (call (.builtin id) (v :: us)) (EP X pins σ Q) X.xe s

private theorem Vals.one {x : V} {us : List Value} (h : Vals [x] us) : ∃ u, us = [u] ∧ RelV x u := by
  cases h with
  | cons r t => cases t; exact ⟨_, rfl, r⟩
private theorem Vals.two {x y : V} {us : List Value} (h : Vals [x, y] us) : ∃ u v, us = [u, v] ∧ RelV x u ∧ RelV y v := by
  cases h with
  | cons r t => obtain ⟨v, rfl, q⟩ := Vals.one t; exact ⟨_, _, rfl, r, q⟩
private theorem Vals.zero : ∀ {us : List Value}, Vals [] us → us = []
  | _, .nil => rfl
private theorem Vals.dropLast {xs : List V} {us : List Value} (h : Vals xs us) : Vals xs.dropLast us.dropLast := by
  induction h with
  | nil => exact .nil
  | cons r t ih =>
    cases t with
    | nil => exact .nil
    | cons q t' => exact .cons r ih
private theorem Vals.eraseIdx : ∀ {xs : List V} {us : List Value} (i : Nat), Vals xs us → Vals (xs.eraseIdx i) (us.eraseIdx i)
  | _, _, _, .nil => .nil
  | _, _, 0, .cons _ t => t
  | _, _, i + 1, .cons r t => .cons r (Vals.eraseIdx i t)
private theorem Vals.reverse {xs : List V} {us : List Value} (h : Vals xs us) : Vals xs.reverse us.reverse := by
  induction h with
  | nil => exact .nil
  | cons r t ih => rw [List.reverse_cons, List.reverse_cons]; exact Vals.append ih (.cons r .nil)
private theorem erase_last {α : Type} (l : List α) : l.eraseIdx (l.length - 1) = l.dropLast := by
  induction l with
  | nil => rfl
  | cons a r ih =>
    cases r with
    | nil => rfl
    | cons b r =>
      have e : (a :: b :: r).length - 1 = ((b :: r).length - 1) + 1 := by
        have h1 : (a :: b :: r).length = r.length + 2 := rfl
        have h2 : (b :: r).length = r.length + 1 := rfl
        omega
      rw [e, List.eraseIdx_cons_succ, ih]
      all_goals rfl

section
variable {X : Cx} {pins : List (Addr × Obj)} {σ : St} {H : Hp} {s : Shared} {l b : Addr} {xs ys zs : List V}

private theorem Inv.lset {its its' : List Value} {n : Nat} {f : Array Value → Array Value} {t' : Nat} (I : Inv X pins σ H s) (hH : H l = some (.lst xs))
    (e : s.heap.get? l = some { cls := .type "list", data := .seq its.toArray n }) (hf : f its.toArray = its'.toArray) (hv : Vals ys its') (hz : ys.length ≤ sizeLine) :
    Inv X pins σ (upd H l (.lst ys)) { s with heap := s.heap.update l (Obj.mapSeq f), toks := t' } := by
  have q := PySem.IsL.update e f
  rw [hf] at q
  refine I.write (x := l) (e := l) (by rw [hH]; exact trivial) (.inl rfl) (fun b' u hb hu => (Heap.get?_update_other s.heap (Obj.mapSeq f) (Ne.symm hb)).trans hu) ⟨_, q⟩ ?_
  exact ⟨hz, its', _, hv, q⟩
private theorem Inv.lnew {its : List Value} {t' : Nat} (I : Inv X pins σ H s) (hv : Vals ys its) (hz : ys.length ≤ sizeLine) :
    Inv X pins σ (upd H s.heap.objs.size (.lst ys)) { s with heap := s.heap.push { cls := .type "list", data := .seq its.toArray }, toks := t' } :=
  I.laid (fun _ _ q => Heap.get?_push_of_some _ q) (Nat.le_refl _) ⟨hz, its, 0, hv, Heap.get?_push_size _ rfl⟩
private theorem Inv.fresh (I : Inv X pins σ H s) : H s.heap.objs.size = none := I.hok.fresh (Nat.le_refl _)
private theorem Inv.lstM (I : Inv X pins σ H s) (hH : H l = some (.lst xs)) : xs.length ≤ sizeLine ∧ ∃ (its : List Value) (n : Nat), Vals xs its ∧ xs.length = its.length ∧ s.heap.get? l = some { cls := .type "list", data := .seq its.toArray n } := by
  obtain ⟨z, its, n, r, e⟩ := I.hok l _ hH
  exact ⟨z, its, n, r, r.length, e⟩

private theorem notLongL {n : Nat} (h : n ≤ sizeLine) : Builtin.List.listTooLong n = false := by
  unfold Builtin.List.listTooLong
  exact decide_eq_false (by omega)
end

section
variable {X : Cx}

def rAppend : V → List V → Hp → VK → Prop := fun x vs H Q => ∃ l xs y, x = .ref l ∧ vs = [y] ∧ H l = some (.lst xs) ∧ xs.length < sizeLine ∧ Q .non (upd H l (.lst (xs ++ [y])))
private theorem mt_append : MtM X "list.append" rAppend := by
  intro pins s σ H x vs v us Q I rx rv h
  obtain ⟨l, xs, y, rfl, rfl, hH, hz, q⟩ := h
  cases rx
  obtain ⟨u, rfl, ru⟩ := rv.one
  obtain ⟨z, its, n, r, hl, e⟩ := I.lstM hH
  refine call_meets F.slot_list_append ⟨_, e, rfl⟩ F.entry_list_append (F.args_list_append_2 _ _) (PySem.list_append l its.toArray n u (by rw [List.size_toArray]; omega)) ⟨e, ?_⟩
  refine ⟨.non, _, I.lset (its' := its ++ [u]) hH e (by simp) (r.append (.cons ru .nil)) ?_, rfl, q⟩
  rw [List.length_append, List.length_singleton]
  omega

def rExtend : V → List V → Hp → VK → Prop := fun x vs H Q => ∃ l b xs zs, x = .ref l ∧ vs = [.ref b] ∧ H l = some (.lst xs) ∧ H b = some (.lst zs) ∧ xs.length + zs.length ≤ sizeLine ∧ Q .non (upd H l (.lst (xs ++ zs)))
private theorem mt_extend : MtM X "list.extend" rExtend := by
  intro pins s σ H x vs v us Q I rx rv h
  obtain ⟨l, b, xs, zs, rfl, rfl, hH, hB, hz, q⟩ := h
  cases rx
  obtain ⟨u, rfl, ru⟩ := rv.one
  cases ru
  obtain ⟨z, its, n, r, hl, e⟩ := I.lstM hH
  obtain ⟨z2, its2, n2, r2, hl2, e2⟩ := I.lstM hB
  have hsz : its.toArray.size + its2.toArray.size ≤ sizeLine := by rw [List.size_toArray, List.size_toArray]; omega
  have hlong : ¬ (!its.toArray.isEmpty && Builtin.List.listTooLong (its.toArray.size + its2.toArray.size)) = true := by
    rw [notLongL hsz, Bool.and_false]
    exact Bool.false_ne_true
  refine call_meets F.slot_list_extend ⟨_, e, rfl⟩ F.entry_list_extend (F.args_list_extend_2 _ _)
    (AutoSeq1.list_extend_list_list_0 l its.toArray n b its2.toArray n2 hlong (by rw [List.size_toArray]; omega) (by omega)) ⟨e, e2, ?_⟩
  refine ⟨.non, _, I.lset (its' := its ++ its2) hH e (by simp) (r.append r2) ?_, rfl, q⟩
  rw [List.length_append]
  omega

def rPop : V → List V → Hp → VK → Prop := fun x vs H Q => ∃ l xs y, x = .ref l ∧ vs = [] ∧ H l = some (.lst xs) ∧ xs[xs.length - 1]? = some y ∧ Q y (upd H l (.lst xs.dropLast))
private theorem mt_pop : MtM X "list.pop" rPop := by
  intro pins s σ H x vs v us Q I rx rv h
  obtain ⟨l, xs, y, rfl, rfl, hH, hy, q⟩ := h
  cases rx
  have hus := rv.zero
  subst hus
  obtain ⟨z, its, n, r, hl, e⟩ := I.lstM hH
  obtain ⟨u, hu, ru⟩ := r.get hy
  have hy' : its.toArray[its.toArray.size - 1]? = some u := by
    show its.toArray[its.length - 1]? = some u
    rw [← Array.getElem?_toList, ← hl]
    exact hu
  refine call_meets F.slot_list_pop ⟨_, e, rfl⟩ F.entry_list_pop (F.args_list_pop_1 _) (MeetsSeq.list_pop_last l its.toArray n u hy' (by rw [List.size_toArray]; omega)) ⟨e, ?_⟩
  refine ⟨y, _, I.lset (its' := its.dropLast) hH e ?_ r.dropLast ?_, ru, q⟩
  · show its.toArray.eraseIdxIfInBounds (its.toArray.size - 1) = its.dropLast.toArray
    rw [List.size_toArray, List.eraseIdxIfInBounds_toArray, erase_last]
  · rw [List.length_dropLast]
    omega

def rPopAt : V → List V → Hp → VK → Prop := fun x vs H Q => ∃ l xs i k y, x = .ref l ∧ vs = [.int i] ∧ H l = some (.lst xs) ∧ -(2 ^ 63) ≤ i ∧ i < 2 ^ 63 ∧ seqIndex? i xs.length = some k ∧ xs[k]? = some y ∧ Q y (upd H l (.lst (xs.eraseIdx k)))

def rReverse : V → List V → Hp → VK → Prop := fun x vs H Q => ∃ l xs, x = .ref l ∧ vs = [] ∧ H l = some (.lst xs) ∧ Q .non (upd H l (.lst xs.reverse))

def rClear : V → List V → Hp → VK → Prop := fun x vs H Q => ∃ l xs, x = .ref l ∧ vs = [] ∧ H l = some (.lst xs) ∧ Q .non (upd H l (.lst []))
private theorem mt_clear : MtM X "list.clear" rClear := by
  intro pins s σ H x vs v us Q I rx rv h
  obtain ⟨l, xs, rfl, rfl, hH, q⟩ := h
  cases rx
  have hus := rv.zero
  subst hus
  obtain ⟨z, its, n, r, hl, e⟩ := I.lstM hH
  refine call_meets F.slot_list_clear ⟨_, e, rfl⟩ F.entry_list_clear (F.args_list_clear_1 _) (AutoSeq1.list_clear_list_0 l its.toArray n (by rw [List.size_toArray]; omega)) ⟨e, ?_⟩
  exact ⟨.non, _, I.lset (its' := []) (ys := []) hH e rfl .nil (Nat.zero_le _), rfl, q⟩

def rCat : R2 := fun x y H Q => ∃ l b xs zs, x = .ref l ∧ y = .ref b ∧ H l = some (.lst xs) ∧ H b = some (.lst zs) ∧ xs.length + zs.length ≤ sizeLine ∧ ∀ p, H p = none → Q (.ref p) (upd H p (.lst (xs ++ zs)))
private theorem op_cat : OpR X (binaryOp .Add) rCat := by
  intro pins s σ H x y v u Q I rx ry h
  obtain ⟨l, b, xs, zs, rfl, rfl, hH, hB, hz, q⟩ := h
  cases rx
  cases ry
  obtain ⟨z, its, n, r, hl, e⟩ := I.lstM hH
  obtain ⟨z2, its2, n2, r2, hl2, e2⟩ := I.lstM hB
  refine PySem.P.add_list e e2 ?_ (by rw [List.size_toArray, List.size_toArray]; omega)
  have ea : its.toArray ++ its2.toArray = (its ++ its2).toArray := by simp
  rw [ea]
  exact ⟨.ref _, _, I.lnew (t' := s.toks) (r.append r2) (by rw [List.length_append]; omega), rfl, q _ I.fresh⟩
def rRep : R2 := fun x y H Q => ∃ l k xs, x = .ref l ∧ y = .int k ∧ H l = some (.lst xs) ∧ -(2 ^ 63) ≤ k ∧ k < 2 ^ 63 ∧ xs.length * k.toNat ≤ sizeLine ∧
  ∀ p, H p = none → Q (.ref p) (upd H p (.lst (List.replicate k.toNat xs).flatten))

end

section
variable {prog : Program} {w : World} {A : Around} {E : Value → Shared → Prop} {s : Shared}
end

section
variable {X : Cx}
end
end L2

namespace Att
open PySem PySem.W PySem.Calls PyProof.Rows

private theorem ints_of_wellAll {P : Params} {h : Heap} : ∀ (ns : List Int) (vs : List Value), WellAll P h vs (ns.map WData.int) → IntsAre vs ns := by
  intro ns
  induction ns with
  | nil =>
    intro vs w
    rw [List.map_nil] at w
    cases w
    exact .nil
  | cons n ns ih =>
    intro vs w
    rw [List.map_cons] at w
    cases w with
    | cons a b =>
      cases a
      exact .cons _ _ (ih _ b)

private theorem script_of {l : OpenLaw} {n : Nat} (hn : l.most = some n) {P : Params} {h : Heap} {args : List WData} {vals : List Value}
    (hpre : l.row.toRowW.claim.pre args = true) (hwl : WellAll P h vals args) :
    ∃ a vs ns, vals = [Value.ref a] ∧ args = [WData.list (ns.map WData.int)] ∧ h.get? a = some { cls := .type "list", data := .seq vs.toArray } ∧ IntsAre vs ns ∧ ns.length ≤ n := by
  have hsh : WShape.hasAll [] args [.list .int] = true := (pre_splitW hpre).1
  have hc : l.pre.holds [] { args := args } = true := (pre_splitW hpre).2
  obtain ⟨d, r, rfl, h1, h2⟩ := hasAllW_cons hsh
  obtain rfl := hasAllW_nil h2
  obtain ⟨xs, rfl, h3⟩ := hasW_list h1
  obtain ⟨ns, rfl⟩ := items_int h3
  have hlen : ns.length ≤ n := by
    unfold OpenLaw.pre at hc
    have h4 : (WTm.not (.lt (.lit (.int (n : Int))) (.len (.arg 0)))).holds [] { args := [.list (ns.map .int)] } = true := by
      have h4 := (holds_andW hc).1
      rw [hn] at h4
      exact h4
    have h5 := condW_of h4 (w_not (w_lt w_lit (w_len_list (w_arg rfl))))
    rw [List.length_map] at h5
    refine Nat.le_of_not_lt fun q => ?_
    have q' : (n : Int) < ((ns.length : Nat) : Int) := by omega
    first
      | (rw [decide_eq_true q'] at h5; exact absurd h5 (by decide))
      | (simp at h5; omega)
  cases hwl with
  | cons w1 w2 =>
    cases w2
    cases w1 with
    | list ho hall => exact ⟨_, _, ns, rfl, rfl, ho, ints_of_wellAll ns _ hall, hlen⟩

private theorem post_true (l : OpenLaw) (args : List WData) : l.row.toRowW.claim.post args (.bool true) args = true :=
  postW_of (r := l.row.toRowW) (X := (true == true))
    (show WShape.has [] (.bool true) .bool = true by first | rfl | decide | simp [WShape.has, WShape.arms, WShape.armsAll])
    (show (WTm.eq .res (.lit (.bool true))).value [] { args := args, res := some (.bool true), after := args } = some (.bool (true == true)) from w_eq_bool (w_res rfl) w_lit) rfl


private theorem attach_call {l : OpenLaw} {n : Nat} {q : Program} {loose : List Str} {XP : (Str → Option Value) → Heap → Prop} {YP : World → Heap → Prop} {d : DefRec}
    (hn : l.most = some n) (hdf : d.params.defaults = [])
    (call : ∀ (w : World) (s₀ s₁ : Shared) (mg mb : Str → Option Value) (fa : Addr) (o : Obj) (pm cd doc : Value) (a : Addr) (vs : List Value) (ns : List Int),
      Ground q loose [] XP w s₀ mg mb s₁.heap → YP w s₁.heap →
      s₁.heap.get? fa = some o → o.data = .func (docDef d.name d.params d.body d.scope pm cd doc) → s₁.heap.CodeRec cd d.name → mg d.name = some (.ref fa) →
      s₁.heap.get? a = some { cls := .type "list", data := .seq vs.toArray } → IntsAre vs ns → ns.length ≤ n → s₁.gens = #[] →
      codeAny (model l.prog w) callerA (.call (.ref fa) ⟨[.ref a], []⟩) (fun r s' => r = .ok (.ret (.bool true)) ∧ OldK s₁.heap s'.heap ∧ s'.os = s₁.os ∧ AllBare s'.gens) s₁) :
    WalkO q loose XP YP l.row.toRowW d [] (fun f vs => PySem.call f vs) := by
  intro w s₀ s₁ mg mb G Y fa o pm cd doc dV kV ho hd hcd hD hmg hg args vals as hpre hlay hrd hwl hlo
  obtain rfl : dV = .none := Dflts.none hD hdf
  obtain rfl : kV = .none := Dflts.noKw hD
  obtain ⟨a, vs, ns, rfl, rfl, hobj, hints, hlen⟩ := script_of hn hpre hwl
  refine enter_call (codeAny_mono (call w s₀ s₁ mg mb fa o pm cd doc a vs ns G Y ho (fd_plain hd) hcd hmg hobj hints hlen hg) fun r s' hq => ?_)
  obtain ⟨rfl, h2, h3, h4⟩ := hq
  exact ⟨.inl ⟨.bool true, .bool true, [], rfl, fun _ => rfl, .bool true, post_true l _, fun _ => ⟨List.Pairwise.nil, fun _ hm => (nomatch hm)⟩⟩, h2, h3, h4⟩


section
variable {prog : Program} {w : World} {A : Around} {E : Value → Shared → Prop} {s : Shared} {K : Frag}





def noObjs (h : Heap) : Heap := { h with objs := #[] }
def ledger (h : Heap) (L d : Addr) : List (Addr × Obj) := (List.range h.objs.size).filterMap fun a => if a = L ∨ a = d then none else (h.get? a).map fun o => (a, o)

end
end Att

namespace L2
open PySem PySem.Spec PyProof.Rows

private theorem vals_ints : ∀ {vs : List Value} {ns : List Int}, IntsAre vs ns → Vals (ns.map V.int) vs
  | _, _, .nil => .nil
  | _, _, .cons n t h => .cons ⟨t, rfl⟩ (vals_ints h)

def Only (H : Hp) : Prop := ∀ b, H b = none ∨ ∃ o xs, H b = some (.frz o (.lst xs))

private theorem law_call {P : Program} {w : World} {K : PySem.W.Frag} {mg mb : Str → Option Value} {CX : CXT} {k : Nat} {fa a : Addr} {fd : FuncData} {x : Str} {sp : Sp} {s₁ : Shared} {vs : List Value} {ns : List Int}
    (KX : K.In s₁.heap) (hns : s₁.heap.Ns mainGlobals mg) (hb : s₁.heap.Ns builtinsNs mb) (hbb : ∀ x : Str, x ≠ "__name__" → mb x = bootBuiltins x) (hlim : s₁.heap.NoLimit) (hg : s₁.gens = #[])
    (ha : s₁.heap.get? a = some { cls := .type "list", data := .seq vs.toArray }) (hi : IntsAre vs ns) (hl : ns.length ≤ sizeLine) (hr : Room k callerA)
    (F : ∀ base : Heap, K.In base → base.Ns mainGlobals mg → FnOk P w K mg base CX k fa fd [x] sp) (hbind : ∀ (s : Shared) (u : Value), BindsTo s fd ⟨[u], []⟩ [(x, u)])
    (hsp : ∀ H : Hp, Only H → SqL K H a (ns.map V.int) → sp [.ref a] H (fun v _ => v = .bl true) fun _ _ _ => False)
    (hCX : ∀ H e s', CX [] H s₁ (fun _ _ _ => False) e s' → False) :
    codeAny (model P w) callerA (.call (.ref fa) ⟨[.ref a], []⟩) (fun r s' => r = .ok (.ret (.bool true)) ∧ OldK s₁.heap s'.heap ∧ s'.os = s₁.os ∧ AllBare s'.gens) s₁ := by
  have rv := vals_ints hi
  have lenV := hi.length
  -- from an abstract heap in which nothing but the script may be tracked
  have core : ∀ H : Hp, Only H → SqL K H a (ns.map V.int) → HOk P w H s₁.heap → (∀ b, H b ≠ none → b = a) → (H a ≠ none → K.lookup a = none) →
      codeAny (model P w) callerA (.call (.ref fa) ⟨[.ref a], []⟩) (fun r s' => r = .ok (.ret (.bool true)) ∧ OldK s₁.heap s'.heap ∧ s'.os = s₁.os ∧ AllBare s'.gens) s₁ := by
    intro H hO hS hok hA hK
    have base_of : ∀ {b : Addr} {o : Obj}, s₁.heap.get? b = some o → H b = none → (hidT s₁.heap H).get? b = some o := fun e n => hidT_get e n
    have noA : ∀ {b : Addr} {o : Obj} {es : Array DictEntry} {ep : Nat}, s₁.heap.get? b = some o → o.data = .dict es ep → H b = none := fun {b o es ep} e d => by
      cases q : H b with
      | none => rfl
      | some u =>
        have e' : b = a := hA b (by rw [q]; simp)
        subst e'
        rw [ha] at e; cases e
        have d' : Data.seq vs.toArray _ = Data.dict es ep := d
        cases d'
    have nsK : ∀ {b : Addr} {m : Str → Option Value}, s₁.heap.Ns b m → (hidT s₁.heap H).Ns b m := fun {b m} ⟨o, es, ep, e, d, r⟩ => ⟨o, es, ep, base_of e (noA e d), d, r⟩
    have hKb : K.In (hidT s₁.heap H) := fun b o e => base_of (KX b o e) (by
      cases q : H b with
      | none => rfl
      | some u =>
        have e' : b = a := hA b (by rw [q]; simp)
        subst e'
        rw [hK (by rw [q]; simp)] at e; cases e)
    have hM : Mod K mg (hidT s₁.heap H) := ⟨hKb, nsK hns, ⟨mb, nsK hb, hbb⟩, let ⟨mc, h1, h2⟩ := hlim; ⟨mc, nsK h1, h2⟩⟩
    have e0 : Env0 P w K mg (hidT s₁.heap H) callerA [] s₁ H := ⟨rfl, hM, fun b o e => of_hidT e, Nat.le_of_eq (hidT_size _ _), trivial, fun b hb => absurd (show b ∈ ([] : List Addr) from hb) (by simp), hok, .of_eq hg⟩
    refine codeAny_mono ((F _ hKb (nsK hns)).run callerA [] s₁ H ⟨[.ref a], []⟩ [.ref a] [.ref a] _ _ hr e0 (hbind s₁ (.ref a)) (.cons rfl .nil) (hsp H hO hS)) fun r s' h => ?_
    cases r with
    | error e => exact (hCX H e s' h).elim
    | ok fl =>
      cases fl with
      | next => exact False.elim h
      | brk => exact False.elim h
      | cont => exact False.elim h
      | ret u =>
        obtain ⟨v, H', os, bare, un, hok', r', q⟩ := h
        have q' : v = .bl true := q
        subst q'
        obtain rfl : u = Value.bool true := r'
        refine ⟨rfl, OldK.of_keep fun b o e => ?_, os, bare⟩
        cases q : H b with
        | none => exact un.keep b o e q (by intro z; exact absurd (show b ∈ ([] : List Addr) from z) (by simp)) (by simp)
        | some u =>
          rcases hO b with z | ⟨ob, xs, z⟩
          · rw [q] at z; cases z
          · have z2 := un.frzs b ob _ z
            obtain ⟨e1, _⟩ := hok b _ z
            obtain ⟨e2, _⟩ := hok' b _ z2
            rw [e] at e1; cases e1
            exact e2
  cases hk : K.lookup a with
  | some o =>
    -- the script is one of the module's own objects
    have e := KX a o hk
    rw [ha] at e
    cases e
    refine core (fun _ => none) (fun _ => .inl rfl) (.inr ⟨_, vs.toArray, _, hk, rfl, rfl, rfl, by rw [List.size_toArray, lenV]; exact hl, by simpa using rv⟩) (fun b u z => by have z' : (none : Option HO) = some u := z; cases z') (fun b z => absurd rfl z) fun z => absurd rfl z
  | none =>
    refine core (fun b => if b = a then some (.frz { cls := .type "list", data := .seq vs.toArray } (.lst (ns.map V.int))) else none) (fun b => ?_) (.inl (.inr ⟨{ cls := .type "list", data := .seq vs.toArray }, if_pos rfl⟩)) (fun b u z => ?_) (fun b z => ?_) fun _ => hk
    · by_cases hb : b = a
      · exact .inr ⟨_, _, if_pos hb⟩
      · exact .inl (if_neg hb)
    · by_cases hb : b = a
      · have z' := (if_pos hb).symm.trans z
        cases z'
        subst hb
        exact ⟨ha, by rw [List.length_map]; exact hl, vs, _, rv, ha⟩
      · have z' := (if_neg hb).symm.trans z
        cases z'
    · by_cases hb : b = a
      · exact hb
      · exact absurd (if_neg hb) z
end L2

namespace L2
open PySem PySem.Spec PyProof.Rows

abbrev KOf {K : PySem.W.Frag} {h : Heap} (_ : K.In h) : PySem.W.Frag := K

private theorem walk_of {l : PySem.W.OpenLaw} {n k : Nat} {q : Program} {loose : List Str} {XP : (Str → Option Value) → Heap → Prop} {YP : World → Heap → Prop} {d : DefRec} {K : Params → PySem.W.Frag} {CX : World → CXT} {sp : World → Sp} {x : Str}
    (hn : l.most = some n) (hn2 : n ≤ sizeLine) (hdf : d.params.defaults = []) (hr : Room k callerA)
    (hY : ∀ (w : World) (h : Heap), YP w h → (K w.params).In h)
    (F : ∀ (w : World) (mg : Str → Option Value) (fa : Addr) (h : Heap), (K w.params).In h → h.Ns mainGlobals mg → mg d.name = some (.ref fa) →
      ∃ fd : FuncData, (∀ (s : Shared) (u : Value), BindsTo s fd ⟨[u], []⟩ [(x, u)]) ∧
        ∀ base : Heap, (K w.params).In base → base.Ns mainGlobals mg → FnOk l.prog w (K w.params) mg base (CX w) k fa fd [x] (sp w))
    (hsp : ∀ (w : World) (H : Hp) (a : Addr) (ns : List Int), ns.length ≤ n → Only H → SqL (K w.params) H a (ns.map V.int) → sp w [.ref a] H (fun v _ => v = .bl true) fun _ _ _ => False)
    (hCX : ∀ (w : World) (H : Hp) (s : Shared) (e : Value) (s' : Shared), CX w [] H s (fun _ _ _ => False) e s' → False) :
    PySem.W.WalkO q loose XP YP l.row.toRowW d [] (fun f vs => PySem.call f vs) := by
  refine Att.attach_call hn hdf fun w s₀ s₁ mg mb fa o pm cd doc a vs ns G Y ho hd hcd hmg hobj hints hlen hg => ?_
  have KX := hY w _ Y
  obtain ⟨fd, hb, hF⟩ := F w mg fa _ KX G.T.g hmg
  exact law_call KX G.T.g G.T.b G.T.builtins G.T.nolimit hg hobj hints (Nat.le_trans hlen hn2) hr hF hb (fun H hO hS => hsp w H a ns hlen hO hS) fun H e s' => hCX w H s₁ e s'
end L2

/- THE LAST THEOREM (shape; LID, My.* are yours):
   My.Adr: a structure of the addresses that your layer names (classes, functions); My.Txt K t: a structure (Prop) of the equations over K;
   My.txt_mk : {K} {implicit addresses ..} (e1 : nsIn K mainGlobals "law" = some (some (.ref f))) (e2 : K.lookup f = some ⟨oc, od, .func (fnOf "law" "law" params body scope dV kV doc pm an cdv ct), sl⟩) (e3 : codeIn K cdv "law" = true) .. : ∃ t, My.Txt K t

set_option maxRecDepth 100000 in
set_option maxHeartbeats 0 in
theorem PySem.Challenge.cw_LID_holds : PySem.Challenge.rw_LID.Holds := by
  w_on; o_law; k_head; (case hw => w_witness2)
  k_fill
  refine L2.walk_of (l := PySem.Challenge.rw_LID) (n := 63) (k := 40) (x := "script") (CX := fun w => ..) (sp := fun _ => My.sp_law) rfl (by decide) rfl ⟨rfl, by decide, by decide⟩ (fun w h Y => PySem.W.kIn_of Y) ?F ?S ?C
  case F =>
    intro w mg fa h KX G hmg
    have T : ∃ t, My.Txt (L2.KOf KX) t := by
      dsimp only [L2.KOf]                          -- K must stand as «<heap const> w.params» for k_is
      refine' My.txt_mk ?e1 ?e2 ?e3 ..
      (case e1 => PySem.W.k_is)                    -- in the order: a name -> its address -> its object -> its parts
      (case e2 => PySem.W.k_is)
      ..
    obtain ⟨t, T⟩ := T
    have e0 := hmg.symm.trans (PySem.W.mg_of KX G T.law)
    cases e0                                       -- fa is the law's own address
    exact ⟨_, fun s u => .of_eq rfl, fun base kb nb => My.law_fn T kb nb⟩     -- if «.of_eq rfl» comes too early: refine' ⟨_, ?b, fun base kb nb => My.law_fn T kb nb⟩; exact fun s u => .of_eq rfl
  case S => exact fun w H a ns hl hO hS => ..
  case C => exact ..
(the tactic k_is has no namespace: write k_is) -/

namespace L2
open PySem PySem.Spec PyProof.Rows


abbrev CX0 : CXT := fun _ _ _ _ _ _ => False
abbrev E0 : XK := fun _ _ _ => False
private theorem pass0 {X : Cx} : Passes CX0 X E0 := fun _ _ _ _ _ _ _ h => h.elim

structure Fun (K : PySem.W.Frag) (x qual : Str) (st : Stmt) (f : Addr) (fd : FuncData) : Prop where
  ex : ∃ (oc : Value) (od : Option Addr) (kV doc pm : Value) (an : Option Addr) (cdv ct : Value) (osl : Array (Option Value)),
    fd = PySem.W.fnOf x qual (defArgs st) (defBody st) (defScope st) .none kV doc pm an cdv ct ∧ K.lookup f = some ⟨oc, od, .func fd, osl⟩ ∧ PySem.W.codeIn K cdv qual = true
  kp : PySem.W.keepIn K (.ref f) = true
section
variable {P : Program} {w : World} {K : PySem.W.Frag} {mg : Str → Option Value} {base : Heap}
private theorem Fun.ok {x qual : Str} {st : Stmt} {f : Addr} {fd : FuncData} {N ps : List Str} {k : Nat} {sp : Sp} (F : Fun K x qual st f fd) (S : FnScope N ps (defScope st)) (len : ∀ vs H Q E, sp vs H Q E → vs.length = ps.length)
    (hbody : ∀ (cdv : Value) (A : Around) (outer : List Env) (s : Shared) (H : Hp) (vs : List V) (Q : VK) (E : XK), Room k (A.deeper (envOfC qual (defScope st) s.heap.objs.size f cdv)) → sp vs H Q E →
      ∃ t, PSs (cxOf CX0 P w K mg base N qual (defScope st) f cdv A outer s H E).nox (defBody st) t ∧ t { nx := fun _ H' => Q .non H', rt := Q } (start N vs) H) : FnOk P w K mg base CX0 (k + 1) f fd ps sp := by
  obtain ⟨oc, od, kV, doc, pm, an, cdv, ct, osl, rfl, lk, hcd⟩ := F.ex
  refine fn_of lk hcd S len fun A outer s H vs Q E hr hsp => ?_
  obtain ⟨t, h, q⟩ := hbody cdv A outer s H vs Q E hr hsp
  exact ⟨t, h.nox, q⟩
private theorem Fun.binds {x qual : Str} {st : Stmt} {f : Addr} {fd : FuncData} {ps : List Str} (F : Fun K x qual st f fd)
    (h : ∀ (kV doc pm : Value) (an : Option Addr) (cdv ct : Value) (us : List Value), us.length = ps.length → bindArgs (PySem.W.fnOf x qual (defArgs st) (defBody st) (defScope st) .none kV doc pm an cdv ct) ⟨us, []⟩ = pure (ps.zip us)) : Binds K fd ps [] := by
  obtain ⟨oc, od, kV, doc, pm, an, cdv, ct, osl, rfl, lk, hcd⟩ := F.ex
  exact .all (h kV doc pm an cdv ct)
private theorem fun_mk {x qual : Str} {st : Stmt} {f : Addr} {oc : Value} {od an : Option Addr} {osl : Array (Option Value)} {kV doc pm cdv ct : Value} (l : K.lookup f = some ⟨oc, od, .func (PySem.W.fnOf x qual (defArgs st) (defBody st) (defScope st) .none kV doc pm an cdv ct), osl⟩)
    (c : PySem.W.codeIn K cdv qual = true) (k : PySem.W.keepIn K (.ref f) = true) : Fun K x qual st f (PySem.W.fnOf x qual (defArgs st) (defBody st) (defScope st) .none kV doc pm an cdv ct) := ⟨⟨oc, od, kV, doc, pm, an, cdv, ct, osl, rfl, l, c⟩, k⟩
end
private theorem hu_of {A : Around} {k : Nat} (hr : Room k A) : A.units + 1 < cLine := Nat.lt_of_le_of_lt (Nat.add_le_add_left (by decide : 1 ≤ 64) _) hr.units
private theorem small1000 {n : Nat} (h : n ≤ 1000) : n < sizeLine := Nat.lt_of_le_of_lt h (by decide)

section
variable {X : Cx}
private theorem pv (i : Nat) {x : Str} {pos : Pos} (hN : X.N[i]? = some x := by rfl) (hv : Vis X.env.scope x := by first | exact Or.inl rfl | exact Or.inr (Or.inl rfl) | exact Or.inr (Or.inr rfl)) (hd : (x == ("__debug__" : Str)) = false := by decide)
    (hcd : (x == ("__classdict__" : Str)) = false := by decide) : PE X (.Name x pos) (tVar i) := pe_var hN hv hd hcd
end


def Same (H H' : Hp) : Prop := ∀ b o, H b = some o → H' b = some o
private theorem Same.refl (H : Hp) : Same H H := fun _ _ h => h
private theorem Same.trans {H H1 H2 : Hp} (a : Same H H1) (b : Same H1 H2) : Same H H2 := fun c o h => b c o (a c o h)
private theorem Same.free {H H' : Hp} (e : Same H H') {l : Addr} (h : H' l = Option.none) : H l = Option.none := by
  cases q : H l with
  | none => rfl
  | some o =>
    rw [e l o q] at h
    cases h
private theorem Same.seq {K : PySem.W.Frag} {H H' : Hp} {a : Addr} {xs : List V} (e : Same H H') (h : SqL K H a xs) : SqL K H' a xs := by
  rcases h with (h | ⟨o, h⟩) | h
  · exact .inl (.inl (e _ _ h))
  · exact .inl (.inr ⟨o, e _ _ h⟩)
  · exact .inr h

end L2
set_option Elab.async false
set_option linter.all false
set_option maxRecDepth 100000
set_option maxHeartbeats 4000000
namespace L2
open PySem PySem.Spec PyProof.Rows

def cxC (X : Cx) (N : List Str) (scope : Scope) (cl : List (Str × Addr)) (s₀ : Shared) (H₀ : Hp) (ex : List Addr) : Cx :=
  { X with N := N, s₀ := s₀, H₀ := H₀, env := compEnvC scope cl s₀.heap.objs.size X.env, outer := X.stack, ex := ex, fn := fun _ => false, pn := [], xe := fun _ _ => False }

structure CompScope (X : Cx) (x : Str) (ys : List Str) (js : List Nat) (scope : Scope) (cl : List (Str × Addr)) : Prop where
  clos : closureFor scope X.env = pure cl
  kind : scope.kind = .function
  nocell : ∀ y ∈ scope.names, y.2 ≠ .cell
  names : ∀ y ∈ scope.names, y.2 = .local → scope.names.lookup y.1 = some .local
  tgt : scope.names.lookup x = some .local
  nd : (x :: ys).Nodup
  sub : ∀ p ∈ cl, X.env.cells.lookup p.1 = some p.2
  has : ∀ p ∈ (relabel scope X.env).names, p.2 = .cell ∨ p.2 = .free → p.1 ∈ cl.map (·.1)
  fr : ∀ (i : Nat) (y : Str), ys[i]? = some y → ∃ j, js[i]? = some j ∧ X.N[j]? = some y ∧ (X.env.kindOf y = some .cell ∨ X.env.kindOf y = some .free) ∧ ((relabel scope X.env).names.lookup y = some .cell ∨ (relabel scope X.env).names.lookup y = some .free)
  len : js.length = ys.length

private theorem lookup_of_key {cl : List (Str × Addr)} : ∀ {y : Str}, y ∈ cl.map (·.1) → ∃ c, cl.lookup y = some c := by
  induction cl with
  | nil => intro y h; simp at h
  | cons p r ih =>
    intro y h
    rw [List.lookup_cons]
    cases e : y == p.1 with
    | true => exact ⟨p.2, rfl⟩
    | false =>
      rw [List.map_cons, List.mem_cons] at h
      rcases h with h | h
      · rw [h] at e; simp at e
      · exact ih h

def PTs (X : Cx) (ifs : List Expr) (t : TT) : Prop :=
  ∀ (pins : List (Addr × Obj)) (s : Shared) (σ : St) (H : Hp) (Q : Bool → Hp → Prop), Inv X pins σ H s → t σ H Q →
    wpAny (model X.prog X.w) X.A (forIn ifs true fun c r => if r = true then do let ok ← isTrue c X.env (eval c X.env); pure (ForInStep.yield ok) else pure (ForInStep.yield r)) (TP X pins σ Q) X.xe s
def tNoTest : TT := fun _ H Q => Q true H
private theorem pts_nil {X : Cx} : PTs X [] tNoTest := fun _ _ _ H _ I h => wpAny_tests_nil ⟨H, I, h⟩

def frees (σ : St) (js : List Nat) : St := js.map fun j => (σ[j]?).getD none
def CompW (J : It) (p : Addr) (σ : St) (js : List Nat) (tt : TT) (te : TE) (H1 : Hp) (Q : VK) : Prop :=
  ∃ W : Nat → Nat → List V → Hp → Prop, (∃ m, W 0 m [] (upd H1 p (.lst []))) ∧ ∀ i m acc H, W i m acc H →
    (J.stop i H ∧ Q (.ref p) H) ∨ (J.go i H ∧ ∀ x H', J.yld i H x H' → tt (some x :: frees σ js) H' fun ok H2 =>
      if ok = true then te (some x :: frees σ js) H2 fun y H3 => H3 p = some (.lst acc) ∧ acc.length < sizeLine ∧ ∃ m', m' < m ∧ W (i + 1) m' (acc ++ [y]) (upd H3 p (.lst (acc ++ [y])))
      else ∃ m', m' < m ∧ W (i + 1) m' acc H2)
def tComp (wi : TI) (js : List Nat) (tt : TT) (te : TE) : TE := fun σ H Q => wi σ H fun J H1 => ∀ p, H1 p = none → CompW J p σ js tt te H1 Q

section
variable {X : Cx} {x : Str} {ys : List Str} {js : List Nat} {scope : Scope} {cl : List (Str × Addr)} {pins : List (Addr × Obj)} {σ : St} {H : Hp} {s : Shared}
private theorem CompScope.cells (S : CompScope X x ys js scope cl) {y : Str} {c : Addr} (h : cl.lookup y = some c) : X.env.cells.lookup y = some c := S.sub (y, c) (PySem.mem_of_lookup h)

private theorem comp_in (S : CompScope X x ys js scope cl) (I : Inv X pins σ H s) {fp : List Addr} (f : ∀ b ∈ fp, FpOk X pins H b) (fo : ∀ b ∈ fp, b < s.heap.objs.size) {h1 : Heap} {m : Str → Option Value} {t1 : Nat} (hn : h1.Ns s.heap.objs.size m)
    (k : ∀ b o, s.heap.get? b = some o → h1.get? b = some o) :
    Inv (cxC X (x :: ys) scope cl s H fp) (X.pn ++ pins) (none :: frees σ js) H { s with heap := h1, toks := t1 } := by
  have nfs : ∀ b ∈ fp, b ∉ frs X.stack := fun b hb z => (List.mem_cons.mp (I.stkSub b z)).elim (f b hb).2.1 (f b hb).2.2.1
  have kept : ∀ y c, cl.lookup y = some c → ∀ v, s.heap.IsCell c v → h1.IsCell c v := fun y c _ v ⟨o, ho, hd⟩ => ⟨o, k c o ho, hd⟩
  refine ⟨⟨I.ok.mod, S.kind, I.ok.glob, I.ok.blt, Nat.le_refl _, fun y z c e1 e2 => I.ok.inj y z c (S.cells e1) (S.cells e2), fun y hy => ?_, fun y c e _ => absurd e Bool.false_ne_true, I.ok.hd, I.ok.frames, .inl rfl, fun b hb => ⟨?_, fun y c e => (f b hb).2.2.2.2.1 y c (S.cells e)⟩,
      I.bs, Nat.le_trans I.ok.bsz I.sz, fun b o e hb => ?_, nfs, I.stack, I.stkFree⟩,
    I.os.trans ?_, I.bare, Un.kept k, ⟨m, hn, fun i y v e1 e2 e3 => ?_⟩, fun y c e => ?_, I.hok.fresh (Nat.le_refl _), fun y c e => I.freeC y c (S.cells e), fun p hp => ?_, I.hok.kept k, ?_⟩
  · rcases hy with hy | hy
    · exact lookup_of_key (S.has _ (PySem.mem_of_lookup hy) (.inl rfl))
    · exact lookup_of_key (S.has _ (PySem.mem_of_lookup hy) (.inr rfl))
  · exact Nat.ne_of_lt (fo b hb)
  · rcases (f b hb).2.2.2.1 with z | z
    · exact I.ok.noex b o e z
    · exact absurd (Nat.lt_of_lt_of_le (Heap.lt_size e) (Nat.le_trans I.ok.bsz z)) (Nat.lt_irrefl _)
  · exact I.os.symm
  · cases i with
    | zero => cases e2
    | succ i =>
      obtain ⟨j, ej, eN, ek, ek'⟩ := S.fr i y e1
      have es : σ[j]? = some (some v) := by
        have q : (frees σ js)[i]? = some (some v) := e2
        unfold frees at q
        rw [List.getElem?_map, ej] at q
        have q' : (σ[j]?).getD none = some v := Option.some.inj q
        cases e : σ[j]? with
        | none => rw [e] at q'; cases q'
        | some o => rw [e] at q'; cases q'; rfl
      obtain ⟨m0, _, hl⟩ := I.loc
      obtain ⟨u, r, l⟩ := hl j y v eN es (.inr ek)
      rcases l with ⟨l, _⟩ | ⟨_, c, ec, hc⟩
      · rcases ek with ek | ek <;> · rw [ek] at l; cases l
      · have hk : y ∈ cl.map (·.1) := by
          rcases ek' with q | q
          · exact S.has _ (PySem.mem_of_lookup q) (.inl rfl)
          · exact S.has _ (PySem.mem_of_lookup q) (.inr rfl)
        obtain ⟨c', ec'⟩ := lookup_of_key hk
        have e := S.cells ec'
        rw [ec] at e
        cases e
        exact ⟨u, r, .inr ⟨ek', c, ec', kept y c ec' _ hc⟩⟩
  · obtain ⟨v, q⟩ := I.cell y c (S.cells e)
    exact ⟨v, kept y c e v q⟩
  · have hp' : p ∈ X.pn ++ pins := (List.mem_append.mp hp).elim (fun z => absurd (show p ∈ ([] : List (Addr × Obj)) from z) (by simp)) id
    obtain ⟨a, b, c, d, e⟩ := I.pin p hp'
    exact ⟨k _ _ a, b, Nat.ne_of_lt (Heap.lt_size a), fun z => (List.mem_cons.mp (I.stkSub _ z)).elim c d, e⟩
  · show _ = (x :: ys).length
    rw [List.length_cons, List.length_cons]
    unfold frees
    rw [List.length_map, S.len]
private theorem comp_out {H1 : Hp} {s1 : Shared} {σ' : St} {pins' : List (Addr × Obj)} {s0 : Shared} {H0 : Hp} (I : Inv X pins σ H0 s0) {fp : List Addr} (f : ∀ b ∈ fp, FpOk X pins H0 b) (U0 : Un (frs X.stack) fp H0 H s0.heap s.heap) (ho : s.os = s0.os)
    (J : Inv (cxC X (x :: ys) scope cl s H fp) pins' σ' H1 s1) : Inv X pins σ H1 s1 := by
  have U1 : Un (frs X.stack) fp H H1 s.heap s1.heap := J.base
  exact I.call' (J.os.trans ho) (U0.trans U1) J.hok J.bare fun b hb => ⟨(f b hb).2.2.2.1, (f b hb).2.1, (f b hb).2.2.2.2.1, (f b hb).2.2.2.2.2⟩

variable {iter elt : Expr} {ifs : List Expr} {px pos : Pos} {wi : TI} {tt : TT} {te : TE}
private theorem comp_run (S : CompScope X x ys js scope cl) (hc : X.calm = true) (ht : ∀ s₀ H₀ ex, PTs (cxC X (x :: ys) scope cl s₀ H₀ ex) ifs tt) (he : ∀ s₀ H₀ ex, PE (cxC X (x :: ys) scope cl s₀ H₀ ex) elt te)
    {s2 : Shared} {H2 : Hp} {it : Addr} {fp : List Addr} {tn : Nat → Heap → Prop} {J : It} (I2 : Inv X pins σ H2 s2) (T : Turn X.prog X.w X.K (.Name x px) J fp it tn) (st2 : tn 0 s2.heap) (f2 : ∀ b ∈ fp, FpOk X pins H2 b)
    {Q : VK} (q : ∀ p, H2 p = none → CompW J p σ js tt te H2 Q)
    {R : Value → Addr → Result → Shared → Prop}
    (hR : ∀ (p : Addr) (C : Addr) (H' : Hp) (s' : Shared) (m : Str → Option Value), s2.heap.objs.size ≤ C → s'.heap.Ns C m → H' C = none → Inv X pins σ H' s' → Q (.ref p) H' → R (.ref p) C (.ok .next) s') :
    wpAny (model X.prog X.w) X.A (newList []) (fun acc s₃ => wpAny (model X.prog X.w) X.A (newFunctionEnv scope X.env.globals cl [] X.env.qual none .none (some X.env)) (fun cenv s₄ =>
      codeAny (model X.prog X.w) X.A (.compStart (.ListComp elt [⟨.Name x px, iter, ifs, 0⟩] scope pos) 0 (.ref it) acc { cenv with scope := relabel scope X.env }) (R acc cenv.locals) s₄) X.xe s₃) X.xe s2 := by
  refine wpAny_newObj_type (wpAny_newFunctionEnv S.nocell (by intro y hy; simp at hy) (fun h₁ hns₁ hsb₁ => ?_) S.kind)
  have fr2 : H2 s2.heap.objs.size = none := I2.hok.fresh (Nat.le_refl _)
  obtain ⟨W, ⟨m0, w0⟩, turn⟩ := q _ fr2
  have I3 : Inv X pins σ (upd H2 s2.heap.objs.size (.lst [])) { s2 with heap := s2.heap.push { cls := .type "list", dict := none, data := .seq ([] : List Value).toArray } } :=
    I2.laid (t' := s2.toks) (fun b u e => Heap.get?_push_of_some _ e) (Nat.le_refl _) ⟨Nat.zero_le _, [], 0, .nil, Heap.get?_push_size _ rfl⟩
  have U0 : Un (frs X.stack) fp H2 (upd H2 s2.heap.objs.size (.lst [])) s2.heap (s2.heap.push { cls := .type "list", dict := none, data := .seq ([] : List Value).toArray }) :=
    Un.laid (fun b u e => Heap.get?_push_of_some _ e) (Nat.le_refl _) fr2
  have fo : ∀ b ∈ fp, b < s2.heap.objs.size := fun b hb => by
    obtain ⟨o, e, _⟩ := T.obj 0 _ st2 b hb
    exact Heap.lt_size e
  have f3 : ∀ b ∈ fp, FpOk X pins (upd H2 s2.heap.objs.size (.lst [])) b := fun b hb => ⟨by rw [upd_ne (Nat.ne_of_lt (fo b hb))]; exact (f2 b hb).1, (f2 b hb).2⟩
  have hold : ∀ b o, (s2.heap.push { cls := .type "list", dict := none, data := .seq ([] : List Value).toArray }).get? b = some o → h₁.get? b = some o := fun b o e =>
    hsb₁.extBut b o (Nat.ne_of_lt (Heap.lt_size e)) (Heap.get?_push_of_some _ e)
  have fo3 : ∀ b ∈ fp, b < (s2.heap.push { cls := .type "list", dict := none, data := .seq ([] : List Value).toArray }).objs.size := fun b hb => by rw [Heap.size_push]; exact Nat.lt_succ_of_lt (fo b hb)
  have I4 := comp_in (t1 := s2.toks + ([] : List (Str × Value)).length) S I3 f3 fo3 hns₁ hold
  have st4 : tn 0 h₁ := T.keep _ _ _ st2 fun b _ o e => hold b o (Heap.get?_push_of_some _ e)
  have stat : ∀ {H' : Hp}, (∀ b ∈ fp, H' b = none) → ∀ b ∈ fp, FpOk (cxC X (x :: ys) scope cl { s2 with heap := s2.heap.push { cls := .type "list", dict := none, data := .seq ([] : List Value).toArray } } (upd H2 s2.heap.objs.size (.lst [])) fp) (X.pn ++ pins) H' b := fun hn b hb =>
    ⟨hn b hb, Nat.ne_of_lt (fo3 b hb), I4.ok.exfs b hb, .inl hb, fun y c e => (f2 b hb).2.2.2.2.1 y c (S.cells e), fun p hp => (f2 b hb).2.2.2.2.2 p ((List.mem_append.mp hp).elim (fun z => absurd (show p ∈ ([] : List (Addr × Obj)) from z) (by simp)) id)⟩
  have loop : codeAny (model X.prog X.w) X.A (.compLoop (.ListComp elt [⟨.Name x px, iter, ifs, 0⟩] scope pos) 0 (.ref it) (.ref s2.heap.objs.size) (compEnvC scope cl (s2.heap.push { cls := .type "list", dict := none, data := .seq ([] : List Value).toArray }).objs.size X.env))
      (R (.ref s2.heap.objs.size) (s2.heap.push { cls := .type "list", dict := none, data := .seq ([] : List Value).toArray }).objs.size) { s2 with heap := h₁, toks := s2.toks + ([] : List (Str × Value)).length } := by
    refine codeAny_loop rfl (fun n s' => ∃ i acc v0 H', Inv (cxC X (x :: ys) scope cl { s2 with heap := s2.heap.push { cls := .type "list", dict := none, data := .seq ([] : List Value).toArray } } (upd H2 s2.heap.objs.size (.lst [])) fp) (X.pn ++ pins) (v0 :: frees σ js) H' s' ∧ tn i s'.heap ∧ (∀ b ∈ fp, H' b = none) ∧ W i n acc H')
      (fun n s5 hI => ?_) m0 ⟨0, [], none, _, I4, st4, fun b hb => (f3 b hb).1, w0⟩
    show wpAny _ X.A ((compTurn (.ListComp elt [⟨.Name x px, iter, ifs, 0⟩] scope pos) 0 (.ref it) (.ref s2.heap.objs.size) (compEnvC scope cl (s2.heap.push { cls := .type "list", dict := none, data := .seq ([] : List Value).toArray }).objs.size X.env)).onRaise (fun x => do noteFrame x (compEnvC scope cl (s2.heap.push { cls := .type "list", dict := none, data := .seq ([] : List Value).toArray }).objs.size X.env); theTreesLotGoes x)) _ _ s5
    refine wpAny_noted ?_
    rw [compTurn_list]
    obtain ⟨i, acc, v0, H5, I5, st5, fr5, w5⟩ := hI
    refine wpAny_bind (wpAny_standAt (wpAny_bind ?_))
    rcases turn i n acc H5 w5 with ⟨stop, qn⟩ | ⟨go, step⟩
    · refine wpAny_mono (T.done (cxC X (x :: ys) scope cl { s2 with heap := s2.heap.push { cls := .type "list", dict := none, data := .seq ([] : List Value).toArray } } (upd H2 s2.heap.objs.size (.lst [])) fp) rfl rfl rfl hc i _ s5 _ H5 _ I5 (stat fr5) st5 stop) (fun r s6 ⟨hr, I6⟩ => ?_) fun _ _ e => e
      subst hr
      obtain ⟨m, hn, _⟩ := I6.loc
      exact wpAny_pure (hR _ _ H5 s6 m (by rw [Heap.size_push]; exact Nat.le_succ _) hn I6.free (comp_out I2 f2 U0 (by rfl) I6) qn)
    · refine wpAny_mono (T.item (cxC X (x :: ys) scope cl { s2 with heap := s2.heap.push { cls := .type "list", dict := none, data := .seq ([] : List Value).toArray } } (upd H2 s2.heap.objs.size (.lst [])) fp) rfl rfl rfl hc i _ s5 _ H5 _ I5 (stat fr5) st5 go) (fun r s6 ⟨u, hr, h6⟩ => ?_) fun _ _ e => e
      subst hr
      refine wpAny_bind (wpAny_mono h6 (fun _ s7 ⟨v, H7, I7, r7, y7, st7, fr7⟩ => ?_) fun _ _ e => e)
      have I7' := I7.pinned (stat fr7) (T.obj _ _ st7)
      have G : PG (cxC X (x :: ys) scope cl { s2 with heap := s2.heap.push { cls := .type "list", dict := none, data := .seq ([] : List Value).toArray } } (upd H2 s2.heap.objs.size (.lst [])) fp) (.Name x px) (gName 0) :=
        pg_name S.nd rfl (.inl (lookup_relabel_local S.tgt)) (.inr (lookup_relabel_local S.tgt))
      refine wpAny_bind (wpAny_mono (G _ s7 _ H7 v u (fun σ8 H8 => σ8 = some v :: frees σ js ∧ H8 = H7) I7' r7 ⟨rfl, rfl⟩) (fun _ s8 ⟨σ8, H8, I8, e8, e8'⟩ => ?_) fun _ _ e => e.elim)
      subst e8 e8'
      refine wpAny_bind (wpAny_mono (ht _ _ _ _ s8 _ _ _ I8 (step v _ y7)) (fun ok s9 ⟨H9, I9, q9⟩ => ?_) fun _ _ e => e.elim)
      have again : ∀ {acc' : List V} {H10 : Hp} {s10 : Shared}, Inv (cxC X (x :: ys) scope cl { s2 with heap := s2.heap.push { cls := .type "list", dict := none, data := .seq ([] : List Value).toArray } } (upd H2 s2.heap.objs.size (.lst [])) fp) (X.pn ++ pins ++ pinsAt fp s7.heap) (some v :: frees σ js) H10 s10 →
          (∃ m', m' < n ∧ W (i + 1) m' acc' H10) → ∃ m, m < n ∧ ∃ i acc v0 H', Inv (cxC X (x :: ys) scope cl { s2 with heap := s2.heap.push { cls := .type "list", dict := none, data := .seq ([] : List Value).toArray } } (upd H2 s2.heap.objs.size (.lst [])) fp) (X.pn ++ pins) (v0 :: frees σ js) H' s10 ∧ tn i s10.heap ∧ (∀ b ∈ fp, H' b = none) ∧ W i m acc H' := fun {acc' H10 s10} I10 ⟨m', hm, w10⟩ => by
        refine ⟨m', hm, i + 1, acc', some v, H10, I10.unpinned, T.keep _ _ _ st7 fun b hb o e => (I10.pin (b, o) (List.mem_append_right _ (List.mem_append_right _ (mem_pinsAt hb e)))).1, fun b hb => ?_, w10⟩
        obtain ⟨o, e, d⟩ := T.obj _ _ st7 b hb
        exact (I10.pin (b, o) (List.mem_append_right _ (List.mem_append_right _ (mem_pinsAt hb e)))).2.1
      cases ok with
      | false =>
        rw [if_neg Bool.false_ne_true] at q9
        exact wpAny_pure ⟨rfl, again I9 q9⟩
      | true =>
        rw [if_pos rfl] at q9
        refine wpAny_bind (wpAny_bind (wpAny_mono (he _ _ _ _ s9 _ _ _ I9 q9) (fun y s10 ⟨z, H10, I10, r10, e10, l10, w10⟩ => ?_) fun _ _ e => e.elim))
        refine wpAny_bind (wpAny_mono (mt_append (X := cxC X (x :: ys) scope cl { s2 with heap := s2.heap.push { cls := .type "list", dict := none, data := .seq ([] : List Value).toArray } } (upd H2 s2.heap.objs.size (.lst [])) fp) _ s10 _ H10 (.ref s2.heap.objs.size) [z] (.ref s2.heap.objs.size) [y] (fun _ H' => H' = upd H10 s2.heap.objs.size (.lst (acc ++ [z]))) I10 rfl (.cons r10 .nil) ⟨_, acc, z, rfl, rfl, e10, l10, rfl⟩)
          (fun _ s11 ⟨_, H11, I11, _, e11⟩ => ?_) fun _ _ e => e.elim)
        subst e11
        exact wpAny_pure (wpAny_pure ⟨rfl, again I11 w10⟩)
  exact codeAny_compStart_list loop (T.self _ 0 _ _ _ st4 loop)

private theorem pe_lcomp (S : CompScope X x ys js scope cl) (hc : X.calm = true) (hi : PI X (.Name x px) iter wi) (ht : ∀ s₀ H₀ ex, PTs (cxC X (x :: ys) scope cl s₀ H₀ ex) ifs tt) (he : ∀ s₀ H₀ ex, PE (cxC X (x :: ys) scope cl s₀ H₀ ex) elt te)
    (hs : ∀ x, foldedSetIterable iter X.env x = pure x := by intro _; rfl) : PE X (.ListComp elt [⟨.Name x px, iter, ifs, 0⟩] scope pos) (tComp wi js tt te) := by
  intro pins s σ H Q I h
  rw [eval_ListComp]
  refine wpAny_comprehension_free (use := none) rfl hs S.clos S.kind S.names (thn (hi pins s σ H _ I h) fun v s1 h1 => thn h1 fun itv s2 h2 => ?_)
  obtain ⟨it, fp, tn, J, H2, e, I2, T, st2, f2, q⟩ := h2
  subst e
  refine comp_run (Q := Q) (R := fun acc C => compPost (model X.prog X.w) X.A X.xe none (EP X pins σ Q) acc C) S hc ht he I2 T st2 f2 q fun p C H' s' m hC hn hf I' q' => ?_
  refine ⟨m, hn, fun h' hb => ⟨.ref p, H', ?_, rfl, q'⟩⟩
  exact I'.turned (it := C) (t' := s'.toks) (fun b o hne e => hb.extBut b o hne e) hf (Nat.ne_of_gt (Nat.lt_of_lt_of_le I2.lt hC)) (.inr (Nat.le_trans I2.sz hC))
    (fun y c e z => by obtain ⟨v, w⟩ := I2.cell y c e; subst z; exact Nat.lt_irrefl _ (Nat.lt_of_lt_of_le w.lt hC)) fun p hp z => by have q := Heap.lt_size (I2.pin p hp).1; rw [z] at q; exact Nat.lt_irrefl _ (Nat.lt_of_lt_of_le q hC)
private theorem ps_lcomp {i : Nat} {y : Str} {py spos : Pos} (S : CompScope X x ys js scope cl) (hc : X.calm = true) (hi : PI X (.Name x px) iter wi) (ht : ∀ s₀ H₀ ex, PTs (cxC X (x :: ys) scope cl s₀ H₀ ex) ifs tt) (he : ∀ s₀ H₀ ex, PE (cxC X (x :: ys) scope cl s₀ H₀ ex) elt te)
    (hN : X.N.Nodup) (hy : X.N[i]? = some y) (hx : Loc X.env.scope y) (hsw : swapsWith (.ListComp elt [⟨.Name x px, iter, ifs, 0⟩] scope pos) (some (.Name y py)) spos.line X.env = pure true)
    (hf : X.fn y = true ∨ X.env.scope.names.lookup y = some .local := by first | exact .inl rfl | exact .inr rfl | assumption)
    (hs : ∀ x, foldedSetIterable iter X.env x = pure x := by intro _; rfl) : PS X (.Assign [.Name y py] (.ListComp elt [⟨.Name x px, iter, ifs, 0⟩] scope pos) spos) (tAsg (tComp wi js tt te) (gName i)) := by
  intro pins s σ H D I h
  rw [exec_Assign_Name_used _ _ _ _ hsw]
  refine wpAny_bind (wpAny_standAt (wpAny_bind ?_))
  show wpAny _ X.A (do let _ ← comprehension (.ListComp elt [⟨.Name x px, iter, ifs, 0⟩] scope pos) scope X.env _ (newList []) false (eval iter X.env) (some (assign (.Name y py) X.env))) _ _ s
  refine wpAny_bind (wpAny_mono (wpAny_comprehension_free (use := some (assign (.Name y py) X.env)) (Q := fun _ s' => SP X pins D .next s') rfl hs S.clos S.kind S.names
    (thn (hi pins s σ H _ I h) fun v s1 h1 => thn h1 fun itv s2 h2 => ?_)) (fun _ s' hq => wpAny_pure (wpAny_pure hq)) fun _ _ e => e)
  obtain ⟨it, fp, tn, J, H2, e, I2, T, st2, f2, q⟩ := h2
  subst e
  refine comp_run (Q := fun x H1 => gName i x σ H1 D.nx) (R := fun acc C => compPost (model X.prog X.w) X.A X.xe (some (assign (.Name y py) X.env)) (fun _ s' => SP X pins D .next s') acc C) S hc ht he I2 T st2 f2 q fun p C H' s' m hC hn hf' I' q' => ?_
  have neL : C ≠ X.env.locals := Nat.ne_of_gt (Nat.lt_of_lt_of_le I2.lt hC)
  have nfs : C ∉ X.fs := I2.nofs hC
  have hn0 := hn
  obtain ⟨o, es, ep, ho, hd, r⟩ := hn
  have Ip : Inv X (pins ++ [(C, o)]) σ H' s' := I'.pins_of fun p hp => (List.mem_append.mp hp).elim (fun z => I'.pin p (List.mem_append_right _ z)) fun z => by
    have e : p = (C, o) := by simpa using z
    subst e
    exact ⟨ho, hf', neL, nfs, fun v w => by rw [hd] at w; cases w⟩
  show wpAny _ _ (assign (.Name y py) X.env (.ref p)) _ _ s'
  refine thn (pg_name (pos := py) hN hy hx hf _ s' σ H' (.ref p) (.ref p) _ Ip rfl q') fun _ s'' ⟨σ8, H8, I8, q8⟩ => ?_
  have pc := I8.pin (C, o) (List.mem_append_right _ (List.mem_append_right _ (by simp)))
  refine ⟨m, ⟨o, es, ep, pc.1, hd, r⟩, fun h' hb => ⟨σ8, H8, ?_, q8⟩⟩
  have I9 : Inv X pins σ8 H8 s'' := I8.pins_of fun p hp => I8.pin p (List.mem_append_right _ (List.mem_append_left _ hp))
  exact I9.turned (it := C) (t' := s''.toks) (fun b o hne e => hb.extBut b o hne e) pc.2.1 neL (.inr (Nat.le_trans I2.sz hC))
    (fun y c e z => by obtain ⟨v, w⟩ := I2.cell y c e; subst z; exact Nat.lt_irrefl _ (Nat.lt_of_lt_of_le w.lt hC)) fun p hp z => by have q := Heap.lt_size (I2.pin p hp).1; rw [z] at q; exact Nat.lt_irrefl _ (Nat.lt_of_lt_of_le q hC)
end
end L2
set_option Elab.async false
set_option linter.all false
set_option maxRecDepth 100000
set_option maxHeartbeats 4000000
namespace L2
open PySem PySem.Spec PyProof.Rows
section
variable {X : Cx}
def CDivL (i j : Int) : Prop := 0 < j ∧ j < 10 ^ 100
private theorem CDivL.log {i j : Int} (h : CDivL i j) : j.natAbs.log2 < 9000 := by
  have h1 : j.natAbs < 10 ^ 100 := by have := h.1; have := h.2; omega
  have h2 : j.natAbs < 2 ^ 400 := Nat.lt_trans h1 (by decide +kernel)
  have h3 : j.natAbs ≠ 0 := by have := h.1; omega
  have := (Nat.log2_lt h3).mpr h2
  omega
private theorem op_fdivL : OpR X (binaryOp .FloorDiv) (rI CDivL fun i j => .int (i / j)) := opI fun i j _ _ _ _ _ hc q => by
  rw [← Int.fdiv_eq_ediv_of_nonneg i (Int.le_of_lt hc.1)] at q
  exact floordiv_int (by have := hc.1; omega) q (.inl (PyProof.noPylong_of_log2 hc.log))

def rInst (K : PySem.W.Frag) : List V → Hp → VK → Prop := fun xs H Q => ∃ x T t b, xs = [x, .ty T] ∧ TyOf K H x t ∧ PySem.W.kitOne K t (.type T) = some b ∧ Q (.bl b) H
private theorem call_isinst : CallR X (.builtin "isinstance") (rInst X.K) := by
  intro pins s σ H xs us Q I r h
  obtain ⟨x, T, t, b, rfl, ty, e, q⟩ := h
  obtain ⟨u, w', rfl, ru, rw'⟩ := vals2 r
  cases (show w' = Value.type T from rw')
  exact isinst_ok I ru ty e fun tk => ⟨.bl b, H, I.tok tk, rfl, q⟩
example (K : PySem.W.Frag) : PySem.W.kitOne K (.type "NoneType") (.type "int") = some false := by rfl
example (K : PySem.W.Frag) : PySem.W.kitOne K (.type "int") (.type "int") = some true := by rfl
example (K : PySem.W.Frag) : PySem.W.kitOne K (.type "tuple") (.type "str") = some false := by rfl
example (K : PySem.W.Frag) : PySem.W.kitOne K (.type "bool") (.type "int") = some true := by rfl
example (K : PySem.W.Frag) : PySem.W.kitOne K (.type "str") (.type "bool") = some false := by rfl

def Its (x : Str) : It := ⟨fun i _ => i < x.cps.size, fun i H v H' => H' = H ∧ ∃ c, x.cps[i]? = some c ∧ v = .str ⟨#[c]⟩, fun i _ => x.cps.size ≤ i⟩
private theorem turn_str {P : Program} {w : World} {K : PySem.W.Frag} {tg : Expr} {x : Str} {it : Addr} {n : String} {t : Tok} (hn : ["enumerate", "zip", "dict_itemiterator", "dict_reverseitemiterator", "odict_iterator", "itertools.zip_longest", "itertools.pairwise"].contains n = false)
    (W : ∀ A' : Around, A'.handled = none → Walks P w A' it [it] [it] x.cps.size (SignAt x) (fun i h => h.IsStrIter it n x t i))
    (E0 : ∀ (A' : Around) (s : Shared) (Q : Option Value → Shared → Prop) (E : Value → Shared → Prop) (i : Nat), A'.handled = none → s.heap.IsStrIter it n x t i → x.cps.size ≤ i → (∀ h', (∀ b o, b ≠ it → s.heap.get? b = some o → h'.get? b = some o) → Q none { s with heap := h' }) → wpAny (model P w) A' (pyNext (.ref it)) Q E s)
    (S0 : ∀ (A' : Around) (s : Shared) (Q : Value → Shared → Prop) (E : Value → Shared → Prop) (i : Nat), s.heap.IsStrIter it n x t i → Q (.ref it) s → wpAny (model P w) A' (pyIter (.ref it)) Q E s) :
    Turn P w K tg (Its x) [it] it (fun i h => h.IsStrIter it n x t i) where
  mem := by simp
  obj := fun i h st b hb => by
    have e : b = it := by simpa using hb
    subst e
    obtain ⟨o, e, c, d⟩ := st
    exact ⟨o, e, fun v z => by rw [d] at z; cases z⟩
  keep := fun i h h' st k => by
    obtain ⟨o, e, r⟩ := st
    exact ⟨o, k it (by simp) o e, r⟩
  item := by
    intro X hP hw hK hc i pins s σ H E I hf st hg
    subst hP hw hK
    obtain ⟨f0, f1, f2, f3, f4, f5⟩ := hf it (by simp)
    refine (W X.A (I.ok.hd hc)).item i s _ _ hg st fun v h' tk hv st' kk => ?_
    obtain ⟨c, u, hc', rfl⟩ := hv
    have I1 : Inv X pins σ H { s with heap := h', toks := tk } := I.turned (fun b o hb e => kk b o (by simpa using hb) e) f0 f1 f3 f4 f5
    obtain ⟨o, e, cl, d⟩ := id st'
    exact ⟨_, rfl, go_of (s := { s with heap := h', toks := tk }) e cl d hn ⟨.str ⟨#[c]⟩, H, I1, ⟨u, rfl⟩, ⟨rfl, c, hc', rfl⟩, st', fun b hb => (hf b hb).1⟩⟩
  done := by
    intro X hP hw hK hc i pins s σ H E I hf st hg
    subst hP hw hK
    obtain ⟨f0, f1, f2, f3, f4, f5⟩ := hf it (by simp)
    exact E0 X.A s _ _ i (I.ok.hd hc) st hg fun h' eb => ⟨rfl, I.turned (t' := s.toks) (fun b o hb e => eb b o hb e) f0 f1 f3 f4 f5⟩
  self := fun A i s Q E st h => S0 A s Q E i st h
def iStr (tl : TE) : TI := fun σ H R => tl σ H fun x H1 => ∃ z, x = .str z ∧ R (Its z) H1
private theorem pi_str {tg l : Expr} {tl : TE} (hl : PE X l tl) : PI X tg l (iStr tl) := by
  intro pins s σ H R I h
  refine thn (hl pins s σ H _ I h) fun v s1 ⟨x, H1, I1, r1, q1⟩ => ?_
  obtain ⟨z, rfl, q⟩ := q1
  obtain ⟨t, rfl⟩ := r1
  have fp : ∀ b ∈ [s1.heap.objs.size], FpOk X pins H1 b := fun b hb => by
    have e : b = s1.heap.objs.size := by simpa using hb
    subst e
    exact I1.fpOk (Nat.le_refl _) (I1.hok.fresh (Nat.le_refl _))
  cases ha : z.cps.all (· < 128)
  · refine wpAny_pyIter_wide ha ?_
    exact ⟨s1.heap.objs.size, [s1.heap.objs.size], _, _, H1, rfl, I1.kept (t' := s1.toks) fun b o e => Heap.get?_push_of_some _ e,
      turn_str (n := "str_iterator") (t := t) (by decide) (fun A' hA => Walks.strWide hA _ z t) (fun A' s Q E i hA st hi hQ => wpAny_pyNext_wide_end hA st (by simpa using hi) fun h' he' => hQ h' fun b o hb e => he' b o hb e) (fun A' s Q E i st hQ => wpAny_pyIter_striter_wide st hQ),
      ⟨_, Heap.get?_push_size _ rfl, rfl, rfl⟩, fp, q⟩
  · refine wpAny_pyIter_ascii ha ?_
    exact ⟨s1.heap.objs.size, [s1.heap.objs.size], _, _, H1, rfl, I1.kept (t' := s1.toks) fun b o e => Heap.get?_push_of_some _ e,
      turn_str (n := "str_ascii_iterator") (t := t) (by decide) (fun A' hA => Walks.strAscii hA _ z t) (fun A' s Q E i hA st hi hQ => wpAny_pyNext_ascii_end hA st (by simpa using hi) fun h' he' => hQ h' fun b o hb e => he' b o hb e) (fun A' s Q E i st hQ => wpAny_pyIter_striter_ascii st hQ),
      ⟨_, Heap.get?_push_size _ rfl, rfl, rfl⟩, fp, q⟩
private theorem for_str {z : Str} {g : TG} {tb : TS} {D : Ends} {σ : St} {H : Hp} (Pv : Nat → St → Hp → Prop) (h0 : Pv 0 σ H)
    (hs : ∀ i c σ H, z.cps[i]? = some c → Pv i σ H → g (.str ⟨#[c]⟩) σ H fun σ2 H2 => tb { D with nx := Pv (i + 1), ct := Pv (i + 1), bk := D.nx } σ2 H2) (hd : ∀ σ H, Pv z.cps.size σ H → D.nx σ H) :
    ∃ W : Nat → Nat → St → Hp → Prop, (∃ m, W 0 m σ H) ∧ ∀ i m σ H, W i m σ H →
      ((Its z).stop i H ∧ D.nx σ H) ∨ ((Its z).go i H ∧ ∃ N : St → Hp → Prop, (∀ σ' H', N σ' H' → ∃ m', m' < m ∧ W (i + 1) m' σ' H') ∧ ∀ x H', (Its z).yld i H x H' → g x σ H' fun σ2 H2 => tb { D with nx := N, ct := N, bk := D.nx } σ2 H2) := by
  refine ⟨fun i m σ H => m = z.cps.size - i ∧ i ≤ z.cps.size ∧ Pv i σ H, ⟨z.cps.size, by simp, Nat.zero_le _, h0⟩, ?_⟩
  rintro i m σ H ⟨rfl, hi, p⟩
  by_cases hlt : i < z.cps.size
  · refine .inr ⟨hlt, Pv (i + 1), fun σ' H' p' => ⟨z.cps.size - (i + 1), by omega, rfl, hlt, p'⟩, fun x H' y => ?_⟩
    obtain ⟨e, c, ec, ex⟩ := y
    subst e ex
    exact hs i c σ _ ec p
  · have e : i = z.cps.size := by omega
    subst e
    exact .inl ⟨Nat.le_refl _, hd σ H p⟩

def Itrs (lo st : Int) (n : Nat) : It := ⟨fun i _ => i < n, fun i H x H' => H' = H ∧ x = .int (lo + i * st), fun i _ => n ≤ i⟩
private theorem turn_ranges {P : Program} {w : World} {K : PySem.W.Frag} {tg : Expr} (it : Addr) (lo st : Int) (n : Nat) : Turn P w K tg (Itrs lo st n) [it] it (fun i h => IsRangeIter h it (lo + (i : Nat) * st) ((n : Int) - (i : Nat)) st) where
  mem := by simp
  obj := fun i h st b hb => by
    have e : b = it := by simpa using hb
    subst e
    exact ⟨_, st, fun v z => by
      have z' : Data.fields _ = Data.cell v := z
      cases z'⟩
  keep := fun i h h' st k => k it (by simp) _ st
  item := by
    intro X hP hw hK hc i pins s σ H E I hf st' hg
    subst hP hw hK
    obtain ⟨f0, f1, f2, f3, f4, f5⟩ := hf it (by simp)
    have W := Walks.range (prog := X.prog) (w := X.w) (I.ok.hd hc) it lo st n
    refine W.item i s _ _ hg st' fun v h' tk hv st'' kk => ?_
    obtain ⟨t, rfl⟩ := hv
    have I1 : Inv X pins σ H { s with heap := h', toks := tk } := I.turned (fun b o hb e => kk b o (by simpa using hb) e) f0 f1 f3 f4 f5
    exact ⟨_, rfl, go_of (s := { s with heap := h', toks := tk }) (n := "range_iterator") st'' rfl rfl (by decide) ⟨.int (lo + i * st), H, I1, ⟨t, rfl⟩, ⟨rfl, rfl⟩, st'', fun b hb => (hf b hb).1⟩⟩
  done := by
    intro X hP hw hK hc i pins s σ H E I hf st' hg
    subst hP hw hK
    obtain ⟨f0, f1, f2, f3, f4, f5⟩ := hf it (by simp)
    exact wpAny_pyNext_range_end (I.ok.hd hc) st' (by have : n ≤ i := hg; omega) fun h' eb => ⟨rfl, I.turned (t' := s.toks) (fun b o hb e => eb b o hb e) f0 f1 f3 f4 f5⟩
  self := fun _ _ _ _ _ st h => wpAny_pyIter_rangeiter st h
def iRng3 (ta : TA) : TI := fun σ H R => ta σ H fun vs H1 => ∃ j c : Int, vs = [.int 0, .int j, .int c] ∧ 0 ≤ j ∧ j < 2 ^ 60 ∧ 0 < c ∧ c < 1000 ∧ R (Itrs 0 c ((j + c - 1) / c).toNat) H1
private theorem size_steps {j c : Int} (h0 : 0 ≤ j) (hc : 0 < c) : Builtin.Range.rangeSize 0 j c = (j + c - 1) / c := by
  unfold Builtin.Range.rangeSize
  rw [if_pos hc]
  by_cases h : (0 : Int) < j
  · rw [if_pos h]
    have e : j + c - 1 = (j - 0 - 1) + c * 1 := by omega
    rw [e, Int.add_mul_ediv_left _ _ (by omega)]
  · rw [if_neg h]
    have e : j = 0 := by omega
    subst e
    rw [Int.ediv_eq_zero_of_lt (by omega) (by omega)]
private theorem vals3 {x y z : V} {us : List Value} (r : Vals [x, y, z] us) : ∃ u v w', us = [u, v, w'] ∧ RelV x u ∧ RelV y v ∧ RelV z w' := by
  cases r with
  | cons r1 r => cases r with
    | cons r2 r => cases r with
      | cons r3 r => cases r; exact ⟨_, _, _, rfl, r1, r2, r3⟩
private theorem small_steps {j c : Int} (h0 : 0 ≤ j) (h1 : j < 2 ^ 60) (hc : 0 < c) (hc2 : c < 1000) : Builtin.Range.small 0 j c = true := by
  have b1 : (j + c - 1) / c ≤ j + c - 1 := Int.ediv_le_self _ (by omega)
  have b2 : 0 ≤ (j + c - 1) / c := Int.ediv_nonneg (by omega) (by omega)
  unfold Builtin.Range.small
  rw [size_steps h0 hc]
  simp only [Builtin.Range.rangeFitsLong, Bool.and_eq_true, Bool.or_eq_true, decide_eq_true_eq, beq_iff_eq]
  generalize (j + c - 1) / c = d at b1 b2 ⊢
  have hc' : c > 0 := hc
  simp only [hc', if_true, Bool.and_eq_true, decide_eq_true_eq]
  omega
private theorem pi_range3 {tg a b c : Expr} {ta : TA} {p pos : Pos} (hg : Gl X "range") (hm : X.mg "range" = none) (ha : PA X [a, b, c] ta) (hs : starEach [a, b, c] X.env = [(false, eval a X.env), (false, eval b X.env), (false, eval c X.env)] := by rfl)
    (hs2 : starEach [b, c] X.env = [(false, eval b X.env), (false, eval c X.env)] := by rfl) : PI X tg (.Call (.Name "range" p) [a, b, c] [] pos) (iRng3 ta) := by
  intro pins s σ H R I h
  refine Call_ (ld_blt I hg hm boot_range (PyProof.Rows.callWith_type1 (thn (ha pos pins s σ H _ I h) fun us s1 ⟨vs, H1, I1, r1, q1⟩ => ?_) (by rw [hs, hs2]) (by rw [hs2]; rfl)))
  obtain ⟨j, c, rfl, h0, h1, hc, hc2, q⟩ := q1
  obtain ⟨u, v, w', rfl, ⟨t1, rfl⟩, ⟨t2, rfl⟩, ⟨t3, rfl⟩⟩ := vals3 r1
  refine call_range_3 (by omega) ?_ (.inl (PyProof.noPylong_small (by omega)))
  refine wpAny_pyIter_range (IsRange.new ..) (small_steps h0 h1 hc hc2) ?_
  have I2 : Inv X pins σ H1 { s1 with heap := s1.heap.push { cls := .type "range", data := .fields #[.int 0 t1, .int j t2, .int c t3] } } := I1.kept (t' := s1.toks) fun b o e => Heap.get?_push_of_some _ e
  refine ⟨_, [_], _, _, H1, rfl, I2.kept (t' := s1.toks) fun b o e => Heap.get?_push_of_some _ e, turn_ranges _ 0 c ((j + c - 1) / c).toNat, ?_, fun b hb => ?_, q⟩
  · have b2 : 0 ≤ (j + c - 1) / c := Int.ediv_nonneg (by omega) (by omega)
    have e1 : (0 : Int) + ((0 : Nat) : Int) * c = 0 := by simp
    have e2 : (((((j + c - 1) / c).toNat : Nat) : Int) - ((0 : Nat) : Int)) = Builtin.Range.rangeSize 0 j c := by rw [size_steps h0 hc]; omega
    show IsRangeIter _ _ ((0 : Int) + ((0 : Nat) : Int) * c) (((((j + c - 1) / c).toNat : Nat) : Int) - ((0 : Nat) : Int)) c
    rw [e1, e2]
    exact Heap.get?_push_size _ rfl
  · have e := List.mem_singleton.mp hb
    subst e
    exact I2.fpOk (Nat.le_refl _) (I2.hok.fresh (Nat.le_refl _))

end
end L2
set_option Elab.async false
set_option linter.all false
set_option maxRecDepth 100000
set_option maxHeartbeats 4000000
namespace L2
open PySem PySem.Spec PyProof.Rows
def cutS (x : Str) (lo hi : Option Int) : Str := ⟨((x.cps.toList.drop (HT.sIx x.length 0 lo)).take (HT.sIx x.length x.length hi - HT.sIx x.length 0 lo)).toArray⟩
private theorem pick_nat (l : List Nat) (i k : Nat) : (List.range k).filterMap (fun m => l[i + m]?) = (l.drop i).take k := by
  induction k with
  | zero => simp
  | succ k ih =>
    rw [List.range_succ, List.filterMap_append, ih]
    by_cases h : i + k < l.length
    · have e : l[i + k]? = some l[i + k] := List.getElem?_eq_getElem h
      rw [List.take_add_one]
      simp [List.getElem?_drop, e]
    · have e : l[i + k]? = none := List.getElem?_eq_none (by omega)
      have e2 : ((l.drop i).take (k + 1)) = (l.drop i).take k := by
        rw [List.take_of_length_le (by rw [List.length_drop]; omega), List.take_of_length_le (by rw [List.length_drop]; omega)]
      rw [e2]
      simp [e]
private theorem idx_str (lo hi : Option Int) (n : Nat) : Builtin.Str.strSliceIndices lo hi 1 n = (List.range (HT.sIx n n hi - HT.sIx n 0 lo)).map fun k => HT.sIx n 0 lo + k := by
  have c0 : ∀ (v : Int) (d : Nat), (max 0 (min (if v < 0 then v + (n : Int) else v) (n : Int))) = ((HT.sIx n d (some v) : Nat) : Int) := fun v d => by
    rw [← HT.clip_eq v n d]
    by_cases h : v < 0
    · simp only [if_pos h]; omega
    · simp only [if_neg h]; omega
  have key : ∀ a b : Nat, sliceRange (a : Int) (b : Int) 1 = (List.range (b - a)).map fun k => a + k := fun a b => by
    unfold sliceRange
    have e1 : (if (1 : Int) > 0 then (if (a : Int) < (b : Int) then ((b : Int) - (a : Int) + 1 - 1) / 1 else 0) else (if (a : Int) > (b : Int) then ((a : Int) - (b : Int) - 1 - 1) / (-1) else 0)).toNat = b - a := by
      rw [if_pos (by decide)]
      split
      · rw [Int.ediv_one]; omega
      · omega
    show List.map _ (List.range (if (1 : Int) > 0 then (if (a : Int) < (b : Int) then ((b : Int) - (a : Int) + 1 - 1) / 1 else 0) else (if (a : Int) > (b : Int) then ((a : Int) - (b : Int) - 1 - 1) / (-1) else 0)).toNat) = _
    rw [e1]
    refine List.map_congr_left fun k _ => ?_
    show ((a : Int) + 1 * (k : Int)).toNat = a + k
    omega
  unfold Builtin.Str.strSliceIndices
  simp only [show (1 : Int) > 0 by decide, if_true]
  cases lo with
  | none =>
    cases hi with
    | none => exact key 0 n
    | some v => dsimp only; rw [c0 v n]; exact key 0 _
  | some u =>
    cases hi with
    | none => dsimp only; rw [c0 u 0]; exact key _ n
    | some v => dsimp only; rw [c0 u 0, c0 v n]; exact key _ _
private theorem slice_cut (x : Str) (lo hi : Option Int) : Txt.slice x lo hi = cutS x lo hi := by
  have h1 := HT.sIx_le x.length 0 (Nat.zero_le _) lo
  have h2 := HT.sIx_le x.length x.length (Nat.le_refl _) hi
  have hn : x.cps.toList.length = x.length := Array.length_toList
  have e : ((Builtin.Str.strSliceIndices lo hi 1 x.length).filterMap (x.cps[·]?)) = (x.cps.toList.drop (HT.sIx x.length 0 lo)).take (HT.sIx x.length x.length hi - HT.sIx x.length 0 lo) := by
    rw [idx_str, List.filterMap_map, ← pick_nat]
    refine congrArg (fun f => List.filterMap f _) ?_
    funext m
    show x.cps[_]? = x.cps.toList[_]?
    rw [Array.getElem?_toList]
  unfold Txt.slice cutS
  split
  · rename_i h
    have hl : (Builtin.Str.strSliceIndices lo hi 1 x.length).length = x.length := by simpa using h
    rw [idx_str, List.length_map, List.length_range] at hl
    have a0 : HT.sIx x.length 0 lo = 0 ∨ x.length = 0 := by omega
    rcases a0 with a0 | a0
    · rw [a0, List.drop_zero, Nat.sub_zero, List.take_of_length_le (by omega)]
    · have en : x.cps.toList = [] := List.eq_nil_of_length_eq_zero (by omega)
      rw [en, List.drop_nil, List.take_nil]
      have : x.cps = #[] := by rw [← Array.toList_inj]; exact en
      rcases x with ⟨c⟩
      rw [show c = #[] from this]
  · rw [e]
section
variable {X : Cx}
def rSlS : V → Option Int → Option Int → Hp → VK → Prop := fun x lo hi H Q => ∃ z, x = .str z ∧ z.length ≤ sizeLine ∧ Q (.str (cutS z lo hi)) H
private theorem sl_str : SlR X rSlS := by
  intro pins s σ H x v vl vu lo hi sl Q I rx hs pl pu h
  obtain ⟨z, rfl, hz, q⟩ := h
  obtain ⟨t, rfl⟩ := rx
  refine ⟨"str", _, F.slot_str_getitem.lookup, typeIs_str _ _ _, ?_⟩
  have main : ∀ (l u : Option (Int × Tok)), vl = partValue l → vu = partValue u → lo = l.map (·.1) → hi = u.map (·.1) → wpAny (model X.prog X.w) X.A (getItem (.str z t) (.ref sl)) (EP X pins σ Q) X.xe s := fun l u e1 e2 e3 e4 => by
    subst e1 e2 e3 e4
    refine wpAny_getItem_str_slice (l := l) (u := u) (st := none) hs rfl (post_val_or_str ⟨Nat.le_trans (Txt.slice_le z _ _) hz, fun t' k => ?_⟩)
    show EP X pins σ Q (.str (Txt.slice z (l.map (·.1)) (u.map (·.1))) t') _
    rw [slice_cut]
    exact ⟨.str _, H, I.tok k, ⟨_, rfl⟩, q⟩
  cases pl with
  | none =>
    cases pu with
    | none => exact main none none rfl rfl rfl rfl
    | int j u => exact main none (some (j, u)) rfl rfl rfl rfl
  | int i t' =>
    cases pu with
    | none => exact main (some (i, t')) none rfl rfl rfl rfl
    | int j u => exact main (some (i, t')) (some (j, u)) rfl rfl rfl rfl
end
end L2
set_option Elab.async false
set_option linter.all false
set_option maxRecDepth 100000
set_option maxHeartbeats 4000000
namespace L2
open PySem PySem.Spec PyProof.Rows
structure Dfn (K : PySem.W.Frag) (mg : Str → Option Value) (x : Str) (st : Stmt) (ps : List Str) : Prop where
  ex : ∃ f fd, Fun K x x st f fd ∧ Binds K fd ps [] ∧ mg x = some (.ref f)
structure Fn (P : Program) (w : World) (K : PySem.W.Frag) (mg : Str → Option Value) (base : Heap) (x : Str) (k : Nat) (ps : List Str) (sp : Sp) : Prop where
  ex : ∃ f fd, FnOk P w K mg base CX0 k f fd ps sp ∧ Binds K fd ps [] ∧ PySem.W.keepIn K (.ref f) = true ∧ mg x = some (.ref f)
section
variable {P : Program} {w : World} {K : PySem.W.Frag} {mg : Str → Option Value} {base : Heap} {x : Str} {st : Stmt} {ps N : List Str} {sp sp' : Sp} {k : Nat}
private theorem Fn.mono {j : Nat} (F : Fn P w K mg base x j ps sp) (h : j ≤ k) : Fn P w K mg base x k ps sp := by
  obtain ⟨f, fd, a, b⟩ := F.ex
  exact ⟨f, fd, a.mono h, b⟩
private theorem Fn.imp (F : Fn P w K mg base x k ps sp) (h : ∀ vs H Q E, sp' vs H Q E → sp vs H Q E) : Fn P w K mg base x k ps sp' := by
  obtain ⟨f, fd, a, b⟩ := F.ex
  exact ⟨f, fd, a.imp h, b⟩
private theorem Dfn.ok (D : Dfn K mg x st ps) (S : FnScope N ps (defScope st)) (len : ∀ vs H Q E, sp vs H Q E → vs.length = ps.length)
    (hbody : ∀ (f : Addr) (cdv : Value) (A : Around) (outer : List Env) (s : Shared) (H : Hp) (vs : List V) (Q : VK) (E : XK), Room k (A.deeper (envOfC x (defScope st) s.heap.objs.size f cdv)) → sp vs H Q E →
      ∃ t, PSs (cxOf CX0 P w K mg base N x (defScope st) f cdv A outer s H E).nox (defBody st) t ∧ t { nx := fun _ H' => Q .non H', rt := Q } (start N vs) H) : Fn P w K mg base x (k + 1) ps sp := by
  obtain ⟨f, fd, F, b, m⟩ := D.ex
  exact ⟨f, fd, F.ok S len (fun cdv A outer s H vs Q E hr h => hbody f cdv A outer s H vs Q E hr h), b, F.kp, m⟩
private theorem Dfn.never (D : Dfn K mg x st ps) (no : ∀ vs H Q E, ¬ sp vs H Q E) : Fn P w K mg base x k ps sp := by
  obtain ⟨f, fd, F, b, m⟩ := D.ex
  exact ⟨f, fd, ⟨fun vs H Q E h => absurd h (no vs H Q E), fun A outer s H args us vs Q E _ _ _ _ h => absurd h (no vs H Q E)⟩, b, F.kp, m⟩
end
section
variable {X : Cx} {x : Str} {ps : List Str} {sp : Sp} {k k' : Nat} {e : Expr} {es : List Expr} {t : TA} {p pos : Pos}
private theorem pe_fn (F : Fn X.prog X.w X.K X.mg X.base x k ps sp) (hr : Room k' X.A) (hle : k ≤ k') (hg : Gl X x) (ha : PA X (e :: es) t) (hd : (x == ("__debug__" : Str)) = false := by decide)
    (he : starEach (e :: es) X.env = (false, eval e X.env) :: starEach es X.env := by rfl) (hpl : ∀ pos, (backTo pos (starEach es X.env)).any (·.1) = false := by intro _; rfl) : PE X (.Call (.Name x p) (e :: es) [] pos) (tCall sp [] E0 t) := by
  obtain ⟨f, fd, a, b, kp, m⟩ := F.ex
  exact pe_call a (hr.mono hle) hg m kp b .nil pass0 ha hd he (hpl _)
end
section
variable {X : Cx}
end
end L2

namespace Pv
open PySem L2
inductive Th where
  | non
  | int (i : Int)
  | str (x : Str)
  | tup (ts : List Th)
mutual
def nodes : Th → Nat
  | .non => 1
  | .int _ => 1
  | .str _ => 1
  | .tup ts => 1 + nodesL ts
def nodesL : List Th → Nat
  | [] => 0
  | t :: r => nodes t + nodesL r
end
mutual
def dep : Th → Nat
  | .non => 0
  | .int _ => 0
  | .str _ => 0
  | .tup ts => depL ts + 1
def depL : List Th → Nat
  | [] => 0
  | t :: r => max (dep t) (depL r)
end
def Sign (c : Nat) : Prop := 32 ≤ c ∧ c ≤ 126 ∧ c ≠ 37
def TxtOk (x : Str) : Prop := x.length ≤ 60 ∧ ∀ c ∈ x.cps.toList, Sign c
mutual
def Wf : Th → Prop
  | .non => True
  | .int i => -(10 ^ 30) ≤ i ∧ i ≤ 10 ^ 30
  | .str x => TxtOk x
  | .tup ts => ts.length ≤ 40 ∧ WfL ts
def WfL : List Th → Prop
  | [] => True
  | t :: r => Wf t ∧ WfL r
end
private theorem WfL.get : ∀ {ts : List Th} {i : Nat} {t : Th}, WfL ts → ts[i]? = some t → Wf t
  | [], _, _, _, e => by simp at e
  | u :: r, 0, t, h, e => by simp at e; subst e; exact h.1
  | u :: r, i + 1, t, h, e => WfL.get (i := i) h.2 (by simpa using e)
private theorem WfL.snoc : ∀ {ts : List Th} {t : Th}, WfL ts → Wf t → WfL (ts ++ [t])
  | [], _, _, h => ⟨h, trivial⟩
  | _ :: _, _, h, h' => ⟨h.1, WfL.snoc h.2 h'⟩
private theorem nodesL_snoc : ∀ (ts : List Th) (t : Th), nodesL (ts ++ [t]) = nodesL ts + nodes t
  | [], t => by simp [nodesL]
  | u :: r, t => by
    have := nodesL_snoc r t
    show nodes u + nodesL (r ++ [t]) = nodes u + nodesL r + nodes t
    omega
private theorem depL_snoc : ∀ (ts : List Th) (t : Th), depL (ts ++ [t]) = max (depL ts) (dep t)
  | [], t => by simp [depL]
  | u :: r, t => by
    have := depL_snoc r t
    show max (dep u) (depL (r ++ [t])) = max (max (dep u) (depL r)) (dep t)
    rw [this, Nat.max_assoc]
private theorem depL_get : ∀ {ts : List Th} {i : Nat} {t : Th}, ts[i]? = some t → dep t ≤ depL ts
  | [], _, _, e => by simp at e
  | u :: r, 0, t, e => by simp at e; subst e; exact Nat.le_max_left _ _
  | u :: r, i + 1, t, e => Nat.le_trans (depL_get (i := i) (by simpa using e)) (Nat.le_max_right _ _)

inductive Rep (H : Hp) : Th → V → Prop where
  | non : Rep H .non .non
  | int (i : Int) : Rep H (.int i) (.int i)
  | str (x : Str) : Rep H (.str x) (.str x)
  | tup {a : Addr} {xs : List V} {ts : List Th} (e : H a = some (.tup xs)) (l : xs.length = ts.length) (h : ∀ (i : Nat) (x : V) (t : Th), xs[i]? = some x → ts[i]? = some t → Rep H t x) : Rep H (.tup ts) (.ref a)
def Tups (H H' : Hp) : Prop := ∀ b xs, H b = some (.tup xs) → H' b = some (.tup xs)
private theorem Rep.keep {H H' : Hp} {t : Th} {v : V} (r : Rep H t v) (k : Tups H H') : Rep H' t v := by
  induction r with
  | non => exact .non
  | int i => exact .int i
  | str x => exact .str x
  | tup e l h ih => exact .tup (k _ _ e) l ih
def Frm (ws : List Addr) (H H' : Hp) : Prop := ∀ b o, b ∉ ws → H b = some o → H' b = some o
private theorem Frm.refl {ws : List Addr} {H : Hp} : Frm ws H H := fun _ _ _ h => h
private theorem Frm.trans {ws : List Addr} {H H1 H2 : Hp} (a : Frm ws H H1) (b : Frm ws H1 H2) : Frm ws H H2 := fun c o n h => b c o n (a c o n h)
private theorem Frm.mono {ws ws' : List Addr} {H H1 : Hp} (a : Frm ws H H1) (h : ∀ b ∈ ws, b ∈ ws') : Frm ws' H H1 := fun c o n e => a c o (fun z => n (h c z)) e
private theorem Frm.new {ws : List Addr} {H : Hp} {p : Addr} {o : HO} (h : H p = none) : Frm ws H (upd H p o) := fun b u _ q => by rw [upd_ne (ne_of_none q h)]; exact q
private theorem Frm.upd {ws : List Addr} {H : Hp} {p : Addr} {o : HO} (h : p ∈ ws) : Frm ws H (upd H p o) := fun b u n q => by rw [upd_ne (fun z => n (by rw [z]; exact h))]; exact q
private theorem Frm.same {H H' : Hp} (a : Frm [] H H') : Same H H' := fun b o h => a b o (by simp) h
private theorem Frm.of {ws : List Addr} {H H' : Hp} (a : Same H H') : Frm ws H H' := fun b o _ h => a b o h
private theorem Frm.at {ws : List Addr} {H H' : Hp} {b : Addr} {o : HO} (a : Frm ws H H') (h : H b = some o) (n : b ∉ ws) : H' b = some o := a b o n h
def NoT (ws : List Addr) (H : Hp) : Prop := ∀ b ∈ ws, ∀ xs, H b ≠ some (.tup xs)
private theorem Frm.tups {ws : List Addr} {H H' : Hp} (a : Frm ws H H') (n : NoT ws H) : Tups H H' := fun b xs e => a b _ (fun z => n b z xs e) e
private theorem Same.tups {H H' : Hp} (a : Same H H') : Tups H H' := fun b xs e => a b _ e
private theorem Tups.trans {H H1 H2 : Hp} (a : Tups H H1) (b : Tups H1 H2) : Tups H H2 := fun c xs e => b c xs (a c xs e)
private theorem Tups.upd {H : Hp} {p : Addr} {o : HO} (h : ∀ xs, H p ≠ some (.tup xs)) : Tups H (upd H p o) := fun b xs e => by rw [upd_ne (fun z => h xs (by rw [← z]; exact e))]; exact e
private theorem Tups.new {H : Hp} {p : Addr} {o : HO} (h : H p = none) : Tups H (L2.upd H p o) := Tups.upd fun xs e => by rw [h] at e; cases e
def RowOk (H : Hp) (row : Addr) : Prop := ∃ a m : Int, H row = some (.lst [.int a, .int m]) ∧ (m = 0 ∨ (m = 1 ∧ 0 ≤ a ∧ a < 536870909))
private theorem RowOk.keep {H H' : Hp} {row : Addr} {ws : List Addr} (r : RowOk H row) (f : Frm ws H H') (n : row ∉ ws) : RowOk H' row := by
  obtain ⟨a, m, e, h⟩ := r
  exact ⟨a, m, f row _ n e, h⟩
private theorem RowOk.noT {H : Hp} {row : Addr} (r : RowOk H row) (xs : List V) : H row ≠ some (.tup xs) := by
  obtain ⟨a, m, e, h⟩ := r
  rw [e]; intro z; cases z
end Pv
namespace L2
open PySem PySem.Spec PyProof.Rows
section
variable {X : Cx} {x y : Str} {scope : Scope} {j : Nat} {c : Addr}
private theorem relabel_mem {env : Env} {p : Str × NameKind} (h : p ∈ (relabel scope env).names) : ∃ q ∈ scope.names, p.1 = q.1 ∧ (p = q ∨ q.2 = .free) := by
  obtain ⟨q, hq, e⟩ := List.mem_map.mp h
  obtain ⟨n, k⟩ := q
  refine ⟨(n, k), hq, ?_⟩
  dsimp only at e
  split at e
  · rename_i hc
    subst e
    refine ⟨rfl, .inr ?_⟩
    have := (Bool.and_eq_true _ _).mp ((Bool.and_eq_true _ _).mp hc).1
    simpa using this.1
  · subst e
    exact ⟨rfl, .inl rfl⟩
private theorem CompScope.zero (kind : scope.kind = .function) (nf : ∀ y ∈ scope.names, y.2 ≠ .free) (nc : ∀ y ∈ scope.names, y.2 ≠ .cell) (nm : ∀ y ∈ scope.names, y.2 = .local → scope.names.lookup y.1 = some .local) (tgt : scope.names.lookup x = some .local) :
    CompScope X x [] [] scope [] where
  clos := closureFor_none nf
  kind := kind
  nocell := nc
  names := nm
  tgt := tgt
  nd := by simp
  sub := fun p hp => by simp at hp
  has := fun p hp hk => by
    obtain ⟨q, hq, e, h | h⟩ := relabel_mem hp
    · subst h
      rcases hk with hk | hk
      · exact absurd hk (nc _ hq)
      · exact absurd hk (nf _ hq)
    · exact absurd h (nf _ hq)
  fr := fun i y e => by simp at e
  len := rfl
private theorem CompScope.one (clos : closureFor scope X.env = pure [(y, c)]) (kind : scope.kind = .function) (nc : ∀ y ∈ scope.names, y.2 ≠ .cell) (nm : ∀ y ∈ scope.names, y.2 = .local → scope.names.lookup y.1 = some .local) (tgt : scope.names.lookup x = some .local)
    (ne : x ≠ y) (cell : X.env.cells.lookup y = some c) (only : ∀ q ∈ scope.names, q.2 = .free → q.1 = y) (hN : X.N[j]? = some y) (hk : X.env.kindOf y = some .cell ∨ X.env.kindOf y = some .free)
    (hk' : (relabel scope X.env).names.lookup y = some .cell ∨ (relabel scope X.env).names.lookup y = some .free) : CompScope X x [y] [j] scope [(y, c)] where
  clos := clos
  kind := kind
  nocell := nc
  names := nm
  tgt := tgt
  nd := by simp [ne]
  sub := fun p hp => by
    cases List.mem_singleton.mp hp
    exact cell
  has := fun p hp hk => by
    obtain ⟨q, hq, e, h | h⟩ := relabel_mem hp
    · subst h
      rcases hk with hk | hk
      · exact absurd hk (nc _ hq)
      · simp [only _ hq hk]
    · simp [e, only _ hq h]
  fr := fun i z e => by
    cases i with
    | zero => cases e; exact ⟨j, rfl, hN, hk, hk'⟩
    | succ i => simp at e
  len := rfl
end
private theorem ifT {c : Bool} {A B : Prop} (h : c = true) (a : A) : if c = true then A else B := by rw [if_pos h]; exact a
private theorem ifF {c : Bool} {A B : Prop} (h : c = false) (b : B) : if c = true then A else B := by rw [if_neg (by rw [h]; exact Bool.false_ne_true)]; exact b
private theorem ifB {c : Bool} {A B : Prop} (a : c = true → A) (b : c = false → B) : if c = true then A else B := by
  cases c with
  | true => exact ifT rfl (a rfl)
  | false => exact ifF rfl (b rfl)
private theorem dec_i {i j : Int} : decide (V.int i = V.int j) = decide (i = j) := by
  by_cases h : i = j
  · subst h; simp
  · rw [decide_eq_false h]; exact decide_eq_false fun z => h (V.int.inj z)
end L2
namespace L2
open PySem PySem.Spec PyProof.Rows
section
variable {X : Cx} {K : PySem.W.Frag}
end
end L2
namespace L2
open PySem PySem.Spec PyProof.Rows
section
variable {X : Cx} {x : Str} {ps : List Str} {sp : Sp} {k k' : Nat} {p pos : Pos}
end
end L2
set_option Elab.async false
set_option linter.all false
set_option maxRecDepth 100000
set_option maxHeartbeats 4000000
namespace L2
open PySem PySem.Spec PyProof.Rows
section
variable {P : Program} {W : World} {A : Around} {E : Value → Shared → Prop} {z : Shared}
private theorem draw_tup {j t : Addr} {n : Nat} {us : Array Value} {v : Value} {Q : Value → Shared → Prop} (hj : z.heap.IsTupleIter j t n) (ht : z.heap.IsTuple t us) (hv : us[n]? = some v)
    (q : ∀ g, g.IsTupleIter j t (n + 1) → Heap.SameBut j z.heap g → Q v { z with heap := g }) : wpAny (model P W) A (Builtin.SmallTypes.nextOf (.ref j)) Q E z := by
  obtain ⟨oj, ej, cj, dj⟩ := id hj; obtain ⟨ot, et, _, nt, dt⟩ := ht; unfold Builtin.SmallTypes.nextOf
  refine wpAny_bind (wpAny_callSpecial?_slot (name := Str.ofString "__next__") hj.typeIs F.slot_tuple_iterator_next (wpAny_call_entry F.slot_tuple_iterator_next hj.typeIs F.entry_tuple_iterator_next ?_ (F.args_tuple_iterator_next_1 _)))
  show wpAny _ _ (field (.ref j) 0 >>= _) _ _ z; refine wpAny_bind (wpAny_field ej dj (x := .ref t) rfl ?_)
  show wpAny _ _ (if (Value.ref t == Value.none) = true then _ else _) _ _ z; rw [if_neg (show ¬ ((Value.ref t == Value.none) = true) from Bool.false_ne_true)]
  show wpAny _ _ (field (.ref j) 1 >>= _) _ _ z; refine wpAny_bind (wpAny_field ej dj (x := .int n 0) rfl ?_)
  show wpAny _ _ (seqItems? (.ref t) >>= _) _ _ z; refine wpAny_bind (wpAny_seqItems et dt ?_); simp only [Int.toNat_natCast, hv]
  refine wpAny_bind (wpAny_setField ej dj (by simp) (wpAny_pure ⟨v, rfl, wpAny_pure (q _ ⟨_, Heap.get?_update_self _ ej (Obj.isFreed_of_fields (Obj.data_mapFields dj _)), (Obj.cls_mapFields ..).trans cj, by rw [Obj.data_mapFields dj]; simp [rawInt]⟩ (Heap.SameBut.update ..))⟩))
private theorem draw_end {j t : Addr} {n : Nat} {us : Array Value} {Q : Value → Shared → Prop} (hh : A.handled = none) (hj : z.heap.IsTupleIter j t n) (ht : z.heap.IsTuple t us) (hv : us[n]? = none)
    (q : ∀ g e, Heap.ExtBut j z.heap g → (∃ o, g.get? e = some o ∧ o.cls = .type "StopIteration") → E (.ref e) { z with heap := g }) : wpAny (model P W) A (Builtin.SmallTypes.nextOf (.ref j)) Q E z := by
  obtain ⟨oj, ej, cj, dj⟩ := id hj; obtain ⟨ot, et, _, nt, dt⟩ := ht; unfold Builtin.SmallTypes.nextOf
  refine wpAny_bind (wpAny_callSpecial?_slot (name := Str.ofString "__next__") hj.typeIs F.slot_tuple_iterator_next (wpAny_call_entry F.slot_tuple_iterator_next hj.typeIs F.entry_tuple_iterator_next ?_ (F.args_tuple_iterator_next_1 _)))
  show wpAny _ _ (field (.ref j) 0 >>= _) _ _ z; refine wpAny_bind (wpAny_field ej dj (x := .ref t) rfl ?_)
  show wpAny _ _ (if (Value.ref t == Value.none) = true then _ else _) _ _ z; rw [if_neg (show ¬ ((Value.ref t == Value.none) = true) from Bool.false_ne_true)]
  show wpAny _ _ (field (.ref j) 1 >>= _) _ _ z; refine wpAny_bind (wpAny_field ej dj (x := .int n 0) rfl ?_)
  show wpAny _ _ (seqItems? (.ref t) >>= _) _ _ z; refine wpAny_bind (wpAny_seqItems et dt ?_); simp only [Int.toNat_natCast, hv]
  refine wpAny_bind (wpAny_rule (wpAny_bind (wpAny_setField ej dj (by simp) ?_))); show wpAny _ _ (newExc (.type "StopIteration") [] >>= _) _ _ _; refine wpAny_bind ?_; simp only [newExc, newTuple]
  refine wpAny_bind (wpAny_newObj_type ?_ (by size_fits)); refine wpAny_bind (m := firstArgMember _ _) (wpAny_of_eq (a := Value.none) (by first | rfl | (simp only [firstArgMember]; rfl)) ?_); refine wpAny_newObj_type ?_ (by size_fits); simp only [raiseNew]
  refine wpAny_bind (wpAny_handled ?_); first | rw [show A.in1.handled = none from hh] | rw [hh]
  refine wpAny_bind (wpAny_pure (wpAny_throw ?_)); exact q _ _ (((Heap.SameBut.update ..).extBut.push _).push _) ⟨_, Heap.get?_push_size _ rfl, rfl⟩
structure ZSt (g : Heap) (y a o i k p q : Addr) (n : Nat) (xs us : Array Value) (f : Value) : Prop where
  zp : IsZip g y a o f
  its : IsPair g a (.ref i) (.ref k)
  own : ∃ b c, IsPair g o b c
  i1 : g.IsTupleIter i p n
  i2 : g.IsTupleIter k q n
  t1 : g.IsTuple p xs
  t2 : g.IsTuple q us
private theorem zip_turn {y a o i k p q : Addr} {n : Nat} {xs us : Array Value} {u v : Value} {Q : Option Value → Shared → Prop} (D : ZipApart y a o i k p q) (S : ZSt z.heap y a o i k p q n xs us .none) (hu : xs[n]? = some u) (hv : us[n]? = some v)
    (fin : ∀ g, ZSt g y a o i k p q (n + 1) xs us (rawInt z.heap.objs.size) → IsPair g z.heap.objs.size u v → g.objs.size = z.heap.objs.size + 1 → (∀ c r, c ≠ y → c ≠ o → c ≠ i → c ≠ k → z.heap.get? c = some r → g.get? c = some r) → Q (some (.ref z.heap.objs.size)) { z with heap := g }) :
    wpAny (model P W) A (pyNext (.ref y)) Q E z := by
  obtain ⟨hz, ha, ⟨b, c, ho⟩, hi, hk, hp, hq⟩ := S
  have tz : z.TypeIs (.ref y) "zip" := ⟨_, hz, rfl⟩
  have main : wpAny (model P W) A.in1 (Builtin.«zip.__next__» ⟨[.ref y], []⟩) (fun r s' => ∃ v, r = .done (.ret v) ∧ Q (some v) s') (fun e s' => True ∧ False) z := by
    show wpAny _ _ (field (.ref y) 2 >>= _) _ _ _; refine wpAny_bind (wpAny_field hz rfl (x := .bool false) rfl ?_)
    show wpAny _ _ (field (.ref y) 3 >>= _) _ _ _; refine wpAny_bind (wpAny_field hz rfl (x := .ref a) rfl ?_); refine wpAny_bind (wpAny_seqItems ha rfl ?_)
    show wpAny _ _ (Builtin.SmallTypes.ownedTupleIsFree (.ref y) >>= _) _ _ _; refine wpAny_bind ?_; unfold Builtin.SmallTypes.ownedTupleIsFree
    refine wpAny_bind (wpAny_field hz rfl (x := .none) rfl (wpAny_pure ?_)); simp only [if_true]; refine wpAny_bind (wpAny_rule ?_); refine wpAny_bind (wpAny_field hz rfl (x := .ref o) rfl ?_)
    refine wpAny_bind (wpAny_setField_rec hz (by simp) fun g1 hz1 s1 => ?_); replace hz1 : IsZip g1 y a o .ellipsis := hz1; refine wpAny_bind ?_; simp only [List.zipIdx_cons, List.zipIdx_nil, List.forIn_cons, List.forIn_nil]
    refine wpAny_bind (wpAny_bind (wpAny_onRaise ?_)); show wpAny _ _ (Builtin.SmallTypes.nextOf (.ref i) >>= _) _ _ _
    refine wpAny_bind (draw_tup (hi.extBut s1.extBut D.i1z) (hp.extBut s1.extBut D.l1z) hu fun g2 i2 s2 => wpAny_pure ?_)
    have ho2 : IsPair g2 o b c := s2.extBut _ _ D.TOi1 (s1.extBut _ _ D.TOz ho)
    refine wpAny_bind (wpAny_seqItems ho2 rfl ?_); refine wpAny_bind (wpAny_updateSeq_pair ho2 fun g3 ho3 s3 => ?_); replace ho3 : IsPair g3 o u c := ho3; refine wpAny_bind (wpAny_letGo (wpAny_pure ?_))
    refine wpAny_bind (wpAny_bind (wpAny_onRaise ?_)); show wpAny _ _ (Builtin.SmallTypes.nextOf (.ref k) >>= _) _ _ _
    refine wpAny_bind (draw_tup (((hk.extBut s1.extBut D.i2z).extBut s2.extBut D.i12.symm).extBut s3.extBut D.TOi2.symm) (((hq.extBut s1.extBut D.l2z).extBut s2.extBut D.l2i1).extBut s3.extBut D.l2TO) hv fun g4 k4 s4 => wpAny_pure ?_)
    have ho4 : IsPair g4 o u c := s4.extBut _ _ D.TOi2 ho3
    refine wpAny_bind (wpAny_seqItems ho4 rfl ?_); refine wpAny_bind (wpAny_updateSeq_pair ho4 fun g5 ho5 s5 => ?_); replace ho5 : IsPair g5 o u v := ho5; refine wpAny_bind (wpAny_letGo (wpAny_pure (wpAny_pure ?_)))
    refine wpAny_bind (wpAny_seqItems ho5 rfl ?_); refine wpAny_bind (wpAny_newTuple ?_)
    have sz : g5.objs.size = z.heap.objs.size := by rw [s5.1, s4.1, s3.1, s2.1, s1.1]
    have hz5 : IsZip g5 y a o .ellipsis := s5.extBut _ _ D.TOz.symm (s4.extBut _ _ D.i2z.symm (s3.extBut _ _ D.TOz.symm (s2.extBut _ _ D.i1z.symm hz1)))
    have up5 : ∀ c r, c ≠ y → c ≠ o → c ≠ i → c ≠ k → z.heap.get? c = some r → g5.get? c = some r := fun c r c1 c2 c3 c4 e => s5.extBut _ _ c2 (s4.extBut _ _ c4 (s3.extBut _ _ c2 (s2.extBut _ _ c3 (s1.extBut _ _ c1 e))))
    have hi5 : g5.IsTupleIter i p (n + 1) := ((i2.extBut s3.extBut D.TOi1.symm).extBut s4.extBut D.i12).extBut s5.extBut D.TOi1.symm
    have hk5 : g5.IsTupleIter k q (n + 1) := k4.extBut s5.extBut D.TOi2.symm
    have ly : y < g5.objs.size := Heap.lt_size hz5
    show wpAny _ _ (Builtin.SmallTypes.ownedTupleHandOut (.ref y) (.ref g5.objs.size) >>= _) _ _ _; refine wpAny_bind ?_; unfold Builtin.SmallTypes.ownedTupleHandOut
    have hz6 : IsZip (g5.push { cls := .type "tuple", data := .seq #[u, v] }) y a o .ellipsis := Heap.get?_push_of_some _ hz5
    refine wpAny_bind (wpAny_setField_rec hz6 (by simp) fun g7 hz7 s7 => ?_); replace hz7 : IsZip g7 y a o (rawInt g5.objs.size) := hz7
    refine wpAny_setField_rec hz7 (by simp) fun g8 hz8 s8 => ?_; replace hz8 : IsZip g8 y a o (rawInt g5.objs.size) := hz8
    have up : ∀ c r, c ≠ y → g5.get? c = some r → g8.get? c = some r := fun c r c1 e => s8.extBut _ _ c1 (s7.extBut _ _ c1 (Heap.get?_push_of_some _ e))
    have new8 : IsPair g8 g5.objs.size u v := s8.extBut _ _ (Nat.ne_of_gt ly) (s7.extBut _ _ (Nat.ne_of_gt ly) (Heap.get?_push_size _ rfl))
    have sz8 : g8.objs.size = g5.objs.size + 1 := by rw [s8.1, s7.1, Heap.size_push]
    rw [sz] at hz8 new8 sz8
    refine wpAny_pure ⟨_, rfl, ?_⟩; show Q (some (.ref g5.objs.size)) _; rw [sz]
    have upz : ∀ c r, c ≠ y → c ≠ o → c ≠ i → c ≠ k → z.heap.get? c = some r → g8.get? c = some r := fun c r c1 c2 c3 c4 e => up c r c1 (up5 c r c1 c2 c3 c4 e)
    refine fin g8 ⟨hz8, upz _ _ D.TIz D.TITO D.TIi1 D.TIi2 ha, ⟨_, _, up _ _ D.TOz ho5⟩, ?_, ?_, ?_, ?_⟩ new8 sz8 upz
    · obtain ⟨r, e, x⟩ := hi5; exact ⟨r, up _ r D.i1z e, x⟩
    · obtain ⟨r, e, x⟩ := hk5; exact ⟨r, up _ r D.i2z e, x⟩
    · obtain ⟨r, e, x⟩ := hp; exact ⟨r, upz _ r D.l1z D.l1TO D.l1i1 D.l1i2 e, x⟩
    · obtain ⟨r, e, x⟩ := hq; exact ⟨r, upz _ r D.l2z D.l2TO D.l2i1 D.l2i2 e, x⟩
  unfold pyNext
  exact wpAny_bind (wpAny_attempt (wpAny_callSpecial?_slot (name := Str.ofString "__next__") tz F.slot_zip_next (wpAny_call_entry F.slot_zip_next tz F.entry_zip_next (wpAny_mono main (fun r s' ⟨v, e, h⟩ => ⟨v, e, wpAny_pure h⟩) fun _ _ x => x.2.elim) (F.args_zip_next_1 _))))
private theorem zip_stop {y a o i k p q : Addr} {n : Nat} {xs us : Array Value} {Q : Option Value → Shared → Prop} (hh : A.handled = none) (D : ZipApart y a o i k p q) (S : ZSt z.heap y a o i k p q n xs us .none) (he : xs[n]? = none ∨ us[n]? = none)
    (fin : ∀ g, (∀ c r, c ≠ y → c ≠ o → c ≠ i → c ≠ k → z.heap.get? c = some r → g.get? c = some r) → Q none { z with heap := g }) : wpAny (model P W) A (pyNext (.ref y)) Q E z := by
  obtain ⟨hz, ha, ⟨b, c, ho⟩, hi, hk, hp, hq⟩ := S
  have tz : z.TypeIs (.ref y) "zip" := ⟨_, hz, rfl⟩
  have main : wpAny (model P W) A.in1 (Builtin.«zip.__next__» ⟨[.ref y], []⟩) (fun _ _ => False) (fun e s' => ∃ g x, e = .ref x ∧ s' = { z with heap := g } ∧ (∀ c r, c ≠ y → c ≠ o → c ≠ i → c ≠ k → z.heap.get? c = some r → g.get? c = some r) ∧ ∃ r, g.get? x = some r ∧ r.cls = .type "StopIteration") z := by
    show wpAny _ _ (field (.ref y) 2 >>= _) _ _ _; refine wpAny_bind (wpAny_field hz rfl (x := .bool false) rfl ?_)
    show wpAny _ _ (field (.ref y) 3 >>= _) _ _ _; refine wpAny_bind (wpAny_field hz rfl (x := .ref a) rfl ?_); refine wpAny_bind (wpAny_seqItems ha rfl ?_)
    show wpAny _ _ (Builtin.SmallTypes.ownedTupleIsFree (.ref y) >>= _) _ _ _; refine wpAny_bind ?_; unfold Builtin.SmallTypes.ownedTupleIsFree
    refine wpAny_bind (wpAny_field hz rfl (x := .none) rfl (wpAny_pure ?_)); simp only [if_true]; refine wpAny_bind (wpAny_rule ?_); refine wpAny_bind (wpAny_field hz rfl (x := .ref o) rfl ?_)
    refine wpAny_bind (wpAny_setField_rec hz (by simp) fun g1 hz1 s1 => ?_); replace hz1 : IsZip g1 y a o .ellipsis := hz1; refine wpAny_bind ?_; simp only [List.zipIdx_cons, List.zipIdx_nil, List.forIn_cons, List.forIn_nil]
    refine wpAny_bind (wpAny_bind (wpAny_onRaise ?_)); show wpAny _ _ (Builtin.SmallTypes.nextOf (.ref i) >>= _) _ _ _
    cases hu : xs[n]? with
    | none =>
      refine wpAny_bind (draw_end (A := A.in1) (show A.in1.handled = none from hh) (hi.extBut s1.extBut D.i1z) (hp.extBut s1.extBut D.l1z) hu fun g2 e s2 he2 => ?_)
      obtain ⟨r, er, cr⟩ := he2
      have hz2 : IsZip g2 y a o .ellipsis := s2 _ _ D.i1z.symm hz1
      have ne : e ≠ y := fun x => by subst x; rw [hz2] at er; cases er; simp at cr
      exact wpAny_setField_rec hz2 (by simp) fun g3 _ s3 => ⟨g3, e, rfl, rfl, fun c r c1 _ c3 _ x => s3.extBut _ _ c1 (s2 _ _ c3 (s1.extBut _ _ c1 x)), r, s3.extBut _ _ ne er, cr⟩
    | some u =>
      have hv : us[n]? = none := he.elim (fun z => by rw [hu] at z; cases z) id
      refine wpAny_bind (draw_tup (hi.extBut s1.extBut D.i1z) (hp.extBut s1.extBut D.l1z) hu fun g2 i2 s2 => wpAny_pure ?_)
      have ho2 : IsPair g2 o b c := s2.extBut _ _ D.TOi1 (s1.extBut _ _ D.TOz ho)
      refine wpAny_bind (wpAny_seqItems ho2 rfl ?_); refine wpAny_bind (wpAny_updateSeq_pair ho2 fun g3 ho3 s3 => ?_); refine wpAny_bind (wpAny_letGo (wpAny_pure ?_))
      refine wpAny_bind (wpAny_bind (wpAny_onRaise ?_)); show wpAny _ _ (Builtin.SmallTypes.nextOf (.ref k) >>= _) _ _ _
      refine wpAny_bind (draw_end (A := A.in1) (show A.in1.handled = none from hh) (((hk.extBut s1.extBut D.i2z).extBut s2.extBut D.i12.symm).extBut s3.extBut D.TOi2.symm) (((hq.extBut s1.extBut D.l2z).extBut s2.extBut D.l2i1).extBut s3.extBut D.l2TO) hv fun g4 e s4 he4 => ?_)
      obtain ⟨r, er, cr⟩ := he4
      have hz4 : IsZip g4 y a o .ellipsis := s4 _ _ D.i2z.symm (s3.extBut _ _ D.TOz.symm (s2.extBut _ _ D.i1z.symm hz1))
      have ne : e ≠ y := fun x => by subst x; rw [hz4] at er; cases er; simp at cr
      exact wpAny_setField_rec hz4 (by simp) fun g5 _ s5 => ⟨g5, e, rfl, rfl, fun c r c1 c2 c3 c4 x => s5.extBut _ _ c1 (s4 _ _ c4 (s3.extBut _ _ c2 (s2.extBut _ _ c3 (s1.extBut _ _ c1 x)))), r, s5.extBut _ _ ne er, cr⟩
  unfold pyNext
  refine wpAny_bind (wpAny_attempt (wpAny_callSpecial?_slot (name := Str.ofString "__next__") tz F.slot_zip_next (wpAny_call_entry F.slot_zip_next tz F.entry_zip_next (wpAny_mono main (fun _ _ x => x.elim) fun e s' h => ?_) (F.args_zip_next_1 _))))
  obtain ⟨g, x, rfl, rfl, up, r, er, cr⟩ := h
  exact wpAny_bind (wpAny_isInstance (T := "StopIteration") (b := true) ⟨r, er, cr⟩ isSubtype_stop (wpAny_pure (fin _ up)))
abbrev tz1 (g : Heap) (p : Addr) : Heap := g.push { cls := .type "tuple_iterator", data := .fields #[.ref p, .int 0 0] }
abbrev tz2 (g : Heap) (p q : Addr) : Heap := (tz1 g p).push { cls := .type "tuple_iterator", data := .fields #[.ref q, .int 0 0] }
abbrev tz3 (g : Heap) (p q : Addr) : Heap := (tz2 g p q).push { cls := .type "tuple", data := .seq #[.ref g.objs.size, .ref (tz1 g p).objs.size] }
abbrev tz4 (g : Heap) (p q : Addr) : Heap := (tz3 g p q).push { cls := .type "tuple", data := .seq #[.none, .none] }
abbrev tz5 (g : Heap) (p q : Addr) : Heap := (tz4 g p q).push { cls := .type "zip", data := .fields #[.none, .bool false, .bool false, .ref (tz2 g p q).objs.size, .ref (tz3 g p q).objs.size] }
private theorem zip_made {p q : Addr} {xs us : Array Value} {Q : Value → Shared → Prop} (hp : z.heap.IsTuple p xs) (hq : z.heap.IsTuple q us)
    (fin : ∀ g, ZSt g (z.heap.objs.size + 4) (z.heap.objs.size + 2) (z.heap.objs.size + 3) z.heap.objs.size (z.heap.objs.size + 1) p q 0 xs us .none → g.objs.size = z.heap.objs.size + 5 → (∀ c r, z.heap.get? c = some r → g.get? c = some r) → Q (.ref (z.heap.objs.size + 4)) { z with heap := g }) :
    wpAny (model P W) A (call (.type "zip") [.ref p, .ref q]) Q E z := by
  have M : Meets (Builtin.«zip.__new__» ⟨[.type "zip", .ref p, .ref q], []⟩) (fun _ R s => s.heap.IsTuple p xs ∧ s.heap.IsTuple q us ∧ R (.ok (.ret (.ref (tz4 s.heap p q).objs.size))) { s with heap := tz5 s.heap p q }) :=
    .of_wp fun prog w A R s h => by
      obtain ⟨hp0, g, d, tk, os⟩ := s; obtain ⟨h1, h2, h⟩ := h
      have hsub := sub_zip
      have L1 : Heap.IsTuple (Shared.heap ⟨hp0, g, d, tk, os⟩) p xs := h1
      have L2 : Heap.IsTuple (Shared.heap ⟨hp0.push { cls := .type "tuple_iterator", data := .fields #[.ref p, .int 0 0] }, g, d, tk, os⟩) q us := by
        obtain ⟨r, e, x⟩ := h2; exact ⟨r, Heap.get?_push_of_some _ e, x⟩
      wp_walk using wpAny_pyIter_tuple L1, wpAny_pyIter_tuple L2
      exact ⟨_, rfl, h⟩
  have n1 : (tz1 z.heap p).objs.size = z.heap.objs.size + 1 := Heap.size_push ..
  have n2 : (tz2 z.heap p q).objs.size = z.heap.objs.size + 2 := by rw [Heap.size_push, n1]
  have n3 : (tz3 z.heap p q).objs.size = z.heap.objs.size + 3 := by rw [Heap.size_push, n2]
  have n4 : (tz4 z.heap p q).objs.size = z.heap.objs.size + 4 := by rw [Heap.size_push, n3]
  have n5 : (tz5 z.heap p q).objs.size = z.heap.objs.size + 5 := by rw [Heap.size_push, n4]
  have a5 : (tz5 z.heap p q).get? (tz4 z.heap p q).objs.size = some _ := Heap.get?_push_size _ rfl
  have a4 : (tz5 z.heap p q).get? (tz3 z.heap p q).objs.size = some _ := Heap.get?_push_of_some _ (Heap.get?_push_size _ rfl)
  have a3 : (tz5 z.heap p q).get? (tz2 z.heap p q).objs.size = some _ := Heap.get?_push_of_some _ (Heap.get?_push_of_some _ (Heap.get?_push_size _ rfl))
  have a2 : (tz5 z.heap p q).get? (tz1 z.heap p).objs.size = some _ := Heap.get?_push_of_some _ (Heap.get?_push_of_some _ (Heap.get?_push_of_some _ (Heap.get?_push_size _ rfl)))
  have a1 : (tz5 z.heap p q).get? z.heap.objs.size = some _ := Heap.get?_push_of_some _ (Heap.get?_push_of_some _ (Heap.get?_push_of_some _ (Heap.get?_push_of_some _ (Heap.get?_push_size _ rfl))))
  have up : ∀ c r, z.heap.get? c = some r → (tz5 z.heap p q).get? c = some r := fun c r x => Heap.get?_push_of_some _ (Heap.get?_push_of_some _ (Heap.get?_push_of_some _ (Heap.get?_push_of_some _ (Heap.get?_push_of_some _ x))))
  rw [n2, n3, n4] at a5
  rw [n1, n2] at a3
  rw [n3] at a4
  rw [n1] at a2
  refine callType_new F.called_zip (by decide) (F.typeCall_zip_2 _ _) (F.newCall_zip_2 _ _) (fun obj => F.args_object_init_3 obj _ _) F.entry_zip_new M ⟨hp, hq, ?_⟩
  show _ ∧ _
  rw [n4]
  refine ⟨⟨_, a5, rfl⟩, fin _ ⟨a5, a3, ⟨_, _, a4⟩, ⟨_, a1, rfl, rfl⟩, ⟨_, a2, rfl, rfl⟩, ?_, ?_⟩ n5 up⟩
  · obtain ⟨r, e, x⟩ := hp; exact ⟨r, up _ _ e, x⟩
  · obtain ⟨r, e, x⟩ := hq; exact ⟨r, up _ _ e, x⟩
end
structure ZI (g : Heap) (y a o i k p q : Addr) (n : Nat) (f : Value) : Prop where
  zp : IsZip g y a o f
  its : IsPair g a (.ref i) (.ref k)
  own : ∃ b c, IsPair g o b c
  i1 : g.IsTupleIter i p n
  i2 : g.IsTupleIter k q n
private theorem ZSt.zi {g : Heap} {y a o i k p q : Addr} {n : Nat} {xs us : Array Value} {f : Value} (S : ZSt g y a o i k p q n xs us f) : ZI g y a o i k p q n f := ⟨S.zp, S.its, S.own, S.i1, S.i2⟩
def Itz (K : PySem.W.Frag) (p q : Addr) (xs us : List V) : It :=
  ⟨fun n H => SqT K H p xs ∧ SqT K H q us ∧ n < min xs.length us.length, fun n H v H' => ∃ (T : Addr) (x u : V), H T = none ∧ xs[n]? = some x ∧ us[n]? = some u ∧ v = .ref T ∧ H' = upd H T (.tup [x, u]), fun n H => SqT K H p xs ∧ SqT K H q us ∧ min xs.length us.length ≤ n⟩
private theorem turn_zip {P : Program} {w : World} {K : PySem.W.Frag} {elts : List Expr} {x1 : Nat} {tpos : Pos} {y a o i k p q : Addr} {xs us : List V} (D : ZipApart y a o i k p q) :
    Turn P w K (.Tuple elts x1 tpos) (Itz K p q xs us) [y, a, o, i, k] y (fun n h => ZI h y a o i k p q n .none) where
  mem := by simp
  obj := fun n h st b hb => by
    obtain ⟨hz, ha, ⟨b1, b2, ho⟩, ⟨r1, e1, _, d1⟩, ⟨r2, e2, _, d2⟩⟩ := st
    simp only [List.mem_cons, List.not_mem_nil, or_false] at hb
    rcases hb with rfl | rfl | rfl | rfl | rfl
    · exact ⟨_, hz, fun v z => by cases z⟩
    · exact ⟨_, ha, fun v z => by cases z⟩
    · exact ⟨_, ho, fun v z => by cases z⟩
    · exact ⟨_, e1, fun v z => by rw [d1] at z; cases z⟩
    · exact ⟨_, e2, fun v z => by rw [d2] at z; cases z⟩
  keep := fun n h h' st kp => by
    obtain ⟨hz, ha, ⟨b1, b2, ho⟩, ⟨r1, e1, x1⟩, ⟨r2, e2, x2⟩⟩ := st
    exact ⟨kp y (by simp) _ hz, kp a (by simp) _ ha, ⟨b1, b2, kp o (by simp) _ ho⟩, ⟨r1, kp i (by simp) _ e1, x1⟩, ⟨r2, kp k (by simp) _ e2, x2⟩⟩
  item := by
    intro X hP hw hK hc n pins s σ H E I hf st hg
    subst hP hw hK
    obtain ⟨hp, hq, hn⟩ := hg
    obtain ⟨its, r1, T1, z1⟩ := I.tuple hp
    obtain ⟨jts, r2, T2, z2⟩ := I.tuple hq
    have hx : xs[n]? = some xs[n] := List.getElem?_eq_getElem (by omega)
    have hu : us[n]? = some us[n] := List.getElem?_eq_getElem (by omega)
    obtain ⟨v1, e1, q1⟩ := r1.get hx
    obtain ⟨v2, e2, q2⟩ := r2.get hu
    have fy := hf y (by simp)
    have fa := hf a (by simp)
    have fo := hf o (by simp)
    have fi := hf i (by simp)
    have fk := hf k (by simp)
    have S : ZSt s.heap y a o i k p q n its.toArray jts.toArray .none := ⟨st.zp, st.its, st.own, st.i1, st.i2, T1, T2⟩
    refine zip_turn D S (u := v1) (v := v2) (by simpa using e1) (by simpa using e2) fun g Sg new sz up => ?_
    have hT : H s.heap.objs.size = none := I.hok.fresh (Nat.le_refl _)
    have inch : ∀ {b : Addr}, H b ≠ none → b ≠ y ∧ b ≠ o ∧ b ≠ i ∧ b ≠ k := fun {b} h => ⟨fun z => h (by rw [z]; exact fy.1), fun z => h (by rw [z]; exact fo.1), fun z => h (by rw [z]; exact fi.1), fun z => h (by rw [z]; exact fk.1)⟩
    have hok : HOk X.prog X.w (upd H s.heap.objs.size (.tup [xs[n], us[n]])) g := fun b u e => by
      by_cases hb : b = s.heap.objs.size
      · subst hb
        rw [upd_same] at e
        cases e
        refine ⟨by simp only [List.length_cons, List.length_nil]; rw [sizeLine_eq]; decide, [v1, v2], .cons q1 (.cons q2 .nil), ⟨_, new, rfl, _, rfl⟩⟩
      · rw [upd_ne hb] at e
        refine (I.hok b u e).stay (fun c r hc q => ?_) (fun c q => by rw [upd_ne (ne_of_none q hT)]; exact q) fun c ys q => by rw [upd_ne (ne_of_none q hT)]; exact q
        have hne : H c ≠ none := by
          rcases hc with rfl | hc
          · rw [e]; intro z; cases z
          · rw [hc]; intro z; cases z
        obtain ⟨c1, c2, c3, c4⟩ := inch hne
        exact up c r c1 c2 c3 c4 q
    have I1 : Inv X pins σ (upd H s.heap.objs.size (.tup [xs[n], us[n]])) { s with heap := g } := by
      refine I.step (g' := s.gens) (d' := s.drawn) (t' := s.toks) (ch := [y, o, i, k]) (fun b hb => ?_) (fun b r _ _ hc e _ => ?_) (fun b r _ _ hc e _ => ⟨r.slots, ?_⟩) (fun b r hc e hn => ?_) (fun b r hc e => ⟨r, ?_⟩) (fun b ys e => by rw [upd_ne (ne_of_none e hT)]; exact e)
        (fun b r ys e => by rw [upd_ne (ne_of_none e hT)]; exact e) (fun b ps e => ⟨#[], by rw [upd_ne (ne_of_none e hT), e]; simp⟩) (fun m hm => ?_) hok I.bare
      · simp only [List.mem_cons, List.not_mem_nil, or_false] at hb
        rcases hb with rfl | rfl | rfl | rfl
        · exact ⟨fy.2.2.2.1, fy.2.1, fy.2.2.2.2.1, fy.2.2.2.2.2⟩
        · exact ⟨fo.2.2.2.1, fo.2.1, fo.2.2.2.2.1, fo.2.2.2.2.2⟩
        · exact ⟨fi.2.2.2.1, fi.2.1, fi.2.2.2.2.1, fi.2.2.2.2.2⟩
        · exact ⟨fk.2.2.2.1, fk.2.1, fk.2.2.2.2.1, fk.2.2.2.2.2⟩
      · simp only [List.mem_cons, List.not_mem_nil, or_false, not_or] at hc
        exact up b r hc.1 hc.2.1 hc.2.2.1 hc.2.2.2 e
      · simp only [List.mem_cons, List.not_mem_nil, or_false, not_or] at hc
        exact up b r hc.1 hc.2.1 hc.2.2.1 hc.2.2.2 e
      · rw [upd_ne (Nat.ne_of_lt (Heap.lt_size e))]; exact hn
      · simp only [List.mem_cons, List.not_mem_nil, or_false, not_or] at hc
        exact up b r hc.1 hc.2.1 hc.2.2.1 hc.2.2.2 e
      · obtain ⟨r, es, ep, er, d⟩ := hm
        exact ⟨r, es, ep, up _ r (Ne.symm fy.2.1) (Ne.symm fo.2.1) (Ne.symm fi.2.1) (Ne.symm fk.2.1) er, d⟩
    have hfp : ∀ b ∈ [y, a, o, i, k], upd H s.heap.objs.size (.tup [xs[n], us[n]]) b = none := fun b hb => by
      have fb := hf b hb
      have lt : b < s.heap.objs.size := by
        obtain ⟨hz, ha, ⟨b1, b2, ho⟩, ⟨r1, e1, _⟩, ⟨r2, e2, _⟩⟩ := st
        simp only [List.mem_cons, List.not_mem_nil, or_false] at hb
        rcases hb with rfl | rfl | rfl | rfl | rfl
        · exact Heap.lt_size hz
        · exact Heap.lt_size ha
        · exact Heap.lt_size ho
        · exact Heap.lt_size e1
        · exact Heap.lt_size e2
      rw [upd_ne (Nat.ne_of_lt lt)]; exact fb.1
    refine ⟨_, rfl, wpAny_letOwnedTupleGo_zip Sg.zp fun g2 hz2 s2 => ?_⟩
    refine ⟨.ref s.heap.objs.size, _, I1.turned (it := y) (t' := s.toks) (fun b r hb e => s2.extBut _ _ hb e) (hfp y (by simp)) fy.2.1 fy.2.2.2.1 fy.2.2.2.2.1 fy.2.2.2.2.2, rfl, ⟨_, _, _, hT, hx, hu, rfl, rfl⟩, ⟨hz2, s2.extBut _ _ D.TIz Sg.its, ?_, Sg.i1.extBut s2.extBut D.i1z, Sg.i2.extBut s2.extBut D.i2z⟩, hfp⟩
    obtain ⟨b1, b2, ho⟩ := Sg.own
    exact ⟨b1, b2, s2.extBut _ _ D.TOz ho⟩
  done := by
    intro X hP hw hK hc n pins s σ H E I hf st hg
    subst hP hw hK
    obtain ⟨hp, hq, hn⟩ := hg
    obtain ⟨its, r1, T1, z1⟩ := I.tuple hp
    obtain ⟨jts, r2, T2, z2⟩ := I.tuple hq
    have fy := hf y (by simp)
    have fo := hf o (by simp)
    have fi := hf i (by simp)
    have fk := hf k (by simp)
    have S : ZSt s.heap y a o i k p q n its.toArray jts.toArray .none := ⟨st.zp, st.its, st.own, st.i1, st.i2, T1, T2⟩
    have l1 := r1.length
    have l2 := r2.length
    have he : its.toArray[n]? = none ∨ jts.toArray[n]? = none := by
      by_cases h : xs.length ≤ n
      · exact .inl (by simp; omega)
      · exact .inr (by simp; omega)
    refine zip_stop (I.ok.hd hc) D S he fun g up => ⟨rfl, ?_⟩
    have inch : ∀ {b : Addr}, H b ≠ none → b ≠ y ∧ b ≠ o ∧ b ≠ i ∧ b ≠ k := fun {b} h => ⟨fun z => h (by rw [z]; exact fy.1), fun z => h (by rw [z]; exact fo.1), fun z => h (by rw [z]; exact fi.1), fun z => h (by rw [z]; exact fk.1)⟩
    refine I.step (g' := s.gens) (d' := s.drawn) (t' := s.toks) (ch := [y, o, i, k]) (fun b hb => ?_) (fun b r _ _ hc e _ => ?_) (fun b r _ _ hc e _ => ⟨r.slots, ?_⟩) (fun b r hc e hn => hn) (fun b r hc e => ⟨r, ?_⟩) (fun b ys e => e) (fun b r ys e => e) (fun b ps e => ⟨#[], by rw [e]; simp⟩) (fun m hm => ?_) (fun b u e => ?_) I.bare
    · simp only [List.mem_cons, List.not_mem_nil, or_false] at hb
      rcases hb with rfl | rfl | rfl | rfl
      · exact ⟨fy.2.2.2.1, fy.2.1, fy.2.2.2.2.1, fy.2.2.2.2.2⟩
      · exact ⟨fo.2.2.2.1, fo.2.1, fo.2.2.2.2.1, fo.2.2.2.2.2⟩
      · exact ⟨fi.2.2.2.1, fi.2.1, fi.2.2.2.2.1, fi.2.2.2.2.2⟩
      · exact ⟨fk.2.2.2.1, fk.2.1, fk.2.2.2.2.1, fk.2.2.2.2.2⟩
    · simp only [List.mem_cons, List.not_mem_nil, or_false, not_or] at hc
      exact up b r hc.1 hc.2.1 hc.2.2.1 hc.2.2.2 e
    · simp only [List.mem_cons, List.not_mem_nil, or_false, not_or] at hc
      exact up b r hc.1 hc.2.1 hc.2.2.1 hc.2.2.2 e
    · simp only [List.mem_cons, List.not_mem_nil, or_false, not_or] at hc
      exact up b r hc.1 hc.2.1 hc.2.2.1 hc.2.2.2 e
    · obtain ⟨r, es, ep, er, d⟩ := hm
      exact ⟨r, es, ep, up _ r (Ne.symm fy.2.1) (Ne.symm fo.2.1) (Ne.symm fi.2.1) (Ne.symm fk.2.1) er, d⟩
    · refine (I.hok b u e).stay (fun c r hc q => ?_) (fun _ q => q) fun _ _ q => q
      have hne : H c ≠ none := by
        rcases hc with rfl | hc
        · rw [e]; intro z; cases z
        · rw [hc]; intro z; cases z
      obtain ⟨c1, c2, c3, c4⟩ := inch hne
      exact up c r c1 c2 c3 c4 q
  self := fun _ _ _ _ _ st h => wpAny_pyIter_zip st.zp h
private theorem zapart (n p q : Nat) (h1 : p < n) (h2 : q < n) : ZipApart (n + 4) (n + 2) (n + 3) n (n + 1) p q where
  TIz := show (n + 2 : Nat) ≠ n + 4 by omega
  TOz := show (n + 3 : Nat) ≠ n + 4 by omega
  i1z := show (n : Nat) ≠ n + 4 by omega
  i2z := show (n + 1 : Nat) ≠ n + 4 by omega
  TITO := show (n + 2 : Nat) ≠ n + 3 by omega
  TIi1 := show (n + 2 : Nat) ≠ n by omega
  TIi2 := show (n + 2 : Nat) ≠ n + 1 by omega
  TOi1 := show (n + 3 : Nat) ≠ n by omega
  TOi2 := show (n + 3 : Nat) ≠ n + 1 by omega
  i12 := show (n : Nat) ≠ n + 1 by omega
  l1z := show (p : Nat) ≠ n + 4 by omega
  l1TO := show (p : Nat) ≠ n + 3 by omega
  l1i1 := show (p : Nat) ≠ n by omega
  l1i2 := show (p : Nat) ≠ n + 1 by omega
  l2z := show (q : Nat) ≠ n + 4 by omega
  l2TO := show (q : Nat) ≠ n + 3 by omega
  l2i1 := show (q : Nat) ≠ n by omega
  l2i2 := show (q : Nat) ≠ n + 1 by omega
section
variable {X : Cx}
def iZip (K : PySem.W.Frag) (ta : TA) : TI := fun σ H R => ta σ H fun vs H1 => ∃ (p q : Addr) (xs us : List V), vs = [.ref p, .ref q] ∧ SqT K H1 p xs ∧ SqT K H1 q us ∧ R (Itz K p q xs us) H1
private theorem pi_zip {elts : List Expr} {x1 : Nat} {tpos : Pos} {a b : Expr} {ta : TA} {p pos : Pos} (hg : Gl X "zip") (hm : X.mg "zip" = none) (ha : PA X [a, b] ta) (hs : starEach [a, b] X.env = [(false, eval a X.env), (false, eval b X.env)] := by rfl) (hs2 : starEach [b] X.env = [(false, eval b X.env)] := by rfl) :
    PI X (.Tuple elts x1 tpos) (.Call (.Name "zip" p) [a, b] [] pos) (iZip X.K ta) := by
  intro pins s σ H R I h
  refine Call_ (ld_blt I hg hm (u := .type "zip") (by rfl) (PyProof.Rows.callWith_type1 (thn (ha pos pins s σ H _ I h) fun us s1 ⟨vs, H1, I1, r1, q1⟩ => ?_) (by rw [hs, hs2]) (by rw [hs2]; rfl)))
  obtain ⟨p1, p2, xs, ys, rfl, hp, hq, q⟩ := q1
  obtain ⟨u, w', rfl, ru, rw'⟩ := vals2 r1
  cases (show u = Value.ref _ from ru)
  cases (show w' = Value.ref _ from rw')
  obtain ⟨its, r1, T1, z1⟩ := I1.tuple hp
  obtain ⟨jts, r2, T2, z2⟩ := I1.tuple hq
  refine zip_made T1 T2 fun g S sz up => wpAny_pyIter_zip S.zp ?_
  have lt1 : p1 < s1.heap.objs.size := by obtain ⟨r, e, _⟩ := T1; exact Heap.lt_size e
  have lt2 : p2 < s1.heap.objs.size := by obtain ⟨r, e, _⟩ := T2; exact Heap.lt_size e
  refine ⟨_, _, _, _, H1, rfl, I1.kept (t' := s1.toks) up, turn_zip (zapart _ _ _ lt1 lt2), S.zi, fun b hb => ?_, q⟩
  have hb' : s1.heap.objs.size ≤ b := by
    simp only [List.mem_cons, List.not_mem_nil, or_false] at hb
    rcases hb with rfl | rfl | rfl | rfl | rfl
    · exact Nat.le_add_right _ _
    · exact Nat.le_add_right _ _
    · exact Nat.le_add_right _ _
    · exact Nat.le_refl _
    · exact Nat.le_add_right _ _
  exact I1.fpOk hb' (I1.hok.fresh hb')
private theorem for_zip {K : PySem.W.Frag} {p q : Addr} {xs us : List V} {g : TG} {tb : TS} {D : Ends} {σ : St} {H : Hp} (Pv : Nat → St → Hp → Prop) (h0 : Pv 0 σ H) (hl : ∀ i σ H, Pv i σ H → SqT K H p xs ∧ SqT K H q us)
    (hs : ∀ i x u T σ H, xs[i]? = some x → us[i]? = some u → H T = none → Pv i σ H → g (.ref T) σ (upd H T (.tup [x, u])) fun σ2 H2 => tb { D with nx := Pv (i + 1), ct := Pv (i + 1), bk := D.nx } σ2 H2) (hd : ∀ σ H, Pv (min xs.length us.length) σ H → D.nx σ H) :
    ∃ W : Nat → Nat → St → Hp → Prop, (∃ m, W 0 m σ H) ∧ ∀ i m σ H, W i m σ H →
      ((Itz K p q xs us).stop i H ∧ D.nx σ H) ∨ ((Itz K p q xs us).go i H ∧ ∃ N : St → Hp → Prop, (∀ σ' H', N σ' H' → ∃ m', m' < m ∧ W (i + 1) m' σ' H') ∧ ∀ x H', (Itz K p q xs us).yld i H x H' → g x σ H' fun σ2 H2 => tb { D with nx := N, ct := N, bk := D.nx } σ2 H2) := by
  refine ⟨fun i m σ H => m = min xs.length us.length - i ∧ i ≤ min xs.length us.length ∧ Pv i σ H, ⟨_, rfl, Nat.zero_le _, h0⟩, ?_⟩
  rintro i m σ H ⟨rfl, hi, p⟩
  have q := hl i σ H p
  by_cases hlt : i < min xs.length us.length
  · refine .inr ⟨⟨q.1, q.2, hlt⟩, Pv (i + 1), fun σ' H' p' => ⟨_, by omega, rfl, hlt, p'⟩, fun x H' y => ?_⟩
    obtain ⟨T, a, b, hT, e1, e2, rfl, rfl⟩ := y
    exact hs i a b T σ H e1 e2 hT p
  · have e : i = min xs.length us.length := by omega
    subst e
    exact .inl ⟨⟨q.1, q.2, Nat.le_refl _⟩, hd σ H p⟩
end
end L2
set_option Elab.async false
set_option linter.all false
set_option maxRecDepth 100000
set_option maxHeartbeats 4000000
namespace Pv
open PySem L2
mutual
def eqT : Th → Th → Bool
  | .non, .non => true
  | .int a, .int b => a == b
  | .str a, .str b => a == b
  | .tup a, .tup b => eqL a b
  | _, _ => false
def eqL : List Th → List Th → Bool
  | [], [] => true
  | t :: r, u :: q => eqT t u && eqL r q
  | _, _ => false
end
mutual
private theorem eqT_iff : ∀ t u : Th, eqT t u = true ↔ t = u
  | .non, .non => by simp [eqT]
  | .non, .int _ => by simp [eqT]
  | .non, .str _ => by simp [eqT]
  | .non, .tup _ => by simp [eqT]
  | .int _, .non => by simp [eqT]
  | .int a, .int b => by simp [eqT]
  | .int _, .str _ => by simp [eqT]
  | .int _, .tup _ => by simp [eqT]
  | .str _, .non => by simp [eqT]
  | .str _, .int _ => by simp [eqT]
  | .str a, .str b => by simp [eqT]
  | .str _, .tup _ => by simp [eqT]
  | .tup _, .non => by simp [eqT]
  | .tup _, .int _ => by simp [eqT]
  | .tup _, .str _ => by simp [eqT]
  | .tup a, .tup b => by
    have := eqL_iff a b
    simp [eqT, this]
private theorem eqL_iff : ∀ a b : List Th, eqL a b = true ↔ a = b
  | [], [] => by simp [eqL]
  | [], _ :: _ => by simp [eqL]
  | _ :: _, [] => by simp [eqL]
  | t :: r, u :: q => by
    have h1 := eqT_iff t u
    have h2 := eqL_iff r q
    simp [eqL, h1, h2]
end
private theorem eqT_refl (t : Th) : eqT t t = true := (eqT_iff t t).mpr rfl
private theorem eqL_range : ∀ a b : List Th, eqL a b = ((List.range (min a.length b.length)).all (fun j => eqT (a[j]?.getD .non) (b[j]?.getD .non)) && a.length == b.length)
  | [], [] => rfl
  | [], _ :: _ => by simp [eqL]
  | _ :: _, [] => by simp [eqL]
  | t :: r, u :: q => by
    have h := eqL_range r q
    show (eqT t u && eqL r q) = _
    rw [h, List.length_cons, List.length_cons, Nat.succ_min_succ, List.range_succ_eq_map, List.all_cons, List.all_map]
    have e : (fun j => eqT ((t :: r)[j]?.getD .non) ((u :: q)[j]?.getD .non)) ∘ Nat.succ = fun j => eqT (r[j]?.getD .non) (q[j]?.getD .non) := by
      funext j
      simp
    rw [e]
    have e2 : (r.length + 1 == q.length + 1) = (r.length == q.length) := by
      rw [Bool.eq_iff_iff]; simp
    rw [e2, Bool.and_assoc]
    rfl
private theorem Rep.inj {H : Hp} {t u : Th} {v : V} (r : Rep H t v) (q : Rep H u v) : t = u := by
  induction r generalizing u with
  | non => cases q; rfl
  | int i => cases q; rfl
  | str x => cases q; rfl
  | @tup a xs ts e l h ih =>
    cases q with
    | @tup _ ys us e' l' h' =>
      rw [e] at e'
      cases e'
      refine congrArg Th.tup (List.ext_getElem? fun i => ?_)
      by_cases hi : i < xs.length
      · have h1 : ts[i]? = some ts[i] := List.getElem?_eq_getElem (by omega)
        have h2 : us[i]? = some us[i] := List.getElem?_eq_getElem (by omega)
        rw [h1, h2, ih i xs[i] ts[i] (List.getElem?_eq_getElem hi) h1 (h' i xs[i] us[i] (List.getElem?_eq_getElem hi) h2)]
      · rw [List.getElem?_eq_none (by omega), List.getElem?_eq_none (by omega)]
open PySem.SeqAt in
section
variable {X : Cx} {pins : List (Addr × Obj)} {σ : L2.St} {H : Hp} {s : Shared}
private theorem items_eq (I : Inv X pins σ H s) {a b : Addr} {xs ys : List V} {ts us : List Th} {A : Around} (e : H a = some (.tup xs)) (e' : H b = some (.tup ys)) (l : xs.length = ts.length) (l' : ys.length = us.length)
    (ih : ∀ (j : Nat) (x y : V) (t u : Th) (vx vy : Value), xs[j]? = some x → ys[j]? = some y → ts[j]? = some t → us[j]? = some u → RelV x vx → RelV y vy → EqAt A.in1 s vx vy (eqT t u)) :
    ∃ its jts : List Value, s.heap.IsTuple a its.toArray ∧ s.heap.IsTuple b jts.toArray ∧ its.length = ts.length ∧ jts.length = us.length ∧
      ∀ j (h1 : j < its.toArray.size) (h2 : j < jts.toArray.size), EqAt A.in1 s its.toArray[j] jts.toArray[j] (eqT (ts[j]?.getD .non) (us[j]?.getD .non)) := by
  obtain ⟨its, r1, T1, _⟩ := I.tuple (SqT.of e)
  obtain ⟨jts, r2, T2, _⟩ := I.tuple (SqT.of e')
  have n1 := r1.length
  have n2 := r2.length
  refine ⟨its, jts, T1, T2, by omega, by omega, fun j h1 h2 => ?_⟩
  have h1' : j < its.length := by simpa using h1
  have h2' : j < jts.length := by simpa using h2
  obtain ⟨vx, ex, rx⟩ := r1.get (List.getElem?_eq_getElem (show j < xs.length by omega))
  obtain ⟨vy, ey, ry⟩ := r2.get (List.getElem?_eq_getElem (show j < ys.length by omega))
  have g1 : ts[j]? = some ts[j] := List.getElem?_eq_getElem (by omega)
  have g2 : us[j]? = some us[j] := List.getElem?_eq_getElem (by omega)
  have q := ih j _ _ _ _ vx vy (List.getElem?_eq_getElem (show j < xs.length by omega)) (List.getElem?_eq_getElem (show j < ys.length by omega)) g1 g2 rx ry
  rw [g1, g2]
  have z1 : its.toArray[j] = vx := by
    have : its[j]? = some its[j] := List.getElem?_eq_getElem h1'
    rw [this] at ex
    simpa using Option.some.inj ex
  have z2 : jts.toArray[j] = vy := by
    have : jts[j]? = some jts[j] := List.getElem?_eq_getElem h2'
    rw [this] at ey
    simpa using Option.some.inj ey
  rw [z1, z2]
  exact q
private theorem eqAt_T (I : Inv X pins σ H s) {t : Th} {x : V} (r : Rep H t x) : ∀ {u : Th} {y : V} {vx vy : Value} {A : Around}, Rep H u y → RelV x vx → RelV y vy → A.units + dep t + 1 < cLine → EqAt A s vx vy (eqT t u) := by
  induction r with
  | non =>
    intro u y vx vy A q rx ry hu
    cases (show vx = Value.none from rx)
    cases q with
    | non => cases (show vy = Value.none from ry); exact EqAt.same _
    | int i => obtain ⟨k, rfl⟩ := ry; exact EqAt.none_int i k
    | str z => obtain ⟨k, rfl⟩ := ry; exact EqAt.none_str z k
    | tup e l h =>
      cases (show vy = Value.ref _ from ry)
      obtain ⟨its, _, T, _⟩ := I.tuple (SqT.of e)
      exact EqAt.none_tuple T (by omega)
  | int a =>
    intro u y vx vy A q rx ry hu
    obtain ⟨k1, rfl⟩ := rx
    cases q with
    | non => cases (show vy = Value.none from ry); exact EqAt.int_none a k1
    | int i => obtain ⟨k, rfl⟩ := ry; exact EqAt.int_int a k1 i k
    | str z => obtain ⟨k, rfl⟩ := ry; exact EqAt.int_str a k1 z k
    | tup e l h =>
      cases (show vy = Value.ref _ from ry)
      obtain ⟨its, _, T, _⟩ := I.tuple (SqT.of e)
      exact EqAt.int_tuple a k1 T (by omega)
  | str a =>
    intro u y vx vy A q rx ry hu
    obtain ⟨k1, rfl⟩ := rx
    cases q with
    | non => cases (show vy = Value.none from ry); exact EqAt.str_none a k1
    | int i => obtain ⟨k, rfl⟩ := ry; exact EqAt.str_int a k1 i k
    | str z => obtain ⟨k, rfl⟩ := ry; exact EqAt.str_str a k1 z k
    | tup e l h =>
      cases (show vy = Value.ref _ from ry)
      obtain ⟨its, _, T, _⟩ := I.tuple (SqT.of e)
      exact EqAt.str_tuple a k1 T (by omega)
  | @tup a xs ts e l h ih =>
    intro u y vx vy A q rx ry hu
    cases (show vx = Value.ref a from rx)
    cases q with
    | non =>
      cases (show vy = Value.none from ry)
      obtain ⟨its, _, T, _⟩ := I.tuple (SqT.of e)
      exact EqAt.tuple_none T (by omega)
    | int i =>
      obtain ⟨k, rfl⟩ := ry
      obtain ⟨its, _, T, _⟩ := I.tuple (SqT.of e)
      exact EqAt.tuple_int i k T (by omega)
    | str z =>
      obtain ⟨k, rfl⟩ := ry
      obtain ⟨its, _, T, _⟩ := I.tuple (SqT.of e)
      exact EqAt.tuple_str z k T (by omega)
    | @tup b ys us e' l' h' =>
      cases (show vy = Value.ref b from ry)
      by_cases hab : a = b
      · subst hab
        have z := Rep.inj (Rep.tup e l h) (Rep.tup e' l' h')
        rw [← z, eqT_refl]
        exact EqAt.same _
      · have hd : dep (.tup ts) = depL ts + 1 := rfl
        obtain ⟨its, jts, T1, T2, n1, n2, q⟩ := items_eq (A := A) I e e' l l' fun j x y t u vx vy h1 h2 h3 h4 rx ry => ih j x t h1 h3 (h' j y u h2 h4) rx ry (by
          have := depL_get h3
          show A.units + 1 + dep t + 1 < cLine
          omega)
        have R := RcAt.tuples T1 T2 (show A.units < cLine by omega) q
        have e3 : ((List.range (min its.toArray.size jts.toArray.size)).all (fun j => eqT (ts[j]?.getD .non) (us[j]?.getD .non)) && its.toArray.size == jts.toArray.size) = eqT (.tup ts) (.tup us) := by
          show _ = eqL ts us
          rw [eqL_range, List.size_toArray, List.size_toArray, n1, n2]
        rw [e3] at R
        exact EqAt.of_refs hab R
private theorem rc_T (I : Inv X pins σ H s) {t u : Th} {x y : V} {vx vy : Value} {A : Around} (r : Rep H t x) (q : Rep H u y) (rx : RelV x vx) (ry : RelV y vy) (hu : A.units + dep t + 1 < cLine) : RcAt A s vx vy (eqT t u) ∧ RcNeAt A s vx vy (!eqT t u) := by
  cases r with
  | non =>
    cases (show vx = Value.none from rx)
    cases q with
    | non => cases (show vy = Value.none from ry); exact ⟨RcAt.none_none, RcNeAt.none_none⟩
    | int i => obtain ⟨k, rfl⟩ := ry; exact ⟨RcAt.none_int i k, RcNeAt.none_int i k⟩
    | str z => obtain ⟨k, rfl⟩ := ry; exact ⟨RcAt.none_str z k, RcNeAt.none_str z k⟩
    | tup e l h =>
      cases (show vy = Value.ref _ from ry)
      obtain ⟨its, _, T, _⟩ := I.tuple (SqT.of e)
      exact ⟨RcAt.none_tuple T (by omega), RcNeAt.none_tuple T (by omega)⟩
  | int a =>
    obtain ⟨k1, rfl⟩ := rx
    cases q with
    | non => cases (show vy = Value.none from ry); exact ⟨RcAt.int_none a k1, RcNeAt.int_none a k1⟩
    | int i => obtain ⟨k, rfl⟩ := ry; exact ⟨RcAt.int_int a k1 i k, RcNeAt.int_int a k1 i k⟩
    | str z => obtain ⟨k, rfl⟩ := ry; exact ⟨RcAt.int_str a k1 z k, RcNeAt.int_str a k1 z k⟩
    | tup e l h =>
      cases (show vy = Value.ref _ from ry)
      obtain ⟨its, _, T, _⟩ := I.tuple (SqT.of e)
      exact ⟨RcAt.int_tuple a k1 T (by omega), RcNeAt.int_tuple a k1 T (by omega)⟩
  | str a =>
    obtain ⟨k1, rfl⟩ := rx
    cases q with
    | non => cases (show vy = Value.none from ry); exact ⟨RcAt.str_none a k1, RcNeAt.str_none a k1⟩
    | int i => obtain ⟨k, rfl⟩ := ry; exact ⟨RcAt.str_int a k1 i k, RcNeAt.str_int a k1 i k⟩
    | str z => obtain ⟨k, rfl⟩ := ry; exact ⟨RcAt.str_str a k1 z k, RcNeAt.str_str a k1 z k⟩
    | tup e l h =>
      cases (show vy = Value.ref _ from ry)
      obtain ⟨its, _, T, _⟩ := I.tuple (SqT.of e)
      exact ⟨RcAt.str_tuple a k1 T (by omega), RcNeAt.str_tuple a k1 T (by omega)⟩
  | @tup a xs ts e l h =>
    cases (show vx = Value.ref a from rx)
    cases q with
    | non =>
      cases (show vy = Value.none from ry)
      obtain ⟨its, _, T, _⟩ := I.tuple (SqT.of e)
      exact ⟨RcAt.tuple_none T (by omega), RcNeAt.tuple_none T (by omega)⟩
    | int i =>
      obtain ⟨k, rfl⟩ := ry
      obtain ⟨its, _, T, _⟩ := I.tuple (SqT.of e)
      exact ⟨RcAt.tuple_int i k T (by omega), RcNeAt.tuple_int i k T (by omega)⟩
    | str z =>
      obtain ⟨k, rfl⟩ := ry
      obtain ⟨its, _, T, _⟩ := I.tuple (SqT.of e)
      exact ⟨RcAt.tuple_str z k T (by omega), RcNeAt.tuple_str z k T (by omega)⟩
    | @tup b ys us e' l' h' =>
      cases (show vy = Value.ref b from ry)
      have hd : dep (.tup ts) = depL ts + 1 := rfl
      obtain ⟨its, jts, T1, T2, n1, n2, q⟩ := items_eq (A := A) I e e' l l' fun j x y t u vx vy h1 h2 h3 h4 rx ry => eqAt_T I (h j x t h1 h3) (h' j y u h2 h4) rx ry (by
          have := depL_get h3
          show A.units + 1 + dep t + 1 < cLine
          omega)
      have e3 : ((List.range (min its.toArray.size jts.toArray.size)).all (fun j => eqT (ts[j]?.getD .non) (us[j]?.getD .non)) && its.toArray.size == jts.toArray.size) = eqT (.tup ts) (.tup us) := by
        show _ = eqL ts us
        rw [eqL_range, List.size_toArray, List.size_toArray, n1, n2]
      have R := RcAt.tuples T1 T2 (show A.units < cLine by omega) q
      have R' := RcNeAt.tuples T1 T2 (show A.units < cLine by omega) q
      rw [e3] at R R'
      exact ⟨R, R'⟩
end
section
variable {X : Cx}
private theorem op_eqTh {k : Nat} (hr : Room k X.A) : OpR X (compareOp .Eq) (fun x y H Q => ∃ t u, Rep H t x ∧ Rep H u y ∧ dep t ≤ 50 ∧ Q (.bl (eqT t u)) H) := by
  intro pins s σ H x y v w Q I rx ry h
  obtain ⟨t, u, r1, r2, hd, q⟩ := h
  have hu := hr.units
  exact (rc_T I r1 r2 rx ry (by omega)).1 _ _ _ _ ⟨.bl _, H, I, rfl, q⟩
private theorem op_neTh {k : Nat} (hr : Room k X.A) : OpR X (compareOp .NotEq) (fun x y H Q => ∃ t u, Rep H t x ∧ Rep H u y ∧ dep t ≤ 50 ∧ Q (.bl (!eqT t u)) H) := by
  intro pins s σ H x y v w Q I rx ry h
  obtain ⟨t, u, r1, r2, hd, q⟩ := h
  have hu := hr.units
  exact (rc_T I r1 r2 rx ry (by omega)).2 _ _ _ _ ⟨.bl _, H, I, rfl, q⟩
end
end Pv
set_option Elab.async false
set_option linter.all false
set_option maxRecDepth 100000
namespace L2
open PySem PySem.Spec PyProof.Rows

section
variable {κ : Type} [DecidableEq κ]
def valV (kvs : List (κ × V)) (k : κ) : Option V := (kvs.find? fun kv => decide (kv.1 = k)).map (·.2)
def putK (kvs : List (κ × V)) (k : κ) (v : V) : List (κ × V) :=
  if (kvs.any fun kv => decide (kv.1 = k)) = true then kvs.map (fun kv => if kv.1 = k then (kv.1, v) else kv) else kvs ++ [(k, v)]
def dropK (kvs : List (κ × V)) (k : κ) : List (κ × V) := kvs.filter fun kv => decide (kv.1 ≠ k)

private theorem valV_pos {p : κ × V} {r : List (κ × V)} {k : κ} (e : p.1 = k) : valV (p :: r) k = some p.2 := by simp [valV, List.find?_cons, e]
private theorem valV_neg {p : κ × V} {r : List (κ × V)} {k : κ} (e : ¬ p.1 = k) : valV (p :: r) k = valV r k := by simp [valV, List.find?_cons, e]
private theorem valV_any (k : κ) : ∀ kvs : List (κ × V), (kvs.any fun kv => decide (kv.1 = k)) = (valV kvs k).isSome
  | [] => rfl
  | p :: r => by
    rw [List.any_cons]
    by_cases e : p.1 = k
    · simp only [valV_pos e, decide_eq_true e, Bool.true_or, Option.isSome_some]
    · rw [valV_neg e, decide_eq_false e, Bool.false_or]; exact valV_any k r
private theorem length_putK (kvs : List (κ × V)) (k : κ) (v : V) : (putK kvs k v).length ≤ kvs.length + 1 := by
  unfold putK
  split
  · rw [List.length_map]; omega
  · rw [List.length_append, List.length_cons, List.length_nil]; omega
private theorem putK_new {kvs : List (κ × V)} {k : κ} (v : V) (h : valV kvs k = none) : putK kvs k v = kvs ++ [(k, v)] := by
  unfold putK
  rw [valV_any, h]
  exact if_neg (by decide)

private theorem RelO.isSome_eq {o : Option V} {u : Option Value} (r : RelO o u) : o.isSome = u.isSome := by
  cases o with
  | none => cases u with
    | none => rfl
    | some _ => exact (show False from r).elim
  | some _ => cases u with
    | none => exact (show False from r).elim
    | some _ => rfl
private theorem RelO.getD {o : Option V} {u : Option Value} {d : V} {d' : Value} (r : RelO o u) (rd : RelV d d') : RelV (o.getD d) (u.getD d') := by
  cases o with
  | none => cases u with
    | none => exact rd
    | some _ => exact (show False from r).elim
  | some _ => cases u with
    | none => exact (show False from r).elim
    | some _ => exact r

private theorem KV.val {kvs : List (κ × V)} {vs : List (κ × Value)} (r : KV kvs vs) (k : κ) : RelO (valV kvs k) (valueAt vs k) := by
  unfold KV at r
  induction r with
  | nil => exact True.intro
  | @cons p q ps qs h t ih =>
    obtain ⟨h1, h2⟩ := h
    by_cases e : p.1 = k
    · have e' : q.1 = k := h1.symm.trans e
      have b : valueAt (q :: qs) k = some q.2 := by simp [valueAt, List.find?_cons, e']
      rw [valV_pos e, b]; exact h2
    · have e' : ¬ q.1 = k := fun z => e (h1.trans z)
      have b : valueAt (q :: qs) k = valueAt qs k := by simp [valueAt, List.find?_cons, e']
      rw [valV_neg e, b]; exact ih
private theorem KV.any {kvs : List (κ × V)} {vs : List (κ × Value)} (r : KV kvs vs) (k : κ) : (kvs.any fun kv => decide (kv.1 = k)) = vs.any fun kv => decide (kv.1 = k) := by
  unfold KV at r
  induction r with
  | nil => rfl
  | cons h t ih => rw [List.any_cons, List.any_cons, ih, h.1]
private theorem KV.repl {kvs : List (κ × V)} {vs : List (κ × Value)} (r : KV kvs vs) (k : κ) {y : V} {u : Value} (ry : RelV y u) :
    KV (kvs.map fun kv => if kv.1 = k then (kv.1, y) else kv) (vs.map fun kv => if kv.1 = k then (kv.1, u) else kv) := by
  unfold KV at r ⊢
  induction r with
  | nil => exact .nil
  | @cons p q ps qs h t ih =>
    rw [List.map_cons, List.map_cons]
    refine .cons ?_ ih
    obtain ⟨h1, h2⟩ := h
    by_cases e : p.1 = k
    · rw [if_pos e, if_pos (h1.symm.trans e)]; exact ⟨h1, ry⟩
    · rw [if_neg e, if_neg (fun z => e (h1.trans z))]; exact ⟨h1, h2⟩
private theorem KV.put {kvs : List (κ × V)} {vs : List (κ × Value)} (r : KV kvs vs) (k : κ) {y : V} {u : Value} (ry : RelV y u) : KV (putK kvs k y) (stored vs k u) := by
  unfold putK stored
  rw [r.any k]
  by_cases e : (vs.any fun kv => decide (kv.1 = k)) = true
  · rw [if_pos e, if_pos e]; exact r.repl k ry
  · rw [if_neg e, if_neg e]; exact Paired.snoc r ⟨rfl, ry⟩
private theorem KV.drop {kvs : List (κ × V)} {vs : List (κ × Value)} (r : KV kvs vs) (k : κ) : KV (dropK kvs k) (without vs k) := by
  unfold KV at r ⊢
  unfold dropK without
  induction r with
  | nil => exact .nil
  | @cons p q ps qs h t ih =>
    obtain ⟨h1, h2⟩ := h
    rw [List.filter_cons, List.filter_cons]
    by_cases e : p.1 = k
    · have a : ¬ decide (p.1 ≠ k) = true := by simp [e]
      have b : ¬ decide (q.1 ≠ k) = true := by simp [h1.symm.trans e]
      rw [if_neg a, if_neg b]; exact ih
    · have e' : ¬ q.1 = k := fun z => e (h1.trans z)
      have a : decide (p.1 ≠ k) = true := by simp [e]
      have b : decide (q.1 ≠ k) = true := by simp [e']
      rw [if_pos a, if_pos b]; exact .cons ⟨h1, h2⟩ ih
private theorem KV.keys {kvs : List (κ × V)} {vs : List (κ × Value)} (r : KV kvs vs) : kvs.map (·.1) = vs.map (·.1) := by
  unfold KV at r
  induction r with
  | nil => rfl
  | cons h t ih => rw [List.map_cons, List.map_cons, ih, h.1]
private theorem KV.length {kvs : List (κ × V)} {vs : List (κ × Value)} (r : KV kvs vs) : kvs.length = vs.length := Paired.length r
end


private theorem kV_is {P : Program} {w : World} {k : Key} {u : Value} (r : RelV (kV k) u) : (mixKind P w).is k u = true := by
  cases k with
  | inl i => obtain ⟨t, e⟩ := (show ∃ t, u = Value.int i t from r); subst e; exact mixKind_int P w i t
  | inr x => obtain ⟨t, e⟩ := (show ∃ t, u = Value.str x t from r); subst e; exact mixKind_str P w x t
private theorem items_are {P : Program} {w : World} : ∀ {ks : List Key} {us : List Value}, Vals (ks.map kV) us → ItemsAre (mixKind P w) ks us
  | [], _, r => by rw [List.map_nil] at r; cases r; exact .nil
  | k :: ks, _, r => by
    rw [List.map_cons] at r
    cases r with
    | cons h t => exact .cons (kV_is h) (items_are t)

abbrev KT (H : Hp) : List (List Key × V) → List (List Key × Addr × Value) → Prop := Paired fun p q => p.1 = q.1 ∧ H q.2.1 = some (.tup (p.1.map kV)) ∧ RelV p.2 q.2.2
private theorem KT.val {H : Hp} {kvs : List (List Key × V)} {xs : List (List Key × Addr × Value)} (r : KT H kvs xs) (k : List Key) : RelO (valV kvs k) ((atKey xs k).map (·.2)) := by
  induction r with
  | nil => exact True.intro
  | @cons p q ps qs h t ih =>
    obtain ⟨h1, _, h2⟩ := h
    by_cases e : p.1 = k
    · have e' : q.1 = k := h1.symm.trans e
      have b : atKey (q :: qs) k = some q.2 := by simp [atKey, List.find?_cons, e']
      rw [valV_pos e, b]; exact h2
    · have e' : ¬ q.1 = k := fun z => e (h1.trans z)
      have b : atKey (q :: qs) k = atKey qs k := by simp [atKey, List.find?_cons, e']
      rw [valV_neg e, b]; exact ih
private theorem KT.repl {H : Hp} {kvs : List (List Key × V)} {xs : List (List Key × Addr × Value)} (r : KT H kvs xs) (k : List Key) {y : V} {u : Value} (ry : RelV y u) :
    KT H (kvs.map fun kv => if kv.1 = k then (kv.1, y) else kv) (xs.map (putAt k u)) := by
  induction r with
  | nil => exact .nil
  | @cons p q ps qs h t ih =>
    rw [List.map_cons, List.map_cons]
    refine .cons ?_ ih
    obtain ⟨h1, h2, h3⟩ := h
    unfold putAt
    by_cases e : p.1 = k
    · rw [if_pos e, if_pos (h1.symm.trans e)]; exact ⟨h1, h2, ry⟩
    · rw [if_neg e, if_neg (fun z => e (h1.trans z))]; exact ⟨h1, h2, h3⟩
private theorem KT.put {H : Hp} {kvs : List (List Key × V)} {xs : List (List Key × Addr × Value)} (r : KT H kvs xs) (k : List Key) {b : Addr} {y : V} {u : Value} (hb : H b = some (.tup (k.map kV))) (ry : RelV y u) :
    KT H (putK kvs k y) (storedH xs k b u) := by
  have e : (kvs.any fun kv => decide (kv.1 = k)) = (atKey xs k).isSome := by
    rw [valV_any, (r.val k).isSome_eq, Option.isSome_map]
  unfold putK storedH
  rw [e]
  by_cases q : (atKey xs k).isSome = true
  · rw [if_pos q, if_pos q]; exact r.repl k ry
  · rw [if_neg q, if_neg q]; exact Paired.snoc r ⟨rfl, hb, ry⟩
private theorem KT.keeps {H H' : Hp} {kvs : List (List Key × V)} {xs : List (List Key × Addr × Value)} (r : KT H kvs xs) (ht : ∀ b ys, H b = some (.tup ys) → H' b = some (.tup ys)) : KT H' kvs xs :=
  Paired.mapP r fun _ _ z => ⟨z.1, ht _ _ z.2.1, z.2.2⟩

section
variable {P : Program} {w : World} {H : Hp} {h : Heap} {a : Addr}
private theorem rd_of {u : HO} (ok : HOk P w H h) (e : Rd H a u) : ObjOk P w H h a u := e.ok ok
private theorem dk_rd {kvs : List (Key × V)} (ok : HOk P w H h) (e : Rd H a (.dK kvs)) : kvs.length ≤ sizeLine ∧ (a == sysModules) = false ∧ ∃ vs, KV kvs vs ∧ h.DictOf (mixKind P w) a vs :=
  show ObjOk P w H h a (.dK kvs) from rd_of ok e
private theorem dk_of {kvs : List (Key × V)} (ok : HOk P w H h) (e : H a = some (.dK kvs)) : kvs.length ≤ sizeLine ∧ (a == sysModules) = false ∧ ∃ vs, KV kvs vs ∧ h.DictOf (mixKind P w) a vs := dk_rd ok (.inl e)
private theorem key_of {ks : List Key} (ok : HOk P w H h) (e : H a = some (.tup (ks.map kV))) : (tupleKind (mixKind P w)).is h ks a := by
  obtain ⟨_, its, r, o, h1, h2, n, h3⟩ := (show ObjOk P w H h a (.tup (ks.map kV)) from ok a _ e)
  exact ⟨o, its.toArray, n, h1, h2, h3, by simpa using items_are r⟩
private theorem dt_rd {kvs : List (List Key × V)} (ok : HOk P w H h) (e : Rd H a (.dT kvs)) : kvs.length ≤ sizeLine ∧ (a == sysModules) = false ∧
    ∃ xs, KT H kvs xs ∧ h.DictOfH (tupleKind (mixKind P w)) a xs := by
  obtain ⟨z, y, xs, r, o, es, ep, h1, h2, h3, h4, h5⟩ := (show ObjOk P w H h a (.dT kvs) from rd_of ok e)
  refine ⟨z, y, xs, r, o, es, ep, h1, h2, h3, h4, fun x hx => ?_, h5⟩
  have all : ∀ {l : List (List Key × V)} {m : List (List Key × Addr × Value)}, KT H l m → ∀ x ∈ m, (tupleKind (mixKind P w)).is h x.1 x.2.1 := by
    intro l m q
    induction q with
    | nil => intro x hx; exact nomatch hx
    | @cons p q ps qs hq t ih =>
      intro x hx
      rcases List.mem_cons.mp hx with e | hx
      · subst e
        exact key_of ok (by rw [← hq.1]; exact hq.2.1)
      · exact ih x hx
  exact all r x hx
private theorem dt_of {kvs : List (List Key × V)} (ok : HOk P w H h) (e : H a = some (.dT kvs)) : kvs.length ≤ sizeLine ∧ (a == sysModules) = false ∧
    ∃ xs, KT H kvs xs ∧ h.DictOfH (tupleKind (mixKind P w)) a xs := dt_rd ok (.inl e)
end

def DGet (H : Hp) (a : Addr) (y : V) (r : Option V) : Prop :=
  (∃ kvs k, Rd H a (.dK kvs) ∧ y = kV k ∧ r = valV kvs k) ∨ ∃ kvs k b, Rd H a (.dT kvs) ∧ y = .ref b ∧ H b = some (.tup (k.map kV)) ∧ r = valV kvs k
def DPut (H : Hp) (a : Addr) (y v : V) (H' : Hp) : Prop :=
  (∃ kvs k, H a = some (.dK kvs) ∧ y = kV k ∧ kvs.length < sizeLine ∧ H' = upd H a (.dK (putK kvs k v))) ∨
  ∃ kvs k b, H a = some (.dT kvs) ∧ y = .ref b ∧ H b = some (.tup (k.map kV)) ∧ kvs.length < sizeLine ∧ H' = upd H a (.dT (putK kvs k v))
private theorem DGet.k {H : Hp} {a : Addr} {kvs : List (Key × V)} {k : Key} (e : H a = some (.dK kvs)) : DGet H a (kV k) (valV kvs k) := .inl ⟨kvs, k, .inl e, rfl, rfl⟩
private theorem DGet.t {H : Hp} {a b : Addr} {kvs : List (List Key × V)} {k : List Key} (e : H a = some (.dT kvs)) (eb : H b = some (.tup (k.map kV))) : DGet H a (.ref b) (valV kvs k) := .inr ⟨kvs, k, b, .inl e, rfl, eb, rfl⟩
private theorem DPut.k {H : Hp} {a : Addr} {kvs : List (Key × V)} {k : Key} {v : V} (e : H a = some (.dK kvs)) (hl : kvs.length < sizeLine) : DPut H a (kV k) v (upd H a (.dK (putK kvs k v))) := .inl ⟨kvs, k, e, rfl, hl, rfl⟩
private theorem DPut.t {H : Hp} {a b : Addr} {kvs : List (List Key × V)} {k : List Key} {v : V} (e : H a = some (.dT kvs)) (eb : H b = some (.tup (k.map kV))) (hl : kvs.length < sizeLine) :
    DPut H a (.ref b) v (upd H a (.dT (putK kvs k v))) := .inr ⟨kvs, k, b, e, rfl, eb, hl, rfl⟩


section
variable {X : Cx} {pins : List (Addr × Obj)} {σ : St} {H : Hp} {s : Shared} {a : Addr} {y v : V} {u r : Value} {o : Option V} {A : Around} {E : Value → Shared → Prop}

private theorem Inv.big (I : Inv X pins σ H s) : sysModules < s.heap.objs.size := by
  have h : mainGlobals < s.heap.objs.size := (I.mod.glob.keeps I.bk).lt
  exact Nat.lt_trans (by decide) h

private theorem d_getItem {Q : Value → Shared → Prop} (hu : A.units + 1 < cLine) (I : Inv X pins σ H s) (g : DGet H a y (some v)) (ry : RelV y u) (h : ∀ w' s', Inv X pins σ H s' → RelV v w' → Q w' s') :
    wpAny (model X.prog X.w) A (getItem (.ref a) u) Q E s := by
  rcases g with ⟨kvs, k, e, ey, l⟩ | ⟨kvs, k, b, e, ey, eb, l⟩
  · subst ey
    obtain ⟨z, hd, vs, rel, dd⟩ := dk_rd I.hok e
    obtain ⟨w', hw, rw'⟩ := RelO.some_of (v := v) (o := valueAt vs k) (by rw [l]; exact rel.val k)
    exact wpAny_getItem_of (kV_is ry) dd.mapOf hw (h w' _ (I.tok _) rw')
  · subst ey
    cases (show u = Value.ref b from ry)
    obtain ⟨z, hd, xs, rel, dd⟩ := dt_rd I.hok e
    obtain ⟨w', hw, rw'⟩ := RelO.some_of (v := v) (o := (atKey xs k).map (·.2)) (by rw [l]; exact rel.val k)
    obtain ⟨p, hp, hp2⟩ := Option.map_eq_some_iff.mp hw
    refine wpAny_getItem_heap (tupleKind_room_in1 hu) (key_of I.hok eb) dd hp ?_
    rw [hp2]
    exact h w' _ (I.tok _) rw'
private theorem d_in {Q : Value → Shared → Prop} (hu : A.units + 1 < cLine) (I : Inv X pins σ H s) (g : DGet H a y o) (ry : RelV y u) (h : ∀ s', Inv X pins σ H s' → Q (.bool o.isSome) s') :
    wpAny (model X.prog X.w) A (compareOp .In u (.ref a)) Q E s := by
  rcases g with ⟨kvs, k, e, ey, l⟩ | ⟨kvs, k, b, e, ey, eb, l⟩
  · subst ey
    obtain ⟨z, hd, vs, rel, dd⟩ := dk_rd I.hok e
    refine wpAny_in_of (kV_is ry) hd dd.mapOf ?_
    rw [← (rel.val k).isSome_eq, ← l]
    exact h _ (I.tok _)
  · subst ey
    cases (show u = Value.ref b from ry)
    obtain ⟨z, hd, xs, rel, dd⟩ := dt_rd I.hok e
    refine wpAny_in_heap (tupleKind_room_in1 hu) (key_of I.hok eb) hd dd ?_
    have q := (rel.val k).isSome_eq
    rw [Option.isSome_map] at q
    rw [← q, ← l]
    exact h _ (I.tok _)
private theorem d_notIn {Q : Value → Shared → Prop} (hu : A.units + 1 < cLine) (I : Inv X pins σ H s) (g : DGet H a y o) (ry : RelV y u) (h : ∀ s', Inv X pins σ H s' → Q (.bool (!o.isSome)) s') :
    wpAny (model X.prog X.w) A (compareOp .NotIn u (.ref a)) Q E s := by
  rcases g with ⟨kvs, k, e, ey, l⟩ | ⟨kvs, k, b, e, ey, eb, l⟩
  · subst ey
    obtain ⟨z, hd, vs, rel, dd⟩ := dk_rd I.hok e
    refine wpAny_notIn_of (kV_is ry) hd dd.mapOf ?_
    rw [← (rel.val k).isSome_eq, ← l]
    exact h _ (I.tok _)
  · subst ey
    cases (show u = Value.ref b from ry)
    obtain ⟨z, hd, xs, rel, dd⟩ := dt_rd I.hok e
    refine wpAny_notIn_heap (tupleKind_room_in1 hu) (key_of I.hok eb) hd dd ?_
    have q := (rel.val k).isSome_eq
    rw [Option.isSome_map] at q
    rw [← q, ← l]
    exact h _ (I.tok _)
private theorem d_write {h' : Heap} {t' : Nat} {ob : HO} (I : Inv X pins σ H s) (mu : Mut (H a)) (hs : Heap.SameBut a s.heap h') (he : ∃ q, h'.get? a = some q) (new : ObjOk X.prog X.w (upd H a ob) h' a ob) :
    Inv X pins σ (upd H a ob) { s with heap := h', toks := t' } :=
  I.write (x := a) (e := a) mu (.inl rfl) (fun b q hb z => (hs.2 b hb).trans z) he new
private theorem dk_new {P : Program} {w : World} {H' : Hp} {h' : Heap} {kvs : List (Key × V)} {vs : List (Key × Value)} (z : kvs.length ≤ sizeLine) (hd : (a == sysModules) = false) (rel : KV kvs vs) (dd : h'.DictOf (mixKind P w) a vs) :
    ObjOk P w H' h' a (.dK kvs) := ⟨z, hd, vs, rel, dd⟩
private theorem d_setItem {H' : Hp} {Q : Unit → Shared → Prop} (hu : A.units + 1 < cLine) (I : Inv X pins σ H s) (g : DPut H a y v H') (ry : RelV y u) (rv : RelV v r) (h : ∀ s', Inv X pins σ H' s' → Q () s') :
    wpAny (model X.prog X.w) A (setItem (.ref a) u r) Q E s := by
  rcases g with ⟨kvs, k, e, ey, l, eH⟩ | ⟨kvs, k, b, e, ey, eb, l, eH⟩
  · subst ey eH
    obtain ⟨z, hd, vs, rel, dd⟩ := dk_of I.hok e
    have hz : vs.length ≤ sizeLine := by rw [← rel.length]; exact z
    have hl : (putK kvs k v).length ≤ sizeLine := by have := length_putK kvs k v; omega
    refine wpAny_setItem_pairs (hsz := hz) (kV_is ry) dd fun h' dd' hs => h _ ?_
    have he : ∃ q, h'.get? a = some q := let ⟨q, _, _, hq, _⟩ := dd'; ⟨q, hq⟩
    exact d_write I (by rw [e]; exact True.intro) hs he (dk_new hl hd (rel.put k rv) dd')
  · subst ey eH
    cases (show u = Value.ref b from ry)
    obtain ⟨z, hd, xs, rel, dd⟩ := dt_of I.hok e
    have hz : xs.length ≤ sizeLine := by rw [← Paired.length rel]; exact z
    have hl : (putK kvs k v).length ≤ sizeLine := by have := length_putK kvs k v; omega
    refine wpAny_setItem_heap (hsz := hz) (tupleKind_room_in1 hu) (key_of I.hok eb) dd fun h' dd' hs => h _ ?_
    obtain ⟨q, es, ep, hq, h2, h3, h4, _, h5⟩ := dd'
    refine d_write I (by rw [e]; exact True.intro) hs ⟨q, hq⟩ ⟨hl, hd, _, (rel.put k eb rv).keeps fun c ys ec => ?_, q, es, ep, hq, h2, h3, h4, h5⟩
    rw [upd_ne (ne_of ec e (fun z => nomatch z))]
    exact ec
end

section
variable {X : Cx} {pins : List (Addr × Obj)} {σ : St} {H : Hp} {s : Shared} {a : Addr} {kvs : List (Key × V)} {k : Key} {u : Value} {A : Around} {E : Value → Shared → Prop}
end


def NoSl (i : Expr) : Prop := ∀ ov iv, subscripted i false ov iv = operate [ov, iv] (getItem ov iv)
private theorem subD_of {prog : Program} {w : World} {A : Around} {E : Value → Shared → Prop} {s : Shared} {env : Env} {value slice : Expr} {pos : Pos} {T id : String} {Q : Value → Shared → Prop}
    (hl : typeLookup (.type T) "__getitem__" = pure (some (.builtin id))) (hs : NoSl slice)
    (h : wpAny (model prog w) A (eval value env) (fun o s₁ => wpAny (model prog w) A (eval slice env) (fun i s₂ => s₂.TypeIs o T ∧ wpAny (model prog w) A (getItem o i) Q E s₂) E s₁) E s) :
    wpAny (model prog w) A (eval (.Subscript value slice pos) env) Q E s := by
  refine Subscript_ (wpAny_mono h (fun o s₁ h₁ => wpAny_mono h₁ (fun i s₂ h₂ => ?_) fun _ _ x => x) fun _ _ x => x)
  obtain ⟨hT, h₂⟩ := h₂
  unfold subscriptTail
  refine wpAny_bind ?_
  rw [getitemInPython_of_ne hT.not_modules]
  refine wpAny_bind (wpAny_specialOf hT hl ?_)
  have fin : wpAny (model prog w) A (subscripted slice false o i) (fun r s₃ => wpAny (model prog w) A (letTemporaryGo value o r >>= fun _ => pure r) Q E s₃) E s₂ := by
    rw [hs o i]
    exact wpAny_operating (wpAny_mono h₂ (fun r s₃ h₃ => wpAny_bind (wpAny_letTemporaryGo (wpAny_pure h₃))) fun _ _ x => x)
  first
    | exact wpAny_pure (wpAny_bind fin)
    | exact wpAny_bind (wpAny_pure (wpAny_bind fin))
    | exact wpAny_bind fin

private theorem dict_typeIs {X : Cx} {pins : List (Addr × Obj)} {σ : St} {H : Hp} {s : Shared} {a : Addr} {y : V} {o : Option V} (I : Inv X pins σ H s) (g : DGet H a y o) : s.TypeIs (.ref a) "dict" := by
  rcases g with ⟨kvs, k, e, _, _⟩ | ⟨kvs, k, b, e, _, _, _⟩
  · obtain ⟨_, _, vs, _, dd⟩ := dk_rd I.hok e
    exact dd.typeIs
  · obtain ⟨_, _, xs, _, dd⟩ := dt_rd I.hok e
    exact dd.typeIs

def tDGet (td ty : TE) : TE := fun σ H Q => td σ H fun x H1 => ty σ H1 fun y H2 => ∃ a v, x = .ref a ∧ DGet H2 a y (some v) ∧ Q v H2
def tDIn (ty td : TE) : TE := fun σ H Q => ty σ H fun y H1 => td σ H1 fun x H2 => ∃ a o, x = .ref a ∧ DGet H2 a y o ∧ Q (.bl o.isSome) H2
def tDNotIn (ty td : TE) : TE := fun σ H Q => ty σ H fun y H1 => td σ H1 fun x H2 => ∃ a o, x = .ref a ∧ DGet H2 a y o ∧ Q (.bl (!o.isSome)) H2
def sDPut (td ty tv : TE) : TS := fun D σ H => tv σ H fun v H1 => td σ H1 fun x H2 => ty σ H2 fun y H3 => ∃ a H4, x = .ref a ∧ DPut H3 a y v H4 ∧ D.nx σ H4
def sDAug (td ty tv : TE) (rd : V → V → Hp → VK → Prop) : TS := fun D σ H => td σ H fun x H1 => ty σ H1 fun y H2 => ∃ a v, x = .ref a ∧ DGet H2 a y (some v) ∧
  tv σ H2 fun y2 H3 => rd v y2 H3 fun z H4 => ∃ H5, DPut H4 a y z H5 ∧ D.nx σ H5
def sDDel (td ty : TE) : TS := fun D σ H => td σ H fun x H1 => ty σ H1 fun y H2 => ∃ a kvs k, x = .ref a ∧ H2 a = some (.dK kvs) ∧ y = kV k ∧ (valV kvs k).isSome = true ∧ D.nx σ (upd H2 a (.dK (dropK kvs k)))

section
variable {X : Cx} {o i e value : Expr} {pos pos' tpos : Pos} {td ty tv : TE}
private theorem pe_dget (hu : X.A.units + 1 < cLine) (ho : PE X o td) (hi : PE X i ty) (hs : NoSl i) : PE X (.Subscript o i pos) (tDGet td ty) := by
  intro pins s σ H Q I h
  refine subD_of PySem.F.slot_dict_getitem.lookup hs (thn (ho pins s σ H _ I h) fun u s1 ⟨x, H1, I1, rx, q1⟩ => thn (hi pins s1 σ H1 _ I1 q1) fun iv s2 ⟨y, H2, I2, ry, a, v, ex, g, q2⟩ => ?_)
  subst ex
  obtain rfl : u = Value.ref a := rx
  exact ⟨dict_typeIs I2 g, d_getItem hu I2 g ry fun w' s3 I3 rw' => ⟨v, H2, I3, rw', q2⟩⟩
private theorem pc_din (hu : X.A.units + 1 < cLine) (hi : PE X i ty) (ho : PE X o td) : PC X .In i o (tDIn ty td) := by
  intro pins s σ H Q I h
  refine thn (hi pins s σ H _ I h) fun iv s1 ⟨y, H1, I1, ry, q1⟩ => thn (ho pins s1 σ H1 _ I1 q1) fun u s2 ⟨x, H2, I2, rx, a, ov, ex, g, q2⟩ => ?_
  subst ex
  obtain rfl : u = Value.ref a := rx
  exact d_in hu I2 g ry fun s3 I3 => ⟨.bl ov.isSome, H2, I3, rfl, q2⟩
private theorem pc_dnotin (hu : X.A.units + 1 < cLine) (hi : PE X i ty) (ho : PE X o td) : PC X .NotIn i o (tDNotIn ty td) := by
  intro pins s σ H Q I h
  refine thn (hi pins s σ H _ I h) fun iv s1 ⟨y, H1, I1, ry, q1⟩ => thn (ho pins s1 σ H1 _ I1 q1) fun u s2 ⟨x, H2, I2, rx, a, ov, ex, g, q2⟩ => ?_
  subst ex
  obtain rfl : u = Value.ref a := rx
  exact d_notIn hu I2 g ry fun s3 I3 => ⟨.bl (!ov.isSome), H2, I3, rfl, q2⟩
private theorem ps_dput (hu : X.A.units + 1 < cLine) (ho : PE X o td) (hi : PE X i ty) (hv : PE X value tv) (hs : swapsWith value (some (.Subscript o i pos')) pos.line X.env = pure false) :
    PS X (.Assign [.Subscript o i pos'] value pos) (sDPut td ty tv) := by
  intro pins s σ H D I h
  refine wpAny_Assign_Subscript (thn (hv pins s σ H _ I h) fun r s1 ⟨v, H1, I1, rv, q1⟩ => thn (ho pins s1 σ H1 _ I1 q1) fun u s2 ⟨x, H2, I2, rx, q2⟩ => thn (hi pins s2 σ H2 _ I2 q2) fun iv s3 ⟨y, H3, I3, ry, a, H4, ex, g, q3⟩ => ?_) hs
  subst ex
  obtain rfl : u = Value.ref a := rx
  exact d_setItem hu I3 g ry rv fun s4 I4 => ⟨σ, H4, I4, q3⟩
end


private theorem dk_empty {P : Program} {w : World} {H : Hp} (h : Heap) (hb : sysModules < h.objs.size) : ObjOk P w H (h.push { cls := .type "dict", data := .dict #[] }) h.objs.size (.dK []) :=
  ⟨Nat.zero_le _, beq_eq_false_iff_ne.mpr (Ne.symm (Nat.ne_of_lt hb)), [], .nil, Heap.DictOf.new h⟩
def tDNewK : TE := fun _ H Q => ∀ p, H p = none → Q (.ref p) (upd H p (.dK []))
def tDNewT : TE := fun _ H Q => ∀ p, H p = none → Q (.ref p) (upd H p (.dT []))
section
variable {X : Cx} {pos : Pos}
private theorem pe_dnewK : PE X (.Dict [] [] pos) tDNewK := fun pins s σ H Q I h =>
  wpAny_Dict_empty ⟨.ref s.heap.objs.size, _, I.laid (a := s.heap.objs.size) (o := .dK []) (t' := s.toks) (fun _ _ q => Heap.get?_push_of_some _ q) (Nat.le_refl _) (dk_empty s.heap I.big), rfl, h _ (I.hok.fresh (Nat.le_refl _))⟩
end

def tPairs : List (TE × TE) → St → Hp → (List (V × V) → Hp → Prop) → Prop
  | [], _, H, Q => Q [] H
  | (tk, tv) :: r, σ, H, Q => tk σ H fun x H1 => tv σ H1 fun y H2 => tPairs r σ H2 fun ps H3 => Q ((x, y) :: ps) H3
abbrev VV : List (V × V) → List (Value × Value) → Prop := Paired fun p q => RelV p.1 q.1 ∧ RelV p.2 q.2
def PPs (X : Cx) (pos : Pos) (keys : List (Option Expr)) (values : List Expr) (trs : List (TE × TE)) : Prop :=
  ∀ (pins : List (Addr × Obj)) (s : Shared) (σ : St) (H : Hp) (Q : List (V × V) → Hp → Prop), Inv X pins σ H s → tPairs trs σ H Q →
    wpAny (model X.prog X.w) X.A (evalPairs (pairTrees keys values X.env pos)) (fun vs s' => ∃ ps H', Inv X pins σ H' s' ∧ VV ps vs ∧ Q ps H') X.xe s

def mergeK (kvs more : List (Key × V)) : List (Key × V) := more.foldl (fun acc kv => putK acc kv.1 kv.2) kvs
def tDisp (trs : List (TE × TE)) : TE := fun σ H Q => ∀ p, H p = none → tPairs trs σ (upd H p (.dK [])) fun ps H2 => H2 p = some (.dK []) ∧ ∃ kvs : List (Key × V), ps = kvs.map (fun kv => (kV kv.1, kv.2)) ∧ kvs.length ≤ 15 ∧ Q (.ref p) (upd H2 p (.dK (mergeK [] kvs)))


structure M1 (X : Cx) (o : Expr) (m : Str) (apos : Pos) (e : Expr) (cpos : Pos) : Prop where
  base : attributeBase o m X.env (eval o X.env) = eval o X.env
  few : ((backTo cpos (starEach [e] X.env)).all (fun x => !x.1) && (backToKw cpos (keywordEach [] X.env)).all (fun x => x.1.isSome)
    && decide (([e] : List Expr).length + ([] : List Keyword).length + (if ([] : List Keyword).isEmpty then 0 else 1) < 30)) = true
  line : (apos.endLine == cpos.line) = true
  trees : backTo cpos (starEach [e] X.env) = [(false, eval e X.env)]
structure M2 (X : Cx) (o : Expr) (m : Str) (apos : Pos) (e f : Expr) (cpos : Pos) : Prop where
  base : attributeBase o m X.env (eval o X.env) = eval o X.env
  few : ((backTo cpos (starEach [e, f] X.env)).all (fun x => !x.1) && (backToKw cpos (keywordEach [] X.env)).all (fun x => x.1.isSome)
    && decide (([e, f] : List Expr).length + ([] : List Keyword).length + (if ([] : List Keyword).isEmpty then 0 else 1) < 30)) = true
  line : (apos.endLine == cpos.line) = true
  trees : backTo cpos (starEach [e, f] X.env) = [(false, eval e X.env), (false, eval f X.env)]

def IsD (H : Hp) (a : Addr) : Prop := (∃ kvs, Rd H a (.dK kvs)) ∨ ∃ kvs, Rd H a (.dT kvs)
private theorem isD_at {X : Cx} {pins : List (Addr × Obj)} {σ : St} {H : Hp} {s : Shared} {a : Addr} (I : Inv X pins σ H s) (d : IsD H a) :
    s.TypeIs (.ref a) "dict" ∧ (∀ b, Value.ref a = .ref b → ∃ ob, s.heap.get? b = some ob ∧ ob.dict = none) ∧ (a == sysModules) = false := by
  rcases d with ⟨kvs, e⟩ | ⟨kvs, e⟩
  · obtain ⟨_, hd, vs, _, dd⟩ := dk_rd I.hok e
    refine ⟨dd.typeIs, fun b q => ?_, hd⟩
    cases q
    obtain ⟨ob, _, _, h1, h2, _⟩ := dd
    exact ⟨ob, h1, h2.2.1⟩
  · obtain ⟨_, hd, xs, _, dd⟩ := dt_rd I.hok e
    refine ⟨dd.typeIs, fun b q => ?_, hd⟩
    cases q
    obtain ⟨ob, _, _, h1, h2, _⟩ := dd
    exact ⟨ob, h1, h2.2.1⟩

section
variable {X : Cx} {pins : List (Addr × Obj)} {σ : St} {H : Hp} {s : Shared} {a : Addr} {y d : V} {u r : Value} {o : Option V} {A : Around} {E : Value → Shared → Prop}
private theorem d_get2 {Q : Value → Shared → Prop} (hu : A.units + 1 < cLine) (I : Inv X pins σ H s) (g : DGet H a y o) (ry : RelV y u) (rd : RelV d r) (h : ∀ w' s', Inv X pins σ H s' → RelV (o.getD d) w' → Q w' s') :
    wpAny (model X.prog X.w) A (call (.builtin "dict.get") [.ref a, u, r]) Q E s := by
  rcases g with ⟨kvs, k, e, ey, l⟩ | ⟨kvs, k, b, e, ey, eb, l⟩
  · subst ey
    obtain ⟨z, hd, vs, rel, dd⟩ := dk_rd I.hok e
    refine call_meetsIn PySem.F.slot_dict_get dd.typeIs PySem.F.entry_dict_get (PySem.F.args_dict_get_3 _ _ _) (meets_dict_get_default (mixKind X.prog X.w) a (kV_is ry) hd r) ⟨_, dd.mapOf, h _ _ (I.tok _) ?_⟩
    rw [l]
    exact (rel.val k).getD rd
  · subst ey
    cases (show u = Value.ref b from ry)
    obtain ⟨z, hd, xs, rel, dd⟩ := dt_rd I.hok e
    refine call_meetsIn PySem.F.slot_dict_get dd.typeIs PySem.F.entry_dict_get (PySem.F.args_dict_get_3 _ _ _) (meetsH_dict_get_default (tupleKind (mixKind X.prog X.w)) a b hd r) ⟨tupleKind_room_in1 hu, k, xs, key_of I.hok eb, dd, h _ _ (I.tok _) ?_⟩
    rw [l]
    exact (rel.val k).getD rd
end

def tDGet1 (td ty : TE) : TE := fun σ H Q => td σ H fun x H1 => ∃ a, x = .ref a ∧ IsD H1 a ∧ ty σ H1 fun y H2 => ∃ o, DGet H2 a y o ∧ Q (o.getD .non) H2
def tDGet2 (td ty tx : TE) : TE := fun σ H Q => td σ H fun x H1 => ∃ a, x = .ref a ∧ IsD H1 a ∧ ty σ H1 fun y H2 => tx σ H2 fun z H3 => ∃ o, DGet H3 a y o ∧ Q (o.getD z) H3
def tDPop1 (td ty : TE) : TE := fun σ H Q => td σ H fun x H1 => ∃ a, x = .ref a ∧ IsD H1 a ∧ ty σ H1 fun y H2 => ∃ kvs k v, H2 a = some (.dK kvs) ∧ y = kV k ∧ valV kvs k = some v ∧ Q v (upd H2 a (.dK (dropK kvs k)))
def tDPop2 (td ty tx : TE) : TE := fun σ H Q => td σ H fun x H1 => ∃ a, x = .ref a ∧ IsD H1 a ∧ ty σ H1 fun y H2 => tx σ H2 fun z H3 => ∃ kvs k, H3 a = some (.dK kvs) ∧ y = kV k ∧
  (∀ v, valV kvs k = some v → Q v (upd H3 a (.dK (dropK kvs k)))) ∧ (valV kvs k = none → Q z H3)
section
variable {X : Cx} {o e f : Expr} {apos cpos : Pos} {td ty tx : TE}
private theorem pe_dget2 (hu : X.A.units + 1 < cLine) (ho : PE X o td) (he : PE X e ty) (hf : PE X f tx) (m : M2 X o "get" apos e f cpos) : PE X (.Call (.Attribute o "get" apos) [e, f] [] cpos) (tDGet2 td ty tx) := by
  intro pins s σ H Q I h
  refine wpAny_Call_method m.base m.few m.line PySem.F.plainAttrs_dict PySem.F.slot_dict_get PySem.F.type_dict_get (thn (ho pins s σ H _ I h) fun u s1 ⟨x, H1, I1, rx, a, ex, d, q1⟩ => ?_)
  subst ex
  obtain rfl : u = Value.ref a := rx
  obtain ⟨t1, t2, _⟩ := isD_at I1 d
  refine ⟨t1, t2, ?_⟩
  rw [m.trees]
  refine Calls.callWith_builtin rfl (Calls.evalArgs_plain (Calls.spliced_cons (thn (he pins s1 σ H1 _ I1 q1) fun iv s2 ⟨y, H2, I2, ry, q2⟩ =>
    Calls.spliced_cons (thn (hf pins s2 σ H2 _ I2 q2) fun fv s3 ⟨z, H3, I3, rz, ov, g, q3⟩ => Calls.spliced_nil ?_))))
  exact d_get2 hu I3 g ry rz fun w' s4 I4 rw' => ⟨_, H3, I4, rw', q3⟩
end

section
variable {X : Cx} {pins : List (Addr × Obj)} {σ : St} {H : Hp} {s : Shared} {a : Addr} {kvs : List (Key × V)} {A : Around} {E : Value → Shared → Prop}
end


section
variable {X : Cx} {pins : List (Addr × Obj)} {σ : St} {H : Hp} {s : Shared} {a : Addr} {y : V} {u : Value} {A : Around} {E : Value → Shared → Prop}
end
end L2
set_option Elab.async false
set_option linter.all false
set_option maxRecDepth 100000
set_option maxHeartbeats 4000000
namespace L2
open PySem PySem.Spec PyProof.Rows
def keysI (kvs : List (Key × V)) : List Int := kvs.filterMap fun p => match p.1 with | .inl n => some n | .inr _ => none
def IntKeys (kvs : List (Key × V)) : Prop := kvs.map (·.1) = (keysI kvs).map Sum.inl
private theorem KV.at {kvs : List (Key × V)} {vs : List (Key × Value)} (r : KV kvs vs) : kvs.length = vs.length ∧ kvs.map (·.1) = vs.map (·.1) := by
  unfold KV at r
  induction r with
  | nil => exact ⟨rfl, rfl⟩
  | cons h _ ih => exact ⟨by simp [ih.1], by simp [ih.2, h.1]⟩
section
variable {X : Cx}
private theorem dk_ints {kvs : List (Key × V)} {vs : List (Key × Value)} (r : KV kvs vs) (hi : IntKeys kvs) {j : Nat} {k : Key} {x v : Value} (e : vs[j]? = some (k, x)) (hk : keyIs k v = true) : ∃ t, v = .int ((keysI kvs)[j]?.getD 0) t ∧ j < (keysI kvs).length := by
  have h1 : (vs.map (·.1))[j]? = some k := by rw [List.getElem?_map, e]; rfl
  rw [← r.at.2, hi, List.getElem?_map] at h1
  cases z : (keysI kvs)[j]? with
  | none => rw [z] at h1; cases h1
  | some n =>
    rw [z] at h1
    have h2 : k = Sum.inl n := (Option.some.inj h1).symm
    subst h2
    obtain ⟨t, e'⟩ := Value.isInt_shape (k := n) (v := v) hk
    exact ⟨t, e', (List.getElem?_eq_some_iff.mp z).1⟩
private theorem intsAre_at : ∀ {us : List Value} {ns : List Int}, us.length = ns.length → (∀ (j : Nat) (v : Value), us[j]? = some v → ∃ t, v = .int (ns[j]?.getD 0) t) → IntsAre us ns
  | [], [], _, _ => .nil
  | v :: us, n :: ns, hl, h => by
    obtain ⟨t, e⟩ := h 0 v rfl
    subst e
    exact .cons n t (intsAre_at (by simpa using hl) fun j v e => h (j + 1) v e)
  | [], _ :: _, hl, _ => by simp at hl
  | _ :: _, [], hl, _ => by simp at hl
private theorem keysI_length {kvs : List (Key × V)} (h : IntKeys kvs) : (keysI kvs).length = kvs.length := by
  have := congrArg List.length h
  simpa using this.symm
private theorem gathered {P : Program} {w : World} {A : Around} {E : Value → Shared → Prop} {s : Shared} {T : String} {a d : Addr} {n : Nat} {F : Nat → Value → Prop} {G : Heap → Prop} {R : List Value → Shared → Prop}
    (src : PySem.W.KdlSrc P w T a d n F G) (calm : A.handled = none) (g : G s.heap) (le : n ≤ sizeLine)
    (h : ∀ (h' : Heap) (k : Nat) (xs : Array Value), (∀ b o, s.heap.get? b = some o → h'.get? b = some o) → s.heap.objs.size < h'.objs.size → PySem.ItemsOf F xs n → R xs.toList { s with heap := h', toks := k }) :
    wpAny (model P w) A (collect (.ref a)) R E s := by
  obtain ⟨lt1, lt2⟩ := src.there _ g
  unfold collect
  refine wpAny_bind (wpAny_runValue (codeAny_builtin entry_proto_collect' ?_))
  rw [Around.under_plainId PySem.F.plain_proto_collect _]
  refine wpAny_bind (m := newList []) (wpAny_newObj_type (wpAny_pure ⟨plainId_quiet PySem.F.plain_list_iadd _, codeAny_builtin entry_list_iadd' ?_⟩))
  rw [Around.under_plainId PySem.F.plain_list_iadd _]
  refine wpAny_mono (PySem.W.kdl_extend (A := A) (s := { s with heap := s.heap.push { cls := .type "list", data := .seq ([] : List Value).toArray } })
    (R := fun q s' => ∃ h' k xs c, q = .ok (.ret (.ref s.heap.objs.size)) ∧ s' = { s with heap := h', toks := k } ∧ (∀ b o, s.heap.get? b = some o → h'.get? b = some o) ∧ h'.get? s.heap.objs.size = some { cls := .type "list", dict := none, data := .seq xs c, slots := #[] } ∧ PySem.ItemsOf F xs n)
    src calm (src.keep _ _ g fun b _ o e => Heap.get?_push_of_some _ e) s.heap.objs.size (Nat.ne_of_gt lt1) (Nat.ne_of_gt lt2) (.ref s.heap.objs.size) 0 (Heap.get?_push_size _ rfl)
    (fun h' k xs c kk hS hx => ⟨h', k, xs, c, rfl, rfl, fun b o e => kk b o (Nat.ne_of_lt (Heap.lt_size e)) (Heap.get?_push_of_some _ e), hS, hx⟩) le) (fun fin s' x => ?_) (fun e s' x => ?_)
  · cases fin with
    | done f =>
      obtain ⟨h', k, xs, c, e, rfl, kk, hS, hx⟩ := x
      cases e
      exact wpAny_bind (m := load s.heap.objs.size) (wpAny_load hS (wpAny_pure (h h' k xs kk (Heap.lt_size hS) hx)))
    | again c₁ =>
      refine ⟨x.1, codeAny_mono x.2 fun q s₂ y => ?_⟩
      obtain ⟨h', k, xs, c, rfl, rfl, kk, hS, hx⟩ := y
      exact wpAny_bind (m := load s.heap.objs.size) (wpAny_load hS (wpAny_pure (h h' k xs kk (Heap.lt_size hS) hx)))
  · obtain ⟨_, _, _, _, e', _⟩ := x
    cases e'
end
end L2
set_option Elab.async false
set_option linter.all false
set_option maxRecDepth 100000
set_option maxHeartbeats 4000000
namespace Ps
open PySem PyProof.Rows
section
variable {prog : Program} {w : World} {A : Around} {E : Value → Shared → Prop} {s : Shared}
private theorem list_sort64 {a : Addr} {vs : List Value} {ns : List Int} {n : Nat} {P : Fin → Shared → Prop} (ho : s.heap.get? a = some (seqObj "list" vs.toArray n))
    (hI : IntsAre vs ns) (h64 : vs.length ≤ 64)
    (h : ∀ (out : Array Value) (ns' : List Int), IntsAre out.toList ns' → ns'.Perm ns → ns'.Pairwise (· ≤ ·) → P (.done (.ret .none)) { s with heap := sortedHeap s.heap a vs out }) :
    wpAny (model prog w) A (Builtin.«list.sort» ⟨[.ref a], []⟩) P E s := by
  by_cases lt : vs.length < 64
  · exact list_sort_tree ho hI lt h
  have e64 : vs.length = 64 := by omega
  rw [list_sort_plain]
  have ha : a < s.heap.objs.size := Heap.lt_size ho
  have hsz : vs.toArray.size = vs.length := by simp
  refine wpAny_bind (listItems_at ho rfl ?_)
  refine wpAny_bind (listUpdate_at ho rfl ?_ (hsz := by rw [hsz, e64, sizeLine_eq]; decide))
  obtain ⟨e1, ho1⟩ : ∃ e1, (s.heap.update a (Obj.mapSeq fun _ => #[])).get? a = some (seqObj "list" #[] e1) := ⟨_, get?_update_seq ho (fun _ => #[])⟩
  refine wpAny_bind (seqEpoch_at ho1 rfl ?_)
  refine wpAny_bind (wpAny_newTuple ?_ (by rw [List.toList_toArray, e64, sizeLine_eq]; decide))
  refine wpAny_bind (wpAny_newList ?_)
  refine wpAny_holding ?_
  have ho6 : (((s.heap.update a (Obj.mapSeq fun _ => #[])).push (seqObj "tuple" vs.toArray 0)).push (seqObj "list" #[] 0)).get? a = some (seqObj "list" #[] e1) := by
    rw [Heap.get?_push_ne _ _ _ (by rw [size_push', Heap.size_update]; exact Nat.ne_of_lt (Nat.lt_succ_of_lt ha)), Heap.get?_push_ne _ _ _ (by rw [Heap.size_update]; exact Nat.ne_of_lt ha)]
    exact ho1
  show wpAny (model prog w) A _ P E { s with heap := ((s.heap.update a (Obj.mapSeq fun _ => #[])).push (seqObj "tuple" vs.toArray 0)).push (seqObj "list" #[] 0) }
  dsimp only
  have h2 : ¬ vs.toArray.size < 2 := by rw [hsz]; omega
  rw [if_neg h2, if_neg h2]
  have kk : keyKind' vs.toArray = pure oneType' := by
    match vs, hI, e64 with
    | [], _, e => simp at e
    | [_], _, e => simp at e
    | v₁ :: v₂ :: rest, hI, _ => exact keyKind_ints hI
  rw [kk]
  refine wpAny_bind (wpAny_pure ?_)
  refine wpAny_bind (wpAny_mono (wpS_sort64 (a₀ := pairsOf vs) (st := SortSt.mk' oneType' (vs.toArray.zip vs.toArray) #[] 7 none)
    (Q := fun _ st' => (arrOf st').Perm (pairsOf vs) ∧ failedOf st' = none ∧ SortedTo (arrOf st') (pairsOf vs).size)
    hI.intKeys ⟨Array.Perm.refl _, rfl, rfl, rfl⟩ (by rw [pairsOf_size]; exact e64) fun st' a1 a2 a3 => ⟨a1, a2, a3⟩) ?_ fun _ _ e => e)
  rintro ⟨⟨⟩, st'⟩ s' ⟨rfl, hp, hf, hs⟩
  dsimp only
  refine wpAny_bind (seqEpoch_at ho6 rfl ?_)
  refine wpAny_bind (listUpdate_at ho6 rfl ?_ (hsz2 := by refine Nat.le_trans (Nat.le_of_eq ((Array.size_map ..).trans (hp.size_eq.trans (pairsOf_size _)))) ?_; rw [sizeLine_eq]; omega))
  rw [hf]
  simp only [bne_self_eq_false, Bool.false_eq_true, if_false]
  obtain ⟨ns', h1, h2, h3⟩ := sorted_out hI hp hs
  exact wpAny_pure (h _ ns' h1 h2 h3)
end
end Ps
namespace L2
open PySem PySem.Spec PyProof.Rows
section
variable {X : Cx}
private theorem call_sortedD64 (hc : X.calm = true) : CallR X (.builtin "sorted") (fun xs H Q => ∃ (d : Addr) (kvs : List (Key × V)), xs = [.ref d] ∧ H d = some (.dK kvs) ∧ IntKeys kvs ∧ kvs.length ≤ 64 ∧
    ∀ (l : Addr) (ns : List Int), H l = none → ns.Perm (keysI kvs) → ns.Pairwise (· ≤ ·) → Q (.ref l) (upd H l (.lst (ns.map V.int)))) := by
  intro pins s σ H xs us Q I r h
  obtain ⟨d, kvs, rfl, hd, hi, h64, q⟩ := h
  obtain ⟨u, rfl, ru⟩ := vals1 r
  cases (show u = Value.ref d from ru)
  obtain ⟨hz, lo, vs, rel, hD⟩ := I.hok d _ hd
  obtain ⟨ep, hat⟩ := hD.dictAt
  have hl := rel.at.1
  have hkl := keysI_length hi
  refine Calls.call_function_entry kind_sorted plain_sorted entry_sorted (args_sorted1 _) ?_
  unfold Builtin.«sorted»
  refine wpAny_bind (m := checkCount "sorted" 1 1 _) (wpAny_pure ?_)
  refine wpAny_bind (gathered (A := X.A.in1) (PySem.W.kdl_dict (knd := mixKind X.prog X.w) (kvs := vs) (ep := ep) lo) (show X.A.in1.handled = none from I.ok.hd hc) hat (by rw [← hl]; exact hz) fun h' tk acc hk hlt hacc => ?_)
  have la : acc.toList.length = vs.length := by rw [Array.length_toList]; exact hacc.1
  refine wpAny_bind (wpAny_newList ?_ (by rw [la, ← hl]; exact hz))
  have hI : IntsAre acc.toList (keysI kvs) := intsAre_at (by omega) fun j v e => by
    obtain ⟨k, x, e1, e2⟩ := hacc.2 j v (by rw [← Array.getElem?_toList]; exact e)
    obtain ⟨t, e3, _⟩ := dk_ints rel hi e1 e2
    exact ⟨t, e3⟩
  have hoL : (h'.push (seqObj "list" acc.toList.toArray 0)).get? h'.objs.size = some (seqObj "list" acc.toList.toArray 0) := Heap.get?_push_size _ rfl
  refine wpAny_bind (wpAny_holding (wpAny_call_entry slot_list_sort ⟨_, hoL, rfl⟩ entry_list_sort (Ps.list_sort64 hoL hI (by omega) fun out ns' a1 a2 a3 => ⟨_, rfl, ?_⟩) (args_list_sort _)))
  refine wpAny_pure ⟨_, rfl, ?_⟩
  have sz : s.heap.objs.size ≤ h'.objs.size := Nat.le_of_lt hlt
  have kk : ∀ b u, s.heap.get? b = some u → (sortedHeap (h'.push (seqObj "list" acc.toList.toArray 0)) h'.objs.size acc.toList out).get? b = some u := fun b u e => by
    have e1 := hk b u e
    have lt := Heap.lt_size e1
    rw [sortedHeap_old (Nat.ne_of_lt lt) (by rw [size_push']; exact Nat.lt_succ_of_lt lt)]
    exact Heap.get?_push_of_some _ e1
  obtain ⟨e, he⟩ := sortedHeap_at (out := out) hoL
  have hn : H h'.objs.size = none := I.hok.fresh sz
  refine ⟨.ref h'.objs.size, _, I.laid (o := .lst (ns'.map V.int)) kk sz ⟨?_, out.toList, e, vals_ints a1, he⟩, rfl, q _ ns' hn a2 a3⟩
  rw [List.length_map, a2.length_eq, hkl]; exact hz
end
end L2
set_option Elab.async false
set_option linter.all false
set_option maxRecDepth 100000
namespace Px
open PySem

def Tb (h : Heap) (e : Addr) (cls : Value) (od : Option Addr) (T : Addr) (fl : Value) : Prop :=
  ∃ oe vs oT ts, h.get? e = some oe ∧ oe.cls = cls ∧ oe.dict = od ∧ oe.data = .fields vs ∧ vs[1]? = some (.ref T) ∧ T ≠ e ∧ h.get? T = some oT ∧ oT.data = .fields ts ∧ ts[3]? = some fl

structure Chg (fs : List Addr) (e T : Addr) (h h' : Heap) : Prop where
  size : h.objs.size ≤ h'.objs.size
  keep : ∀ b o, h.get? b = some o → b ∉ fs → b ≠ e → b ≠ T → h'.get? b = some o
  slot : ∀ b o, h.get? b = some o → b ∈ fs → b ≠ e → b ≠ T → ∃ sl, h'.get? b = some { o with slots := sl }

private theorem mf_cls (o : Obj) (f : Array Value → Array Value) : (Obj.mapFields f o).cls = o.cls := Obj.cls_mapFields _ _
private theorem mf_dict (o : Obj) (f : Array Value → Array Value) : (Obj.mapFields f o).dict = o.dict := by
  obtain ⟨c, d, dt, sl⟩ := o
  cases dt <;> rfl

section
variable {M : Model} {A : Around} {E : Value → Shared → Prop} {s : Shared} {base : Heap} {env : Env} {outer : List Env} {L e T : Addr}

private theorem entry {oe : Obj} {vs : Array Value} {head : Value} {hadNext : Bool} {Q : Unit → Shared → Prop} (hfr : A.frames = some (env :: outer))
    (hl : s.heap.FunFrames base (env :: outer)) (hf : env.frame = some L)
    (he : s.heap.get? e = some oe) (hd : oe.data = .fields vs) (hsz : 1 < vs.size)
    (h : ∀ h' T', s.heap.objs.size ≤ T' → Tb h' e oe.cls oe.dict T' (rawInt L) → Chg ((env :: outer).filterMap (·.frame)) e T' s.heap h' → Q () { s with heap := h' }) :
    wpAny M A (do
      let a ← frameOf env
      let pl ← entryPlaceOf L hadNext
      let b ← EntryCells.newEntry head a .none (rawInt L) .none pl
      setField (.ref e) 1 b) Q E s := by
  have nfr : e ∉ (env :: outer).filterMap (·.frame) := fun hm => by
    obtain ⟨_, o, ho, hnf⟩ := hl.mem hm
    have z : oe = o := Option.some.inj (he.symm.trans ho)
    exact hnf vs (by rw [← z]; exact hd)
  refine wpAny_bind (wpAny_frameOf_fun hfr hl hf fun g x => ?_)
  refine wpAny_bind (wpAny_entryPlaceOf fun pl hp => ?_)
  unfold EntryCells.newEntry newFields
  refine wpAny_bind (wpAny_newObj_type ?_ (hp.sizeOk5 _ _ _ _ _))
  have ge : g.get? e = some oe := (x.2.1 e nfr).trans he
  generalize hN : ({ cls := .type "traceback", dict := none, data := .fields ([head, .ref L, .none, rawInt L, .none] ++ (if pl.isEmpty then List.replicate 6 Value.none else pl)).toArray } : Obj) = N
  have nfN : N.isFreed = false := by rw [← hN]; rfl
  have dN : ∃ ts, N.data = .fields ts ∧ ts[3]? = some (rawInt L) := by
    rw [← hN]
    exact ⟨_, rfl, by first | (simp; done) | (rcases hp with rfl | ⟨_, _, _, _, _, _, _, rfl⟩ <;> simp)⟩
  have pe : (g.push N).get? e = some oe := Heap.get?_push_of_some N ge
  have pT : (g.push N).get? g.objs.size = some N := Heap.get?_push_size g nfN
  have Te : g.objs.size ≠ e := Ne.symm (Nat.ne_of_lt (Heap.lt_size ge))
  refine wpAny_setField pe hd hsz (h _ g.objs.size (by rw [x.1]; exact Nat.le_refl _) ?_ ?_)
  · obtain ⟨ts, d1, d2⟩ := dN
    have dd := Obj.data_mapFields hd (·.setIfInBounds 1 (Value.ref g.objs.size))
    refine ⟨_, _, N, ts, Heap.get?_update_self _ pe (Obj.isFreed_of_fields dd), mf_cls _ _, mf_dict _ _, dd, by simp [hsz], Te, ?_, d1, d2⟩
    exact (Heap.get?_update_other _ _ (Ne.symm Te)).trans pT
  · refine ⟨?_, fun b o q1 q2 q3 q4 => ?_, fun b o q1 q2 q3 q4 => ?_⟩
    · rw [Heap.size_after_update, Heap.size_push, x.1]; exact Nat.le_succ _
    · exact (Heap.get?_update_other _ _ (Ne.symm q3)).trans (Heap.get?_push_of_some N ((x.2.1 b q2).trans q1))
    · obtain ⟨sl, q⟩ := x.2.2 b o q1
      exact ⟨sl, (Heap.get?_update_other _ _ (Ne.symm q3)).trans (Heap.get?_push_of_some N q)⟩

private theorem note1 {oe : Obj} {vs : Array Value} {Q : Unit → Shared → Prop} (hfr : A.frames = some (env :: outer)) (hl : s.heap.FunFrames base (env :: outer)) (hf : env.frame = some L)
    (he : s.heap.get? e = some oe) (hd : oe.data = .fields vs) (h1 : vs[1]? = some .none)
    (h : ∀ h' T', s.heap.objs.size ≤ T' → Tb h' e oe.cls oe.dict T' (rawInt L) → Chg ((env :: outer).filterMap (·.frame)) e T' s.heap h' → Q () { s with heap := h' }) :
    wpAny M A (noteFrame (.ref e) env) Q E s := by
  unfold noteFrame
  simp only [hf]
  refine wpAny_bind (wpAny_field he hd h1 ?_)
  rw [if_neg (by decide)]
  exact entry hfr hl hf he hd (Array.getElem?_eq_some_iff.mp h1).1 h

private theorem note2 {cls : Value} {od : Option Addr} {Q : Unit → Shared → Prop} (hfr : A.frames = some (env :: outer)) (hl : s.heap.FunFrames base (env :: outer)) (hf : env.frame = some L)
    (t : Tb s.heap e cls od T .none)
    (h : ∀ h' T', s.heap.objs.size ≤ T' → Tb h' e cls od T' (rawInt L) → Chg ((env :: outer).filterMap (·.frame)) e T s.heap h' → Q () { s with heap := h' }) :
    wpAny M A (noteFrame (.ref e) env) Q E s := by
  obtain ⟨oe, vs, oT, ts, he, hc, ho, hd, h1, hTe, hT, hdT, h3⟩ := t
  unfold noteFrame
  simp only [hf]
  refine wpAny_bind (wpAny_field he hd h1 ?_)
  rw [if_pos (show (Value.ref T != Value.none) = true from by simp)]
  refine wpAny_bind (wpAny_field hT hdT h3 ?_)
  rw [if_neg (show ¬ ((Value.none == rawInt L) = true) from by simp [rawInt])]
  refine wpAny_bind (wpAny_setField hT hdT (Array.getElem?_eq_some_iff.mp h3).1 ?_)
  have oth : ∀ b, b ≠ T → (s.heap.update T (Obj.mapFields (·.setIfInBounds 3 Value.none))).get? b = s.heap.get? b := fun b hb => Heap.get?_update_other _ _ (Ne.symm hb)
  have apart : ∀ b o, s.heap.get? b = some o → (∀ vs, o.data ≠ .fields vs) → b ≠ T := fun b o hb hn q => by
    subst q
    exact hn ts (by rw [← Option.some.inj (hT.symm.trans hb)]; exact hdT)
  refine entry (s := { s with heap := s.heap.update T (Obj.mapFields (·.setIfInBounds 3 Value.none)) }) hfr
    (hl.of_keeps fun b o hb hn => ⟨o, (oth b (apart b o hb hn)).trans hb, rfl⟩) hf ((oth e (Ne.symm hTe)).trans he) hd (Array.getElem?_eq_some_iff.mp h1).1 fun h' T' z1 z2 z3 => ?_
  have z1' : s.heap.objs.size ≤ T' := by rw [← Heap.size_after_update s.heap T (Obj.mapFields (·.setIfInBounds 3 Value.none))]; exact z1
  rw [hc, ho] at z2
  refine h h' T' z1' z2 ⟨?_, fun b o q1 q2 q3 q4 => ?_, fun b o q1 q2 q3 q4 => ?_⟩
  · rw [← Heap.size_after_update s.heap T (Obj.mapFields (·.setIfInBounds 3 Value.none))]; exact z3.size
  · exact z3.keep b o ((oth b q4).trans q1) q2 q3 fun q => absurd (Heap.lt_size q1) (Nat.not_lt.mpr (q ▸ z1'))
  · exact z3.slot b o ((oth b q4).trans q1) q2 q3 fun q => absurd (Heap.lt_size q1) (Nat.not_lt.mpr (q ▸ z1'))

private theorem flight {fs : List Addr} {cls fl : Value} {od : Option Addr} {Q : Unit → Shared → Prop} (t : Tb s.heap e cls od T fl)
    (h : ∀ h', Tb h' e cls od T .none → Chg fs e T s.heap h' → (∀ b o, s.heap.get? b = some o → b ≠ T → h'.get? b = some o) → Q () { s with heap := h' }) : wpAny M A (setFlight (.ref e) none) Q E s := by
  obtain ⟨oe, vs, oT, ts, he, hc, ho, hd, h1, hTe, hT, hdT, h3⟩ := t
  have z3 : 3 < ts.size := (Array.getElem?_eq_some_iff.mp h3).1
  have oth : ∀ b, b ≠ T → (s.heap.update T (Obj.mapFields (·.setIfInBounds 3 ((none : Option Addr).elim Value.none fun f => rawInt f)))).get? b = s.heap.get? b :=
    fun b hb => Heap.get?_update_other _ _ (Ne.symm hb)
  unfold setFlight
  refine wpAny_bind (wpAny_field he hd h1 ?_)
  rw [if_pos (show (Value.ref T != Value.none) = true from by simp)]
  have dd := Obj.data_mapFields hdT (·.setIfInBounds 3 ((none : Option Addr).elim Value.none fun f => rawInt f))
  refine wpAny_setField hT hdT z3 (h _ ⟨oe, vs, _, _, (oth e (Ne.symm hTe)).trans he, hc, ho, hd, h1, hTe, Heap.get?_update_self _ hT (Obj.isFreed_of_fields dd), dd, by simp [z3]⟩ ?_ ?_)
  · refine ⟨?_, fun b o q1 _ _ q4 => (oth b q4).trans q1, fun b o q1 _ _ q4 => ⟨o.slots, (oth b q4).trans q1⟩⟩
    rw [Heap.size_after_update]; exact Nat.le_refl _
  · exact fun b o q1 q4 => (oth b q4).trans q1
end

structure Chg2 (fs : List Addr) (own : Addr → Prop) (h h' : Heap) : Prop where
  size : h.objs.size ≤ h'.objs.size
  keep : ∀ b o, h.get? b = some o → b ∉ fs → ¬ own b → h'.get? b = some o
  slot : ∀ b o, h.get? b = some o → b ∈ fs → ¬ own b → ∃ sl, h'.get? b = some { o with slots := sl }
private theorem Chg.two {fs : List Addr} {own : Addr → Prop} {e T : Addr} {h h' : Heap} (c : Chg fs e T h h') (o1 : own e) (o2 : own T ∨ h.get? T = none) : Chg2 fs own h h' := by
  have nT : ∀ b o, h.get? b = some o → ¬ own b → b ≠ T := fun b o q n z => by
    subst z
    rcases o2 with y | y
    · exact n y
    · rw [y] at q; cases q
  exact ⟨c.size, fun b o q a n => c.keep b o q a (fun z => n (z ▸ o1)) (nT b o q n), fun b o q a n => c.slot b o q a (fun z => n (z ▸ o1)) (nT b o q n)⟩
private theorem Chg2.trans {fs : List Addr} {own : Addr → Prop} {h h1 h2 : Heap} (a : Chg2 fs own h h1) (b : Chg2 fs own h1 h2) : Chg2 fs own h h2 :=
  ⟨Nat.le_trans a.size b.size, fun c o q n m => b.keep c o (a.keep c o q n m) n m, fun c o q n m => by
    obtain ⟨s1, e1⟩ := a.slot c o q n m
    obtain ⟨s2, e2⟩ := b.slot c _ e1 n m
    exact ⟨s2, e2⟩⟩

section
variable {M : Model} {A : Around} {E : Value → Shared → Prop} {s : Shared} {base : Heap} {env : Env} {outer : List Env} {L e T : Addr}
private theorem leave1 {oe : Obj} {vs : Array Value} {Q : Unit → Shared → Prop} (hfr : A.frames = some (env :: outer)) (hl : s.heap.FunFrames base (env :: outer)) (hf : env.frame = some L)
    (he : s.heap.get? e = some oe) (hd : oe.data = .fields vs) (h1 : vs[1]? = some .none)
    (h : ∀ h' T', s.heap.objs.size ≤ T' → Tb h' e oe.cls oe.dict T' .none → Chg2 ((env :: outer).filterMap (·.frame)) (· = e) s.heap h' → Q () { s with heap := h' }) :
    wpAny M A (leaving env (.ref e)) Q E s := by
  unfold leaving
  refine wpAny_bind (note1 hfr hl hf he hd h1 fun g T' z t c => ?_)
  refine flight (s := { s with heap := g }) (fs := (env :: outer).filterMap (·.frame)) t fun h' t' c' k => h h' T' z t' ?_
  have n : s.heap.get? T' = none := Heap.get?_none_of_le z
  refine ⟨Nat.le_trans c.size c'.size, fun b o q a m => ?_, fun b o q a m => ?_⟩
  · have bT : b ≠ T' := fun y => by subst y; rw [n] at q; cases q
    exact k b o (c.keep b o q a m bT) bT
  · have bT : b ≠ T' := fun y => by subst y; rw [n] at q; cases q
    obtain ⟨sl, y⟩ := c.slot b o q a m bT
    exact ⟨sl, k b _ y bT⟩
private theorem leave2 {cls : Value} {od : Option Addr} {Q : Unit → Shared → Prop} (hfr : A.frames = some (env :: outer)) (hl : s.heap.FunFrames base (env :: outer)) (hf : env.frame = some L)
    (t : Tb s.heap e cls od T .none)
    (h : ∀ h' T', s.heap.objs.size ≤ T' → Tb h' e cls od T' .none → Chg2 ((env :: outer).filterMap (·.frame)) (fun b => b = e ∨ b = T) s.heap h' → Q () { s with heap := h' }) :
    wpAny M A (leaving env (.ref e)) Q E s := by
  unfold leaving
  refine wpAny_bind (note2 hfr hl hf t fun g T' z t1 c => ?_)
  refine flight (s := { s with heap := g }) (fs := (env :: outer).filterMap (·.frame)) t1 fun h' t' c' k => h h' T' z t' ?_
  have n : s.heap.get? T' = none := Heap.get?_none_of_le z
  refine ⟨Nat.le_trans c.size c'.size, fun b o q a m => ?_, fun b o q a m => ?_⟩
  · have bT : b ≠ T' := fun y => by subst y; rw [n] at q; cases q
    exact k b o (c.keep b o q a (fun y => m (.inl y)) fun y => m (.inr y)) bT
  · have bT : b ≠ T' := fun y => by subst y; rw [n] at q; cases q
    obtain ⟨sl, y⟩ := c.slot b o q a (fun y => m (.inl y)) fun y => m (.inr y)
    exact ⟨sl, k b _ y bT⟩
private theorem look2 {cls : Value} {od : Option Addr} {Q : Unit → Shared → Prop} (hfr : A.frames = some (env :: outer)) (hl : s.heap.FunFrames base (env :: outer)) (hf : env.frame = some L)
    (t : Tb s.heap e cls od T .none)
    (h : ∀ h' T', s.heap.objs.size ≤ T' → Tb h' e cls od T' .none → Chg2 ((env :: outer).filterMap (·.frame)) (fun b => b = e ∨ b = T) s.heap h' → Q () { s with heap := h' }) :
    wpAny M A (noteFrame (.ref e) env) (fun _ s' => wpAny M A (setFlight (.ref e) none) Q E s') E s := by
  refine note2 hfr hl hf t fun g T' z t1 c => ?_
  refine flight (s := { s with heap := g }) (fs := (env :: outer).filterMap (·.frame)) t1 fun h' t' c' k => h h' T' z t' ?_
  have n : s.heap.get? T' = none := Heap.get?_none_of_le z
  refine ⟨Nat.le_trans c.size c'.size, fun b o q a m => ?_, fun b o q a m => ?_⟩
  · have bT : b ≠ T' := fun y => by subst y; rw [n] at q; cases q
    exact k b o (c.keep b o q a (fun y => m (.inl y)) fun y => m (.inr y)) bT
  · have bT : b ≠ T' := fun y => by subst y; rw [n] at q; cases q
    obtain ⟨sl, y⟩ := c.slot b o q a (fun y => m (.inl y)) fun y => m (.inr y)
    exact ⟨sl, k b _ y bT⟩
end
end Px
set_option Elab.async false
set_option linter.all false
set_option maxRecDepth 100000
namespace Px
open PySem PySem.W PySem.Builtin PySem.Builtin.ObjectAttr

abbrev bmV : List Value := [.type "ValueError", .type "Exception", .type "BaseException", .type "object"]

def xIn (K : Frag) (C : Addr) : Bool := match K.lookup C with
  | some ⟨.type "type", _, .cls cd, sl⟩ => (match cd.mro, sl.toList with
    | .ref D :: bm, [_, _, _, _, some (.builtin n), _] => D == C && n == "ValueError.__new__" && !cd.hasDel && tailIn K bmV bm
    | _, _ => false)
  | _ => false
private theorem x_obj {K : Frag} {h : Heap} {C : Addr} (X : K.In h) (q : xIn K C = true) : ∃ nm qn N bs bm hd sn sub ab col dd k0 k1 k2 k3 k5,
    h.get? C = some (excClassObj nm qn C N bs bm hd sn sub ab col dd k0 k1 k2 k3 k5 "ValueError.__new__") ∧ OwnTail h bmV bm := by
  unfold xIn at q
  split at q
  · rename_i dd cd sl ho
    split at q
    · rename_i D bm k0 k1 k2 k3 n k5 hm hs
      simp only [Bool.and_eq_true, beq_iff_eq, Bool.not_eq_true'] at q
      obtain ⟨⟨⟨y1, y2⟩, y3⟩, y4⟩ := q
      subst y1; subst y2
      obtain ⟨nm, bs, mro, ns, qn, hd, sn, sub, ab, col, del⟩ := cd
      dsimp only at hm y3
      subst hm; subst y3
      have e : sl = #[k0, k1, k2, k3, some (.builtin "ValueError.__new__"), k5] := by
        obtain ⟨l⟩ := sl
        exact congrArg Array.mk hs
      subst e
      exact ⟨nm, qn, ns, bs, bm, hd, sn, sub, ab, col, dd, k0, k1, k2, k3, k5, X _ _ ho, tail_of_in X y4⟩
    · cases q
  · cases q

abbrev excObj (C t : Addr) : Obj := { cls := .ref C, data := .fields #[.ref t, .none, .none, .none, .bool false, .none] }
abbrev argObj (vs : List Value) : Obj := { cls := .type "tuple", data := .seq vs.toArray }
abbrev excHeap (h : Heap) (C : Addr) (vs : List Value) : Heap := (h.push (argObj vs)).push (excObj C h.objs.size)
private theorem excHeap_keep {h : Heap} {C : Addr} {vs : List Value} {b : Addr} {o : Obj} (e : h.get? b = some o) : (excHeap h C vs).get? b = some o :=
  Heap.get?_push_of_some _ (Heap.get?_push_of_some _ e)
private theorem excHeap_at {h : Heap} {C : Addr} {vs : List Value} : (excHeap h C vs).get? (h.objs.size + 1) = some (excObj C h.objs.size) :=
  Heap.get?_push_at (by rw [Heap.size_push]) rfl

section
variable {prog : Program} {w : World} {A : Around} {E : Value → Shared → Prop} {h : Heap} {g : Array GenState} {d : Drawn} {t : Nat} {os : OsState} {K : Frag} {C fI : Addr} {vs : List Value}
private theorem made_type {Q : Fin → Shared → Prop} (X : K.In h) (q : xIn K C = true) (hi : findIn K (.ref C) "__init__" = some (some (.ref fI))) (hf : typeIn K (.ref fI) = some (.type "function"))
    (hq : wpAny (model prog w) A (call (.ref fI) (.ref (h.objs.size + 1) :: vs)) (fun r s' => r = .none ∧ Q (.done (.ret (.ref (h.objs.size + 1)))) s') E ⟨excHeap h C vs, g, d, t, os⟩) (hz : vs.length ≤ sizeLine) :
    wpAny (model prog w) A (Builtin.«type.__call__» ⟨.ref C :: vs, []⟩) Q E ⟨h, g, d, t, os⟩ := by
  obtain ⟨nm, qn, N, bs, bm, hd, sn, sub, ab, col, dd, k0, k1, k2, k3, k5, cO, tl⟩ := x_obj X q
  have FV := PySem.F.excBase_ValueError
  have inV : bmV.contains (.type "ValueError") = true := by decide
  repeat (first | with_reducible refine wpAny_loadPart_at cO ?_ | with_reducible refine wpAny_madeBy_exc cO ?_ | wp_step)
  refine codeAny_call_builtin_code (Code.quiet_builtin _ FV.quiet) (wpAny_check_new_subU FV inV tl cO ?_)
  refine codeAny_exc_new_subU FV inV FV tl cO ?_ hz
  show wpAny _ _ _ _ _ _
  have cO1 : (excHeap h C vs).get? C = _ := excHeap_keep cO
  have X1 : K.In (excHeap h C vs) := X.keeps fun b o e => excHeap_keep e
  have at1 : (excHeap h C vs).get? (h.objs.size + 1) = some (excObj C h.objs.size) := excHeap_at
  have cC : (Value.ref C :: bm).contains (.ref C) = true := by simp
  unfold isInstance
  repeat (first | with_reducible refine wpAny_loadPart_at at1 ?_ | (with_reducible refine wpAny_isSubtype_exc cO1 ?_; rw [cC]) | wp_step)
  show wpAny _ _ (typeLookup (.ref C) _) _ _ _
  refine (looks_findIn X1 hi).here (s := ⟨excHeap h C vs, g, d, t, os⟩) ?_
  refine wpAny_holding (wpAny_bind ((bind_fn X1 _ hf).here (s := ⟨excHeap h C vs, g, d, t, os⟩) ?_))
  refine wpAny_bind (wpAny_mono hq (fun r s' hr => ?_) fun _ _ x => x)
  obtain ⟨e1, hQ⟩ := hr
  subst e1
  wp_walk
  exact hQ
private theorem made_call {Q : Value → Shared → Prop} (X : K.In h) (q : xIn K C = true) (hi : findIn K (.ref C) "__init__" = some (some (.ref fI))) (hf : typeIn K (.ref fI) = some (.type "function"))
    (hq : wpAny (model prog w) (A.under (.builtin "type.__call__" ⟨.ref C :: vs, []⟩)) (call (.ref fI) (.ref (h.objs.size + 1) :: vs)) (fun r s' => r = .none ∧ Q (.ref (h.objs.size + 1)) s') E ⟨excHeap h C vs, g, d, t, os⟩)
    (hz : vs.length ≤ sizeLine) : wpAny (model prog w) A (call (.ref C) vs) Q E ⟨h, g, d, t, os⟩ := by
  obtain ⟨nm, qn, N, bs, bm, hd, sn, sub, ab, col, dd, k0, k1, k2, k3, k5, cO, tl⟩ := x_obj X q
  have l1 := tc_lookup
  have l2 := tc_bind (.ref C)
  have isT : (⟨h, g, d, t, os⟩ : Shared).TypeIs (.ref C) "type" := ⟨_, cO, rfl⟩
  refine wpAny_call (codeAny_of_tree ?_)
  show wpAny _ _ (callAny (.ref C) _) _ _ _
  repeat (any_goals (first | assumption | with_reducible refine wpAny_loadPart_at cO ?_ | wp_step))
  refine ⟨rfl, ?_⟩
  refine codeAny_call_builtin_at (Code.quiet_builtin _ (by decide +kernel)) entry_typeCall (wpAny_check_type_call_sub cO (made_type X q hi hf ?_ hz))
  exact hq
private theorem plain_call {s : Shared} {Q : Value → Shared → Prop} (X : K.In s.heap) (q : excIn K C bmV "ValueError.__new__" = true)
    (hq : ∀ h' e, Heap.MadeExcOf s.heap h' e (.ref C) vs → Q (.ref e) { s with heap := h' }) (hz : vs.length ≤ sizeLine) : wpAny (model prog w) A (call (.ref C) vs) Q E s := by
  obtain ⟨h, g, d, t, os⟩ := s
  have FV := PySem.F.excBase_ValueError
  have inV : bmV.contains (.type "ValueError") = true := by decide
  unfold excIn at q
  split at q
  · rename_i dd cd sl ho
    split at q
    · rename_i D bm k0 k1 k2 k3 n k5 hm hs
      simp only [Bool.and_eq_true, beq_iff_eq, Bool.not_eq_true'] at q
      obtain ⟨⟨⟨⟨⟨y1, y2⟩, y3⟩, y4⟩, y5⟩, y6⟩ := q
      subst y1; subst y2
      obtain ⟨nm, bs, mro, ns, qn, hd, sn, sub, ab, col, del⟩ := cd
      dsimp only at hm y3 y5 y6
      subst hm; subst y3
      have e : sl = #[k0, k1, k2, k3, some (.builtin "ValueError.__new__"), k5] := by
        obtain ⟨l⟩ := sl
        exact congrArg Array.mk hs
      subst e
      exact wpAny_call_exc_subU FV inV FV (tail_of_in X y4) (X _ _ ho) (.of_isNs (isNs_of_in X y5)) (nsMap_none_of_in X y5 y6) hq hz
    · cases q
  · cases q
end

section
variable {prog : Program} {w : World} {A : Around} {E : Value → Shared → Prop} {s : Shared} {env : Env} {K : Frag}
private theorem raise_made {x : Sem Value} {Q : Flow → Shared → Prop} (hh : A.handled = none)
    (h : wpAny (model prog w) A x (fun v s₁ => ∃ e C t oe, v = .ref e ∧ K.In s₁.heap ∧ xIn K C = true ∧ s₁.heap.get? e = some oe ∧ oe.cls = .ref C ∧ oe.data = .fields #[.ref t, .none, .none, .none, .bool false, .none] ∧ E (.ref e) s₁) E s) :
    wpAny (model prog w) A (raiseStmt env (some x) none) Q E s := by
  unfold raiseStmt
  refine wpAny_bind (wpAny_mono h (fun v s₁ h₁ => ?_) fun _ _ x => x)
  obtain ⟨e, C, t, oe, rfl, X, q, he, hc, hd, hE⟩ := h₁
  obtain ⟨nm, qn, N, bs, bm, hdc, sn, sub, ab, col, dd, k0, k1, k2, k3, k5, cO, tl⟩ := x_obj X q
  have cB : (Value.ref C :: bm).contains (.type "BaseException") = true := by rw [List.contains_cons, tl.hasType (show bmV.contains (.type "BaseException") = true from by decide), Bool.or_true]
  obtain ⟨hp, g, d, tk, os⟩ := s₁
  obtain ⟨c0, d0, dt, sl⟩ := oe
  dsimp only at hc hd
  subst hc; subst hd
  repeat (first | with_reducible refine wpAny_loadPart_at he ?_ | with_reducible refine wpAny_loadPart_at cO ?_ | (with_reducible refine wpAny_isSubtype_exc cO ?_; rw [cB]) | wp_step)
  exact wpAny_raiseNew_none hh hE
end

def valTail : List Value → Bool
  | [] => false
  | v :: r => (v :: r) == bmV || (match v with | .ref _ => valTail r | _ => false)
private theorem valTail_cases {P : List Value → Prop} (base : P bmV) (own : ∀ c r, P r → P (.ref c :: r)) : ∀ {l : List Value}, valTail l = true → P l
  | [], e => by cases e
  | v :: r, e => by
    unfold valTail at e
    rcases Bool.or_eq_true_iff.mp e with q | q
    · rw [beq_iff_eq.mp q]; exact base
    · cases v <;> first | exact own _ _ (valTail_cases base own q) | cases q
def xOver (K : Frag) (C : Addr) : Bool := (clsIn K C).any fun cd => valTail cd.mro && cd.hasDict
private theorem refuse_val (self : Value) {l : List Value} (e : valTail l = true) : refuseLoop self "__setattr__" l = pure () :=
  valTail_cases (P := fun l => refuseLoop self "__setattr__" l = pure ()) (PySem.F.store_ValueError.passes self) (fun c r q => by rw [refuseLoop_ref]; exact q) e
private theorem val_has {v : Value} (hv : bmV.contains v = true) {l : List Value} (e : valTail l = true) : l.contains v = true :=
  valTail_cases (P := fun l => l.contains v = true) hv (fun c r q => by rw [List.contains_cons, q, Bool.or_true]) e
private theorem val_ne {l : List Value} (e : valTail l = true) : l.isEmpty = false := by
  cases l with
  | nil => cases e
  | cons _ _ => rfl

section
variable {prog : Program} {w : World} {A : Around} {E : Value → Shared → Prop} {s : Shared} {K : Frag} {x C : Addr} {ox : Obj} {name : Str} {v : Value}
private theorem x_inst {M : Model} {od : Option Obj} {T : String} (X : K.In s.heap) (I : InstAt s.heap x ox C od) (hp : xOver K C = true) (hT : bmV.contains (.type T) = true) : Looks M s.heap (isInstance (.ref x) (.type T)) true := by
  obtain ⟨cd, hc, ho⟩ := any_some hp
  obtain ⟨o1, o2⟩ := Bool.and_eq_true_iff.mp ho
  refine I.type.andThen (looks_mroIn X ?_)
  unfold mroIn
  rw [hc, Option.bind_some, if_neg (by rw [val_ne o1]; decide), val_has hT o1]
private theorem x_open {R : Result → Shared → Prop} {od : Option Obj} {tk : Tok} (X : K.In s.heap) (I : InstAt s.heap x ox C od) (hp : xOver K C = true) (ht : findIn K (.ref C) name = some none)
    (h : ∀ b, wpAny (model prog w) A.in1 (storeInOwnDict (.ref x) (.ref C) (.str name tk) name v b)
      (fun fin s' => match fin with
        | .done f => R (.ok f) s'
        | .again c' => c'.quiet = true ∧ codeAny (model prog w) A c' R s') (fun e s' => R (.error e) s') s) :
    codeAny (model prog w) A (.call (.builtin "object.__setattr__") ⟨[.ref x, .str name tk, v], []⟩) R s := by
  have FS := PySem.F.store_ValueError
  have isO := x_inst (M := model prog w) (T := "object") X I hp (by decide)
  obtain ⟨cd, hc, ho⟩ := any_some hp
  obtain ⟨o1, o2⟩ := Bool.and_eq_true_iff.mp ho
  refine codeAny_call_builtin FS.slot.plain FS.entry (@check_slot (model prog w) _ _ s "object.__setattr__" "object" "__setattr__" (.ref x) [.str name tk, v] [] _ FS.kind FS.split isO (FS.args (.ref x) (.str name tk) v) ?_)
  have mr : Looks (model prog w) s.heap (mroOf (.ref C)) cd.mro := (looks_clsIn X hc).andThen .now
  rw [osa_eq, refuse_eq]
  refine wpAny_bind (wpAny_bind (I.type.here (wpAny_bind (mr.here ?_))))
  rw [refuse_val _ o1]
  have nt : Looks (model prog w) s.heap (storeTaker? none) none := .now
  refine wpAny_pure (wpAny_bind (I.type.here (wpAny_bind ((looks_findIn X ht).here (wpAny_bind (nt.here ?_))))))
  exact h _
private theorem x_set1 {Q : Unit → Shared → Prop} {vs : Array Value} {sl : Array (Option Value)} (X : K.In s.heap) (hx : s.heap.get? x = some ⟨.ref C, none, .fields vs, sl⟩) (hp : xOver K C = true)
    (hs : findIn K (.ref C) "__setattr__" = some (some (.builtin "object.__setattr__"))) (ht : findIn K (.ref C) name = some none)
    (h : ∀ h' tk, h'.get? x = some ⟨.ref C, some s.heap.objs.size, .fields vs, sl⟩ → h'.Ns1 s.heap.objs.size (fun y => if y = name then some v else none) → s.heap.objs.size ≤ h'.objs.size →
      (∀ b o, b ≠ x → s.heap.get? b = some o → h'.get? b = some o) → Q () { s with heap := h', toks := tk }) : wpAny (model prog w) A (setAttr (.ref x) name v) Q E s := by
  have I : InstAt s.heap x ⟨.ref C, none, .fields vs, sl⟩ C none := ⟨hx, rfl, rfl, trivial⟩
  obtain ⟨cd, hc, ho⟩ := any_some hp
  obtain ⟨o1, o2⟩ := Bool.and_eq_true_iff.mp ho
  refine set_plain X I hs (x_open (s := { s with toks := s.toks + 1 }) X I hp ht fun b => ?_)
  refine wpAny_bind (wpAny_pure (wpAny_bind (wpAny_bind (wpAny_loadPart hx (wpAny_bind (Looks.here (s := { s with toks := s.toks + 1 }) (looks_clsIn X hc) ?_))))))
  rw [o2]
  have hx1 : (s.heap.push { cls := .type "dict", data := .dict #[] }).get? x = some ⟨.ref C, none, .fields vs, sl⟩ := Heap.get?_push_of_some _ hx
  have xs : x ≠ s.heap.objs.size := Nat.ne_of_lt (Heap.lt_size hx)
  refine wpAny_bind (wpAny_alloc' ?_)
  refine wpAny_bind (wpAny_update' hx1 ?_)
  refine wpAny_pure ?_
  have gd : ((s.heap.push { cls := .type "dict", data := .dict #[] }).update x fun o => { o with dict := some s.heap.objs.size }).get? s.heap.objs.size = some { cls := .type "dict", data := .dict #[] } :=
    (Heap.get?_update_other _ _ xs).trans (Heap.get?_push_size _ rfl)
  have gx : ((s.heap.push { cls := .type "dict", data := .dict #[] }).update x fun o => { o with dict := some s.heap.objs.size }).get? x = some ⟨.ref C, some s.heap.objs.size, .fields vs, sl⟩ :=
    Heap.get?_update_self _ hx1 rfl
  have nd : ((s.heap.push { cls := .type "dict", data := .dict #[] }).update x fun o => { o with dict := some s.heap.objs.size }).Ns s.heap.objs.size (fun _ => none) :=
    ⟨_, #[], _, gd, rfl, fun e he => absurd he (by simp), fun _ => rfl⟩
  show wpAny _ _ (storeInDict s.heap.objs.size (.str name _) name v) _ _ _
  unfold storeInDict newKeyGuard
  refine wpAny_bind (wpAny_pure (wpAny_bind (wpAny_nsSet1 (Heap.Ns1.of_empty nd) fun h' n' sb => ?_)))
  obtain ⟨oD, esD, epD, q1, q2, q3⟩ := n'.count (Within.cons name v Within.nil)
  refine wpAny_bind (wpAny_lookBehind q1 (by rw [q2]; exact pastItsLine_dict (Nat.le_trans q3 (by rw [List.length_cons, List.length_nil, sizeLine_eq]; omega))) ?_)
  refine wpAny_pure (h h' _ ((sb.2 x xs).trans gx) n' ?_ fun b o bx e => ?_)
  · rw [sb.1, Heap.size_after_update, Heap.size_push]; exact Nat.le_succ _
  · exact (sb.2 b (Nat.ne_of_lt (Heap.lt_size e))).trans ((Heap.get?_update_other _ _ (Ne.symm bx)).trans (Heap.get?_push_of_some _ e))
private theorem x_set2 {Q : Unit → Shared → Prop} {vs : Array Value} {sl : Array (Option Value)} {dx : Addr} {mA : Str → Option Value} {ns : List Str} (X : K.In s.heap) (hx : s.heap.get? x = some ⟨.ref C, some dx, .fields vs, sl⟩) (hd : s.heap.Ns1 dx mA) (hp : xOver K C = true)
    (hs : findIn K (.ref C) "__setattr__" = some (some (.builtin "object.__setattr__"))) (ht : findIn K (.ref C) name = some none) (hw : Within mA ns) (hz : ns.length ≤ sizeLine)
    (h : ∀ h' tk, h'.Ns1 dx (fun y => if y = name then some v else mA y) → Heap.SameBut dx s.heap h' → Q () { s with heap := h', toks := tk }) : wpAny (model prog w) A (setAttr (.ref x) name v) Q E s := by
  obtain ⟨od, es0, ep0, g1, g2⟩ := id hd
  have I : InstAt s.heap x ⟨.ref C, some dx, .fields vs, sl⟩ C (some od) := ⟨hx, rfl, rfl, g1⟩
  obtain ⟨cd, hc, ho⟩ := any_some hp
  obtain ⟨o1, o2⟩ := Bool.and_eq_true_iff.mp ho
  refine set_plain X I hs (x_open (s := { s with toks := s.toks + 1 }) X I hp ht fun b => ?_)
  refine wpAny_bind (wpAny_pure (wpAny_bind (wpAny_bind (wpAny_loadPart hx (wpAny_bind (Looks.here (s := { s with toks := s.toks + 1 }) (looks_clsIn X hc) ?_))))))
  rw [o2]
  refine wpAny_pure (a := some dx) (wpAny_bind (wpAny_pure (wpAny_bind ?_)))
  refine wpAny_nsSet1 (s := { s with toks := s.toks + 1 }) hd fun h' n2 sb => ?_
  obtain ⟨oD, esD, epD, q1, q2, q3⟩ := n2.count (Within.cons name v hw)
  refine wpAny_bind (wpAny_lookBehind q1 (by rw [q2]; exact pastItsLine_dict (Nat.le_trans q3 (by rw [List.length_cons]; omega))) ?_)
  exact wpAny_pure (h _ _ n2 sb)
end
end Px
set_option Elab.async false
set_option linter.all false
set_option maxRecDepth 100000
namespace L2
open PySem PySem.Spec PyProof.Rows Px

def exO (a C : Addr) (od : Option Addr) (fr : Bool) : HO := .ext fun h => ∃ vs sl, h.get? a = some ⟨.ref C, od, .fields vs, sl⟩ ∧ (fr = true → ∃ t, vs = #[.ref t, .none, .none, .none, .bool false, .none])
def xdO (a : Addr) (fs : List (Str × V)) : HO := .ext fun h => ∃ mA, h.Ns1 a mA ∧ (∀ f, RelO (fs.lookup f) (mA f)) ∧ PySem.Within mA (fs.map (·.1))
def del (H : Hp) (a : Addr) : Hp := fun b => if b = a then none else H b
private theorem del_same {H : Hp} {a : Addr} : del H a a = none := by unfold del; rw [if_pos rfl]
private theorem del_ne {H : Hp} {a b : Addr} (h : b ≠ a) : del H a b = H b := by unfold del; rw [if_neg h]
private theorem del_upd {H : Hp} {a : Addr} {o : HO} (h : H a = none) : del (upd H a o) a = H := by
  funext b
  unfold del upd
  by_cases e : b = a
  · rw [if_pos e, e, h]
  · rw [if_neg e, if_neg e]

section
variable {P : Program} {w : World} {H H' : Hp} {h h' h2 : Heap} {a C : Addr} {o : HO} {fs ex fs' : List Addr} {own : Addr → Prop}
private theorem exO_ok {od : Option Addr} {fr : Bool} {vs : Array Value} {sl : Array (Option Value)} (e : h.get? a = some ⟨.ref C, od, .fields vs, sl⟩) (f : fr = true → ∃ t, vs = #[.ref t, .none, .none, .none, .bool false, .none]) : ObjOk P w H h a (exO a C od fr) :=
  ⟨⟨vs, sl, e, f⟩, ⟨_, e⟩, fun _ _ ⟨vs, sl, e, f⟩ k => ⟨vs, sl, k _ e, f⟩⟩
private theorem exO_get {od : Option Addr} {fr : Bool} (ok : HOk P w H h) (e : H a = some (exO a C od fr)) : ∃ vs sl, h.get? a = some ⟨.ref C, od, .fields vs, sl⟩ ∧ (fr = true → ∃ t, vs = #[.ref t, .none, .none, .none, .bool false, .none]) :=
  (show ObjOk P w H h a (exO a C od fr) from ok a _ e).1
private theorem xdO_ok {l : List (Str × V)} {mA : Str → Option Value} (n : h.Ns1 a mA) (r : ∀ f, RelO (l.lookup f) (mA f)) (wi : PySem.Within mA (l.map (·.1))) : ObjOk P w H h a (xdO a l) :=
  ⟨⟨mA, n, r, wi⟩, let ⟨o, _, _, e, _⟩ := n; ⟨o, e⟩, fun _ _ ⟨mA, n, r, wi⟩ k => ⟨mA, n.at k, r, wi⟩⟩
private theorem xdO_get {l : List (Str × V)} (ok : HOk P w H h) (e : H a = some (xdO a l)) : ∃ mA, h.Ns1 a mA ∧ (∀ f, RelO (l.lookup f) (mA f)) ∧ PySem.Within mA (l.map (·.1)) :=
  (show ObjOk P w H h a (xdO a l) from ok a _ e).1
private theorem HOk.track (x : HOk P w H h) (n : H a = none) (new : ObjOk P w (upd H a o) h a o) : HOk P w (upd H a o) h := fun b u e => by
  by_cases hb : b = a
  · subst hb; rw [upd_same] at e; cases e; exact new
  · rw [upd_ne hb] at e
    exact (x b u e).stay (fun _ _ _ q => q) (fun c q => by rw [upd_ne (ne_of_none q n)]; exact q) fun c xs q => by rw [upd_ne (ne_of_none q n)]; exact q
private theorem Un.track (u : Un fs ex H H' h h') (n : H' a = none) (nw : ∀ ob, h.get? a = some ob → a ∈ ex ∨ H a ≠ none) : Un fs ex H (upd H' a o) h h' where
  keep := u.keep
  slot := u.slot
  free := fun b ob q m hx => by
    rw [upd_ne]
    · exact u.free b ob q m hx
    · intro e
      subst e
      rcases nw ob q with z | z
      · exact hx z
      · exact z m
  there := u.there
  tups := fun b xs q => by rw [upd_ne (ne_of_none (u.tups b xs q) n)]; exact u.tups b xs q
  frzs := fun b ob v q => by rw [upd_ne (ne_of_none (u.frzs b ob v q) n)]; exact u.frzs b ob v q
  tbls := fun b ps q => by
    obtain ⟨m, e⟩ := u.tbls b ps q
    exact ⟨m, by rw [upd_ne (ne_of_none e n)]; exact e⟩
private theorem HOk.drop {φ : Heap → Prop} (x : HOk P w H h) (e : H a = some (.ext φ)) : HOk P w (del H a) h := fun b u q => by
  by_cases hb : b = a
  · rw [hb, del_same] at q; cases q
  · rw [del_ne hb] at q
    exact (x b u q).stay (fun _ _ _ z => z) (fun c z => by rw [del_ne (ne_of z e (by intro y; cases y))]; exact z) fun c xs z => by rw [del_ne (ne_of z e (by intro y; cases y))]; exact z
private theorem Un.drop {φ : Heap → Prop} (u : Un fs ex H H' h h') (e : H' a = some (.ext φ)) : Un fs ex H (del H' a) h h' where
  keep := u.keep
  slot := u.slot
  free := fun b ob q m hx => by
    by_cases hb : b = a
    · rw [hb]; exact del_same
    · rw [del_ne hb]; exact u.free b ob q m hx
  there := u.there
  tups := fun b xs q => by rw [del_ne (ne_of (u.tups b xs q) e (by intro y; cases y))]; exact u.tups b xs q
  frzs := fun b ob v q => by rw [del_ne (ne_of (u.frzs b ob v q) e (by intro y; cases y))]; exact u.frzs b ob v q
  tbls := fun b ps q => by
    obtain ⟨m, z⟩ := u.tbls b ps q
    exact ⟨m, by rw [del_ne (ne_of z e (by intro y; cases y))]; exact z⟩
private theorem Un.chg (u : Un fs ex H H' h h') (c : Chg2 fs' own h' h2) (hfs : ∀ b ob, h.get? b = some ob → b ∈ fs' → b ∈ fs)
    (nw : ∀ b, own b → h.get? b = none ∨ (H b ≠ none ∧ ∃ o', h2.get? b = some o')) : Un fs ex H H' h h2 := by
  have no : ∀ b ob, h.get? b = some ob → H b = none → ¬ own b := fun b ob q n z => by
    rcases nw b z with y | y
    · rw [y] at q; cases q
    · exact y.1 n
  refine ⟨fun b ob q n hb hx => c.keep b ob (u.keep b ob q n hb hx) (fun z => hb (hfs b ob q z)) (no b ob q n), fun b ob q n hb hx => ?_, u.free, fun b ob q hx => ?_, u.tups, u.frzs, u.tbls⟩
  · obtain ⟨sl, e⟩ := u.slot b ob q n hb hx
    by_cases z : b ∈ fs'
    · obtain ⟨s2, e2⟩ := c.slot b _ e z (no b ob q n)
      exact ⟨s2, e2⟩
    · exact ⟨sl, c.keep b _ e z (no b ob q n)⟩
  · obtain ⟨o', e⟩ := u.there b ob q hx
    by_cases y : own b
    · rcases nw b y with z | z
      · rw [z] at q; cases q
      · exact z.2
    · by_cases z : b ∈ fs'
      · obtain ⟨s2, e2⟩ := c.slot b _ e z y
        exact ⟨_, e2⟩
      · exact ⟨_, c.keep b _ e z y⟩
private theorem HOk.chg (x : HOk P w H h) (c : Chg2 fs' own h h2) (n1 : ∀ b, own b → H b = none) (n2 : ∀ b ∈ fs', H b = none) : HOk P w H h2 := fun b u e => by
  have k : ∀ c' v, (∃ z, H c' = some z) → h.get? c' = some v → h2.get? c' = some v := fun c' v ⟨z, hz⟩ q =>
    c.keep c' v q (fun m => by rw [n2 c' m] at hz; cases hz) (fun m => by rw [n1 c' m] at hz; cases hz)
  refine (x b u e).stay (fun c' v hc q => k c' v ?_ q) (fun _ q => q) fun _ _ q => q
  rcases hc with z | z
  · rw [z]; exact ⟨_, e⟩
  · exact ⟨_, z⟩
end

section
variable {X : Cx} {pins : List (Addr × Obj)} {σ : St} {H : Hp} {s : Shared} {h' : Heap}
private theorem ObjOk.thereN {P : Program} {w : World} {H : Hp} {h : Heap} {a : Addr} {u : HO} (x : ObjOk P w H h a u) : ∃ ob, h.get? a = some ob := by
  cases u with
  | lst xs => obtain ⟨_, _, _, _, e⟩ := x; exact ⟨_, e⟩
  | tup xs => obtain ⟨_, _, _, ob, e, _⟩ := x; exact ⟨_, e⟩
  | dK kvs => obtain ⟨_, _, _, _, o, _, _, e, _⟩ := x; exact ⟨_, e⟩
  | dT kvs => obtain ⟨_, _, _, _, o, _, _, e, _⟩ := x; exact ⟨_, e⟩
  | set S n => obtain ⟨o, _, _, _, e, _⟩ := x; exact ⟨_, e⟩
  | ins C dx fs => obtain ⟨_, _, _, e, _⟩ := x; exact ⟨_, e⟩
  | own y => exact x
  | xd fs => obtain ⟨_, ⟨_, _, _, e, _⟩, _⟩ := x; exact ⟨_, e⟩
  | rng lo hi => obtain ⟨_, _, _, e⟩ := x; exact ⟨_, e⟩
  | frz ob u => obtain ⟨e, _⟩ := x; exact ⟨_, e⟩
  | tbl ps => exact ⟨_, (show h.get? a = some _ from x)⟩
  | met f y => exact ⟨_, (show h.get? a = some _ from x)⟩
  | ext φ => exact x.2.1
private theorem HOk.noneN {P : Program} {w : World} {H : Hp} {h : Heap} {a : Addr} (x : HOk P w H h) (n : h.get? a = none) : H a = none := by
  cases q : H a with
  | none => rfl
  | some u =>
    obtain ⟨ob, z⟩ := (x a u q).thereN
    rw [n] at z; cases z
private theorem Inv.laidN {a : Addr} {o : HO} {t' : Nat} (I : Inv X pins σ H s) (k : ∀ b u, s.heap.get? b = some u → h'.get? b = some u) (hp : s.heap.get? a = none) (new : ObjOk X.prog X.w (upd H a o) h' a o) :
    Inv X pins σ (upd H a o) { s with heap := h', toks := t' } := by
  have n : H a = none := I.hok.noneN hp
  exact I.un ((Un.kept k).track n fun ob q => by rw [hp] at q; cases q) ((I.hok.kept k).track n new)

end
def CX1 (P : Program) (w : World) : CXT := fun outer H s E e s' => ∃ (ea : Addr) (cls : Value) (od : Option Addr) (H' : Hp) (T : Addr), e = .ref ea ∧ s'.os = s.os ∧ AllBare s'.gens ∧ Un (frs outer) [] H H' s.heap s'.heap ∧ HOk P w H' s'.heap ∧
  Tb s'.heap ea cls od T .none ∧ (s.heap.get? ea = none ∨ H ea ≠ none) ∧ s.heap.get? T = none ∧ H' ea = none ∧ H' T = none ∧ E cls od H'

private theorem none_back {fs ex : List Addr} {H H' : Hp} {h h' : Heap} {b : Addr} (u : Un fs ex H H' h h') (hx : b ∉ ex) (n : h'.get? b = none) : h.get? b = none := by
  cases q : h.get? b with
  | none => rfl
  | some o =>
    obtain ⟨o', e⟩ := u.there b o q hx
    rw [n] at e; cases e

section
variable {P : Program} {w : World} {K : PySem.W.Frag} {mg : Str → Option Value} {base : Heap} {N : List Str} {qual : Str} {scope : Scope} {f : Addr} {cd : Value} {A : Around} {outer : List Env} {s₀ : Shared} {H₀ : Hp} {E : XK}
def RaisesTo (X : Cx) (E : XK) : Prop := ∀ (pins : List (Addr × Obj)) (σ : St) (H : Hp) (s : Shared) (e C : Addr) (od : Option Addr), Inv X pins σ H s → H e = some (exO e C od true) → E (.ref C) od (del H e) → X.xe (.ref e) s
private theorem raise_fn : RaisesTo (cxOf (CX1 P w) P w K mg base N qual scope f cd A outer s₀ H₀ E) E := by
  intro pins σ H s e C od I he q
  obtain ⟨vs, sl, ge, fr⟩ := exO_get I.hok he
  obtain ⟨t, rfl⟩ := fr rfl
  show wpAny (model P w) (A.deeper _) (leaving _ (.ref e)) _ _ s
  refine leave1 (base := base) I.ok.frames I.stack rfl ge rfl rfl fun h' T' z tb c => ?_
  have nT : s.heap.get? T' = none := Heap.get?_none_of_le z
  have old : s₀.heap.get? e = none ∨ H₀ e ≠ none := by
    cases q1 : s₀.heap.get? e with
    | none => exact .inl rfl
    | some ob =>
      refine .inr fun n => ?_
      have := I.base.free e ob q1 n (by intro z; cases z)
      rw [he] at this; cases this
  have fr2 : ∀ b ∈ frs (envOfC qual scope s₀.heap.objs.size f cd :: outer), H b = none := I.stkFree
  have te : ∃ o', h'.get? e = some o' := let ⟨oe, _, _, _, y, _⟩ := tb; ⟨oe, y⟩
  refine ⟨e, .ref C, od, del H e, T', rfl, I.os, I.bare, ?_, ?_, tb, old, none_back I.base (by intro z; cases z) nT, del_same, ?_, q⟩
  · refine (I.base.drop he).chg (fs' := frs (envOfC qual scope s₀.heap.objs.size f cd :: outer)) c (fun b ob q1 q2 => ?_) fun b y => ?_
    · have lt := Heap.lt_size q1
      rcases List.mem_cons.mp (I.stkSub b q2) with y | y
      · exact absurd lt (by rw [y]; exact Nat.not_lt.mpr (Nat.le_refl _))
      · exact y
    · subst y
      rcases old with y | y
      · exact .inl y
      · exact .inr ⟨y, te⟩
  · refine (I.hok.drop he).chg c (fun b y => by rw [y]; exact del_same) fun b y => ?_
    by_cases hb : b = e
    · rw [hb]; exact del_same
    · rw [del_ne hb]; exact fr2 b y
  · have : H T' = none := I.hok.fresh z
    by_cases hb : T' = e
    · rw [hb]; exact del_same
    · rw [del_ne hb]; exact this
def PassesS (CX : CXT) (X : Cx) (E : St → XK) : Prop := ∀ (pins : List (Addr × Obj)) (σ : St) (H : Hp) (s : Shared) (e : Value) (s' : Shared), Inv X pins σ H s → CX X.stack H s (E σ) e s' → X.xe e s'
private theorem pass_fn : Passes (CX1 P w) (cxOf (CX1 P w) P w K mg base N qual scope f cd A outer s₀ H₀ E) E := by
  intro pins σ H s e s' I0 hc
  obtain ⟨ea, cls, od, H', T, rfl, os, bare, un, hok, tb, old, nT, u1, u2, q⟩ := hc
  have I := I0.call' os un hok bare (fun b z => nomatch z)
  show wpAny (model P w) (A.deeper _) (leaving _ (.ref ea)) _ _ s'
  refine leave2 (base := base) I.ok.frames I.stack rfl tb fun h' T' z tb' c => ?_
  have nT' : s'.heap.get? T' = none := Heap.get?_none_of_le z
  have old' : s₀.heap.get? ea = none ∨ H₀ ea ≠ none := by
    cases q1 : s₀.heap.get? ea with
    | none => exact .inl rfl
    | some ob =>
      refine .inr fun n => ?_
      rcases old with y | y
      · have y' : s₀.heap.get? ea = none := none_back I0.base (by intro z; cases z) y
        rw [y'] at q1; cases q1
      · exact y (I0.base.free ea ob q1 n (by intro z; cases z))
  have te : ∃ o', h'.get? ea = some o' := let ⟨oe, _, _, _, y, _⟩ := tb'; ⟨oe, y⟩
  have n0 : s₀.heap.get? T = none := none_back I0.base (by intro z; cases z) nT
  refine ⟨ea, cls, od, H', T', rfl, I.os, I.bare, ?_, ?_, tb', old', none_back I.base (by intro z; cases z) nT', u1, hok.fresh z, q⟩
  · refine I.base.chg (fs' := frs (envOfC qual scope s₀.heap.objs.size f cd :: outer)) c (fun b ob q1 q2 => ?_) fun b y => ?_
    · have lt := Heap.lt_size q1
      rcases List.mem_cons.mp (I.stkSub b q2) with y | y
      · exact absurd lt (by rw [y]; exact Nat.not_lt.mpr (Nat.le_refl _))
      · exact y
    · rcases y with y | y
      · subst y
        rcases old' with y | y
        · exact .inl y
        · exact .inr ⟨y, te⟩
      · subst y; exact .inl n0
  · refine hok.chg c (fun b y => ?_) I.stkFree
    rcases y with y | y
    · rw [y]; exact u1
    · rw [y]; exact u2
end
end L2
set_option Elab.async false
set_option linter.all false
set_option maxRecDepth 100000
namespace L2
open PySem PySem.Spec PyProof.Rows Px

structure XCls (K : PySem.W.Frag) (C : Addr) : Prop where
  q : xIn K C = true
  ov : xOver K C = true
  sa : PySem.W.findIn K (.ref C) "__setattr__" = some (some (.builtin "object.__setattr__"))
  ga : PySem.W.findIn K (.ref C) "__getattribute__" = some (some (.builtin "BaseException.__getattribute__"))
  gn : PySem.W.findIn K (.ref C) "__getattr__" = some none
  kp : PySem.W.keepIn K (.ref C) = true
private theorem XCls.hd {K : PySem.W.Frag} {C : Addr} (c : XCls K C) : PySem.W.hasDictIn K C = true := by
  obtain ⟨cd, hc, ho⟩ := PySem.W.any_some c.ov
  unfold PySem.W.hasDictIn
  rw [hc]
  exact (Bool.and_eq_true_iff.mp ho).2

def tExc (C : Addr) (t : TA) : TE := fun σ H Q => t σ H fun vs H1 => vs.length ≤ sizeLine ∧ ∀ e, H1 e = none → Q (.ref e) (upd H1 e (exO e C none true))
def tExcI (C : Addr) (sp : Sp) (t : TA) : TE := fun σ H Q => t σ H fun vs H1 => vs.length ≤ sizeLine ∧ ∀ x, H1 x = none → sp (.ref x :: vs) (upd H1 x (exO x C none true)) (fun v H2 => v = .non ∧ Q (.ref x) H2) E0
section
variable {X : Cx} {k : Nat} {f C : Addr} {fd : FuncData} {ps : List Str} {sp : Sp} {x : Str} {p pos : Pos} {e : Expr} {es : List Expr} {t : TA}
private theorem pe_exc (c : XCls X.K C) (hq : PySem.W.excIn X.K C bmV "ValueError.__new__" = true) (hg : Gl X x) (hm : X.mg x = some (.ref C)) (ha : PA X (e :: es) t)
    (hdb : (x == ("__debug__" : Str)) = false := by decide) (he : starEach (e :: es) X.env = (false, eval e X.env) :: starEach es X.env := by rfl) (hpl : (backTo pos (starEach es X.env)).any (·.1) = false := by rfl) :
    PE X (.Call (.Name x p) (e :: es) [] pos) (tExc C t) := by
  intro pins s σ H Q I h
  refine wpAny_Call_Name_kw (ld_glob I hg hm ?_ hdb)
  refine PySem.W.callWith_K (h₀ := X.base) I.ok.mod.kin c.kp (thn (ha pos pins s σ H _ I h) fun us s1 ⟨vs, H1, I1, r, z, q⟩ => ⟨I1.kIn, ?_⟩) he hpl
  refine plain_call I1.kIn hq (fun h' ea mk => ?_) (show us.length ≤ sizeLine by rw [← r.length]; exact z)
  obtain ⟨t, ge, nt, gt⟩ := mk.there
  exact ⟨.ref ea, _, I1.laidN (t' := s1.toks) mk.keeps mk.new (exO_ok ge fun _ => ⟨t, rfl⟩), rfl, q ea (I1.hok.noneN mk.new)⟩
private theorem pe_excI (c : XCls X.K C) (hi : PySem.W.findIn X.K (.ref C) "__init__" = some (some (.ref f))) (hf : PySem.W.isFn X.K (.ref f) = true) (F : FnOk X.prog X.w X.K X.mg X.base CX0 k f fd ps sp) (hr : Room (k + 1) X.A) (hb : Binds X.K fd ps [])
    (hg : Gl X x) (hm : X.mg x = some (.ref C)) (ha : PA X (e :: es) t)
    (hdb : (x == ("__debug__" : Str)) = false := by decide) (he : starEach (e :: es) X.env = (false, eval e X.env) :: starEach es X.env := by rfl) (hpl : (backTo pos (starEach es X.env)).any (·.1) = false := by rfl) :
    PE X (.Call (.Name x p) (e :: es) [] pos) (tExcI C sp t) := by
  intro pins s σ H Q I h
  refine wpAny_Call_Name_kw (ld_glob I hg hm ?_ hdb)
  refine PySem.W.callWith_K (h₀ := X.base) I.ok.mod.kin c.kp (thn (ha pos pins s σ H _ I h) fun us s1 ⟨vs, H1, I1, r, z, q⟩ => ⟨I1.kIn, ?_⟩) he hpl
  have I2 : Inv X pins σ (upd H1 (s1.heap.objs.size + 1) (exO (s1.heap.objs.size + 1) C none true)) { s1 with heap := excHeap s1.heap C us } :=
    I1.laidN (t' := s1.toks) (fun _ _ y => excHeap_keep y) (Heap.get?_none_of_le (Nat.le_succ _)) (exO_ok excHeap_at fun _ => ⟨_, rfl⟩)
  have hq := q (s1.heap.objs.size + 1) (I1.hok.fresh (Nat.le_succ _))
  have r2 : Vals (V.ref (s1.heap.objs.size + 1) :: vs) (Value.ref (s1.heap.objs.size + 1) :: us) := .cons rfl r
  have hl : ((Value.ref (s1.heap.objs.size + 1) :: us) ++ []).length = ps.length := by
    rw [List.append_nil, ← r2.length]; exact F.len _ _ _ _ hq
  have hz : us.length ≤ sizeLine := by rw [← r.length]; exact z
  obtain ⟨h1, g1, d1, t1, o1⟩ := s1
  refine made_call I1.kIn c.q hi (beq_iff_eq.mp hf) ?_ hz
  have hbb := hb _ (Value.ref (h1.objs.size + 1) :: us) I2.kIn hl
  rw [List.append_nil] at hbb
  refine wpAny_call (codeAny_mono (F.run _ X.stack _ _ ⟨Value.ref (h1.objs.size + 1) :: us, []⟩ (Value.ref (h1.objs.size + 1) :: us) _ _ E0 (hr.make C us []) (I2.env0.make C us []) hbb r2 hq) fun r s' hq' => ?_)
  cases r with
  | error e => exact False.elim hq'
  | ok fl =>
    cases fl with
    | ret u =>
      obtain ⟨v, H', I3, rv, ev, q3⟩ := I2.after hq'
      subst ev
      exact ⟨rv, ⟨V.ref (h1.objs.size + 1), H', I3, rfl, q3⟩⟩
    | next => exact False.elim hq'
    | brk => exact False.elim hq'
    | cont => exact False.elim hq'
end

def tRaise (K : PySem.W.Frag) (te : TE) (E : XK) : TS := fun D σ H => te σ H fun v H1 => ∃ e C od, v = .ref e ∧ H1 e = some (exO e C od true) ∧ xIn K C = true ∧ E (.ref C) od (del H1 e)
private theorem ps_raise {X : Cx} {E : XK} {ex : Expr} {te : TE} {pos : Pos} (hx : RaisesTo X E) (hc : X.calm = true) (he : PE X ex te) : PS X (.Raise (some ex) none pos) (tRaise X.K te E) := by
  intro pins s σ H D I h
  rw [arm_exec_Raise]
  refine wpAny_bind (wpAny_standAt ?_)
  refine raise_made (K := X.K) (I.ok.hd hc) ?_
  refine wpAny_bind (wpAny_mono (he pins s σ H _ I h) (fun v s1 hv => wpAny_bind (wpAny_standAt (wpAny_pure ?_))) fun _ _ z => z)
  obtain ⟨y, H1, I1, ry, ea, C, od, rfl, hea, qC, hE⟩ := hv
  obtain rfl : v = Value.ref ea := ry
  obtain ⟨vs, sl, ge, fr⟩ := exO_get I1.hok hea
  obtain ⟨t, rfl⟩ := fr rfl
  exact ⟨ea, C, t, _, rfl, I1.kIn, qC, ge, rfl, rfl, hx pins σ H1 s1 ea C od I1 hea hE⟩

def sXF1 (K : PySem.W.Frag) (ta tv : TE) (f : Str) : TS := fun D σ H => tv σ H fun y H1 => ta σ H1 fun x H2 => ∃ a C fr, x = .ref a ∧ H2 a = some (exO a C none fr) ∧ XCls K C ∧ NoAttr K C f ∧
  ∀ d, H2 d = none → d ≠ a → D.nx σ (upd (upd H2 d (xdO d [(f, y)])) a (exO a C (some d) fr))
def sXF2 (K : PySem.W.Frag) (ta tv : TE) (f : Str) : TS := fun D σ H => tv σ H fun y H1 => ta σ H1 fun x H2 => ∃ a C fr d l, x = .ref a ∧ H2 a = some (exO a C (some d) fr) ∧ H2 d = some (xdO d l) ∧ d ≠ a ∧ XCls K C ∧ NoAttr K C f ∧ l.length < 1000 ∧
  D.nx σ (upd H2 d (xdO d (putF f y l)))
def tXG (K : PySem.W.Frag) (ta : TE) (f : Str) : TE := fun σ H Q => ta σ H fun x H1 => ∃ a C fr d l v, x = .ref a ∧ H1 a = some (exO a C (some d) fr) ∧ H1 d = some (xdO d l) ∧ XCls K C ∧ NoAttr K C f ∧ l.lookup f = some v ∧ Q v H1
section
variable {X : Cx} {o e value : Expr} {f : Str} {pos pos' : Pos} {ta tv : TE}
private theorem ps_xf1 (ha : PE X o ta) (hv : PE X value tv) (hs : swapsWith value (some (.Attribute o f pos')) pos.line X.env = pure false) : PS X (.Assign [.Attribute o f pos'] value pos) (sXF1 X.K ta tv f) := by
  intro pins s σ H D I h
  refine plainObj_wpAny_Assign_Attribute (thn (hv pins s σ H _ I h) fun u s1 ⟨y, H1, I1, ry, q⟩ => thn (ha pins s1 σ H1 _ I1 q) fun ov s2 ⟨x, H2, I2, rx, a, C, fr, ex, ea, c, n, q2⟩ => ?_) hs
  subst ex
  obtain rfl : ov = Value.ref a := rx
  obtain ⟨vs, sl, ge, hfr⟩ := exO_get I2.hok ea
  refine x_set1 I2.kIn ge c.ov c.sa n fun h' tk gx nd sz kp => ?_
  have nd0 : H2 s2.heap.objs.size = none := I2.hok.fresh (Nat.le_refl _)
  have da : s2.heap.objs.size ≠ a := Ne.symm (Nat.ne_of_lt (Heap.lt_size ge))
  have na : ∀ b, H2 b = none → b ≠ a := fun b z y => by rw [y, ea] at z; cases z
  refine ⟨σ, _, ?_, q2 _ nd0 da⟩
  refine I2.un (h' := h') (t' := tk) ⟨fun b ob g z _ _ => kp b ob (na b z) g, fun b ob g z _ _ => ⟨ob.slots, kp b ob (na b z) g⟩, fun b ob g z _ => ?_, fun b ob g _ => ?_, fun b xs g => ?_, fun b ob v g => ?_, fun b ps g => ?_⟩ fun b w g => ?_
  · rw [upd_ne (na b z), upd_ne (Nat.ne_of_lt (Heap.lt_size g))]; exact z
  · by_cases y : b = a
    · rw [y]; exact ⟨_, gx⟩
    · exact ⟨_, kp b ob y g⟩
  · rw [upd_ne (ne_of g ea (by intro y; cases y)), upd_ne (ne_of_none g nd0)]; exact g
  · rw [upd_ne (ne_of g ea (by intro y; cases y)), upd_ne (ne_of_none g nd0)]; exact g
  · exact ⟨#[], by rw [upd_ne (ne_of g ea (by intro y; cases y)), upd_ne (ne_of_none g nd0), g]; simp⟩
  · by_cases yy : b = a
    · subst yy
      rw [upd_same] at g; cases g
      exact exO_ok gx hfr
    · rw [upd_ne yy] at g
      by_cases y2 : b = s2.heap.objs.size
      · subst y2
        rw [upd_same] at g; cases g
        refine xdO_ok nd (fun j => ?_) fun j hj => ?_
        · show RelO ([(f, y)].lookup j) _
          by_cases e : j = f
          · have hb : (j == f) = true := beq_iff_eq.mpr e
            rw [if_pos e]
            simp only [List.lookup, hb]
            assumption
          · have hb : (j == f) = false := beq_eq_false_iff_ne.mpr e
            rw [if_neg e]
            simp only [List.lookup, hb]
            exact True.intro
        · by_cases e : j = f
          · rw [e]; exact List.mem_cons_self
          · rw [if_neg e] at hj; exact absurd rfl hj
      · rw [upd_ne y2] at g
        refine (I2.hok b w g).stay (fun c' v hc gg => kp c' v ?_ gg) (fun c' z => ?_) fun c' xs z => ?_
        · rcases hc with z | z
          · rw [z]; exact yy
          · exact ne_of z ea (by intro y; cases y)
        · rw [upd_ne (ne_of z ea (by intro y; cases y)), upd_ne (ne_of_none z nd0)]; exact z
        · rw [upd_ne (ne_of z ea (by intro y; cases y)), upd_ne (ne_of_none z nd0)]; exact z
private theorem ps_xf2 (ha : PE X o ta) (hv : PE X value tv) (hs : swapsWith value (some (.Attribute o f pos')) pos.line X.env = pure false) : PS X (.Assign [.Attribute o f pos'] value pos) (sXF2 X.K ta tv f) := by
  intro pins s σ H D I h
  refine plainObj_wpAny_Assign_Attribute (thn (hv pins s σ H _ I h) fun u s1 ⟨y, H1, I1, ry, q⟩ => thn (ha pins s1 σ H1 _ I1 q) fun ov s2 ⟨x, H2, I2, rx, a, C, fr, d, l, ex, ea, ed, da, c, n, ll, q2⟩ => ?_) hs
  subst ex
  obtain rfl : ov = Value.ref a := rx
  obtain ⟨vs, sl, ge, hfr⟩ := exO_get I2.hok ea
  obtain ⟨mA, ns, rl, wi⟩ := xdO_get I2.hok ed
  have hz : (l.map (·.1)).length ≤ sizeLine := by rw [List.length_map, sizeLine_eq]; omega
  refine x_set2 I2.kIn ge ns c.ov c.sa n wi hz fun h' tk nd sb => ?_
  have hd : ∃ o, h'.get? d = some o := let ⟨o, _, _, e', _⟩ := nd; ⟨o, e'⟩
  refine ⟨σ, _, I2.write (x := d) (e := d) (t' := tk) (by rw [ed]; exact True.intro) (.inl rfl) (fun b w hb z => (sb.2 b hb).trans z) hd (xdO_ok nd (fun g => ?_) fun g hg => ?_), q2⟩
  · rw [lookup_putF]
    by_cases z : g = f
    · rw [if_pos z, if_pos z]; exact ry
    · rw [if_neg z, if_neg z]; exact rl g
  · by_cases z : g = f
    · rw [z]; exact (keys_putF f y l).1
    · refine (keys_putF f y l).2 g (wi g fun w => hg ?_)
      show (if g = f then some u else mA g) = none
      rw [if_neg z]; exact w
end

def tCallS (sp : Sp) (E : St → XK) (t : TA) : TE := fun σ H Q => t σ H fun vs H1 => sp vs H1 Q (E σ)
def tMethS (C : Addr) (m : Str) (sp : Sp) (E : St → XK) (ta : TE) (t : TA) : TE := fun σ H Q => ta σ H fun x H1 => ∃ a dx fs, x = .ref a ∧ H1 a = some (.ins C dx fs) ∧ fs.lookup m = none ∧ t σ H1 fun vs H2 => sp (x :: vs) H2 Q (E σ)
section
variable {X : Cx} {CX : CXT} {k : Nat} {f C : Addr} {fd : FuncData} {ps : List Str} {sp : Sp} {E : St → XK} {x m : Str} {p pos apos : Pos} {e o : Expr} {es : List Expr} {ta : TE} {t : TA}
private theorem run_fnS {pins : List (Addr × Obj)} {σ : St} {H : Hp} {s : Shared} {Q : VK} {us : List Value} {vs : List V} (F : FnOk X.prog X.w X.K X.mg X.base CX k f fd ps sp) (hr : Room k X.A) (hb : Binds X.K fd ps []) (hx : PassesS CX X E)
    (I : Inv X pins σ H s) (r : Vals vs us) (h : sp vs H Q (E σ)) : wpAny (model X.prog X.w) X.A (call (.ref f) us) (EP X pins σ Q) X.xe s := by
  have hl : (us ++ []).length = ps.length := by rw [List.append_nil, ← r.length]; exact F.len _ _ _ _ h
  have hbb := hb s us I.kIn hl
  rw [List.append_nil] at hbb
  refine wpAny_call (codeAny_mono (F.run X.A X.stack s H ⟨us, []⟩ us vs Q (E σ) hr I.env0 hbb r h) fun r s' hq => ?_)
  cases r with
  | error e => exact hx pins σ H s e s' I hq
  | ok fl =>
    cases fl with
    | ret u => exact I.after hq
    | next => exact False.elim hq
    | brk => exact False.elim hq
    | cont => exact False.elim hq
private theorem pe_methS {pl : Sem Bool} (he : PE X o ta) (c : Cls X.K C) (hm : Meth X.K C m f) (F : FnOk X.prog X.w X.K X.mg X.base CX k f fd ps sp) (hr : Room k X.A) (hb : Binds X.K fd ps []) (hx : PassesS CX X E) (ha : PA X (e :: es) t)
    (hst : starEach (e :: es) X.env = (false, eval e X.env) :: starEach es X.env := by rfl) (hpl : (backTo pos (starEach es X.env)).any (·.1) = false := by rfl)
    (ht : eval (.Call (.Attribute o m apos) (e :: es) [] pos) X.env = (do
      let ov ← eval o X.env
      standAt apos.atName
      let (f, first) ← holding [ov] (getMethod ov m pl)
      callWith pos f first (backTo pos (starEach (e :: es) X.env)) (backToKw pos (keywordEach [] X.env))) := by rfl) :
    PE X (.Call (.Attribute o m apos) (e :: es) [] pos) (tMethS C m sp E ta t) := by
  intro pins s σ H Q I h
  refine PySem.W.methodCall_KW (pl := pl) (thn (he pins s σ H _ I h) fun u s1 ⟨x, H1, I1, rx, a, dx, fs, ex, ea, l, q⟩ => ?_) ht
  subst ex
  obtain rfl : u = Value.ref a := rx
  refine getmeth_ok I1 ea c hm l ?_
  refine PySem.W.callWith_K (first := [.ref a]) (h₀ := X.base) I.ok.mod.kin hm.kp (thn (ha pos pins s1 σ H1 _ I1 q) fun us s2 ⟨vs, H2, I2, r, q2⟩ => ⟨I2.kIn, ?_⟩) hst hpl
  exact run_fnS (us := .ref a :: us) (vs := .ref a :: vs) F hr hb hx I2 (.cons rfl r) q2
end

private theorem Fun.okX {P : Program} {w : World} {K : PySem.W.Frag} {mg : Str → Option Value} {base : Heap} {x qual : Str} {st : Stmt} {f : Addr} {fd : FuncData} {N ps : List Str} {k : Nat} {sp : Sp} (F : Fun K x qual st f fd) (S : FnScope N ps (defScope st)) (len : ∀ vs H Q E, sp vs H Q E → vs.length = ps.length)
    (hbody : ∀ (cdv : Value) (A : Around) (outer : List Env) (s : Shared) (H : Hp) (vs : List V) (Q : VK) (E : XK), Room k (A.deeper (envOfC qual (defScope st) s.heap.objs.size f cdv)) → sp vs H Q E →
      ∃ t, PSs (cxOf (CX1 P w) P w K mg base N qual (defScope st) f cdv A outer s H E) (defBody st) t ∧ t { nx := fun _ H' => Q .non H', rt := Q } (start N vs) H) : FnOk P w K mg base (CX1 P w) (k + 1) f fd ps sp := by
  obtain ⟨oc, od, kV, doc, pm, an, cdv, ct, osl, rfl, lk, hcd⟩ := F.ex
  exact fn_of lk hcd S len fun A outer s H vs Q E hr hsp => hbody cdv A outer s H vs Q E hr hsp

abbrev Cx.tried (X : Cx) (xe : Value → Shared → Prop) (pn : List (Addr × Obj)) : Cx := { X with xe := xe, pn := pn }
abbrev Cx.suite (X : Cx) (e : Addr) : Cx := { X with A := X.A.mark (some (.ref e)), calm := false, xe := fun _ _ => False }
section
variable {X : Cx} {pins pins' : List (Addr × Obj)} {σ : St} {H : Hp} {s : Shared} {xe : Value → Shared → Prop}
private theorem Inv.tried (I : Inv X pins σ H s) (xe : Value → Shared → Prop) : Inv (X.tried xe (X.pn ++ pins)) [] σ H s :=
  ⟨⟨I.ok.mod, I.ok.kind, I.ok.glob, I.ok.blt, I.ok.above, I.ok.inj, I.ok.has, I.ok.cab, I.ok.hd, I.ok.frames, I.ok.stk, I.ok.exf, I.ok.bs, I.ok.bsz, I.ok.noex, I.ok.exfs, I.ok.funs, I.ok.frf⟩,
    I.os, I.bare, I.base, I.loc, I.cell, I.free, I.freeC, fun p hp => I.pin p (by simpa using hp), I.hok, I.len⟩
private theorem Inv.untried (I : Inv (X.tried xe (X.pn ++ pins)) pins' σ H s) : Inv X pins σ H s :=
  ⟨⟨I.ok.mod, I.ok.kind, I.ok.glob, I.ok.blt, I.ok.above, I.ok.inj, I.ok.has, I.ok.cab, I.ok.hd, I.ok.frames, I.ok.stk, I.ok.exf, I.ok.bs, I.ok.bsz, I.ok.noex, I.ok.exfs, I.ok.funs, I.ok.frf⟩,
    I.os, I.bare, I.base, I.loc, I.cell, I.free, I.freeC, fun p hp => I.pin p (List.mem_append_left _ hp), I.hok, I.len⟩
private theorem Inv.suite (I : Inv X pins σ H s) (e : Addr) : Inv (X.suite e) pins σ H s :=
  ⟨⟨I.ok.mod, I.ok.kind, I.ok.glob, I.ok.blt, I.ok.above, I.ok.inj, I.ok.has, I.ok.cab, (fun z => nomatch z), I.ok.frames, I.ok.stk, I.ok.exf, I.ok.bs, I.ok.bsz, I.ok.noex, I.ok.exfs, I.ok.funs, I.ok.frf⟩,
    I.os, I.bare, I.base, I.loc, I.cell, I.free, I.freeC, I.pin, I.hok, I.len⟩
private theorem Inv.unsuite {e : Addr} (ok : X.Ok) (I : Inv (X.suite e) pins σ H s) : Inv X pins σ H s :=
  ⟨ok, I.os, I.bare, I.base, I.loc, I.cell, I.free, I.freeC, I.pin, I.hok, I.len⟩

private theorem unbind_ok {M : Model} {A : Around} {E : Value → Shared → Prop} {i : Nat} {n : Str} {pos : Pos} {Q : Unit → Shared → Prop} (I : Inv X pins σ H s) (hN : X.N.Nodup) (hi : X.N[i]? = some n) (hk : X.env.scope.names.lookup n = some .local)
    (h : ∀ s', Inv X pins (σ.set i none) H s' → Q () s') : wpAny M A (do bindName X.env n .none; unbindBehindTheSuite X.env n pos) Q E s := by
  obtain ⟨m, hn, hl⟩ := id I.loc
  have cl : (X.env.scope.kind == .class || (X.env.scope.kind == .module && X.env.locals != X.env.globals)) = false := by rw [I.ok.kind]; rfl
  refine wpAny_nameGoes_keeps hk hn cl fun h' v hn' sb => ?_
  obtain ⟨oL, _, _, gL, _⟩ := id hn
  have ol : ∀ b ob, X.s₀.heap.get? b = some ob → b ≠ X.env.locals := fun b ob g => Nat.ne_of_lt (Nat.lt_of_lt_of_le (Heap.lt_size g) I.ok.above)
  refine h _ ⟨I.ok, I.os, I.bare, ⟨fun b ob g z hb hx => (sb.2 b (ol b ob g)).trans (I.base.keep b ob g z hb hx), fun b ob g z hb hx => ?_, I.base.free, fun b ob g hx => ?_, I.base.tups, I.base.frzs, I.base.tbls⟩,
    ⟨_, hn', fun j y v' e1 e2 e3 => ?_⟩, fun y c e => ?_, I.free, I.freeC, fun p hp => ?_, fun b w g => ?_, by simpa using I.len⟩
  · obtain ⟨sl, g1⟩ := I.base.slot b ob g z hb hx
    exact ⟨sl, (sb.2 b (ol b ob g)).trans g1⟩
  · obtain ⟨o', g1⟩ := I.base.there b ob g hx
    exact ⟨o', (sb.2 b (ol b ob g)).trans g1⟩
  · have hj : j ≠ i := fun z => by
      subst z
      have : j < σ.length := by rw [I.len]; exact (List.getElem?_eq_some_iff.mp hi).1
      rw [List.getElem?_set_self this] at e2
      cases e2
    rw [List.getElem?_set_ne (Ne.symm hj)] at e2
    obtain ⟨u', r', q⟩ := hl j y v' e1 e2 e3
    refine ⟨u', r', ?_⟩
    rcases q with ⟨k, e⟩ | ⟨k, c, e, z⟩
    · refine .inl ⟨k, ?_⟩
      have : y ≠ n := fun z => hj (nodup_ix hN e1 (z ▸ hi))
      show (if y = n then v else m y) = some u'
      rw [if_neg this]; exact e
    · exact .inr ⟨k, c, e, z.sameBut sb (I.cne y c e)⟩
  · obtain ⟨w', z⟩ := I.cell y c e
    exact ⟨w', z.sameBut sb (I.cne y c e)⟩
  · obtain ⟨g, z, ne, nf, d⟩ := I.pin p hp
    exact ⟨(sb.2 p.1 ne).trans g, z, ne, nf, d⟩
  · refine (I.hok b w g).stay (fun c v2 hc q => (sb.2 c fun z => ?_).trans q) (fun _ q => q) fun _ _ q => q
    subst z
    rcases hc with y | y
    · rw [← y, I.free] at g; cases g
    · rw [I.free] at y; cases y
end

def Ends.less (D : Ends) (i : Nat) : Ends := { nx := fun σ H => D.nx (σ.set i none) H, rt := D.rt, bk := fun σ H => D.bk (σ.set i none) H, ct := fun σ H => D.ct (σ.set i none) H }
def catchAs (K : PySem.W.Frag) (cv : Value) (i : Nat) (ts : TS) (D : Ends) : St → XK := fun σ cls od H' => ∃ C, cls = .ref C ∧ PySem.W.exmOne K (.ref C) cv = some true ∧
  ∀ e, H' e = none → ts (D.less i) (σ.set i (some (.ref e))) (upd H' e (exO e C od false))
def catch0 (K : PySem.W.Frag) (cv : Value) (ts : TS) (D : Ends) : St → XK := fun σ cls od H' => ∃ C, cls = .ref C ∧ PySem.W.exmOne K (.ref C) cv = some true ∧
  ∀ e, H' e = none → ts D σ (upd H' e (exO e C od false))
def tTryAs (K : PySem.W.Frag) (cv : Value) (i : Nat) (tb : (St → XK) → TS) (ts : TS) : TS := fun D σ H => tb (catchAs K cv i ts D) D σ H
def tTry0 (K : PySem.W.Frag) (cv : Value) (tb : (St → XK) → TS) (ts : TS) : TS := fun D σ H => tb (catch0 K cv ts D) D σ H

private theorem _root_.Px.Chg2.mono {fs : List Addr} {own own' : Addr → Prop} {h h' : Heap} (c : Chg2 fs own h h') (k : ∀ b, own b → own' b) : Chg2 fs own' h h' :=
  ⟨c.size, fun b o q a n => c.keep b o q a fun z => n (k b z), fun b o q a n => c.slot b o q a fun z => n (k b z)⟩

section
variable {X : Cx} {x n : Str} {i : Nat} {cv : Value} {body suite : List Stmt} {b₀ : Stmt} {np hpos pos : Pos} {tb : (St → XK) → TS} {ts : TS}
private theorem Inv.caught {pins : List (Addr × Obj)} {σ : St} {H H' : Hp} {s s2 : Shared} {h4 : Heap} {ea C T T' : Addr} {od : Option Addr} (J0 : Inv X pins σ H s) (os : s2.os = s.os) (bare : AllBare s2.gens) (un : Un (frs X.stack) [] H H' s.heap s2.heap) (hok : HOk X.prog X.w H' s2.heap)
    (old : s.heap.get? ea = none ∨ H ea ≠ none) (nT : s.heap.get? T = none) (u1 : H' ea = none) (u2 : H' T = none) (z : s2.heap.objs.size ≤ T') (c : Chg2 (frs X.stack) (fun b => b = ea ∨ b = T ∨ b = T') s2.heap h4) (tb : Tb h4 ea (.ref C) od T' .none) :
    Inv X pins σ (upd H' ea (exO ea C od false)) { s2 with heap := h4 } := by
  obtain ⟨oe, vs, oT, tz, ge, e1, e2, e3, _⟩ := tb
  have ge' : h4.get? ea = some ⟨.ref C, od, .fields vs, oe.slots⟩ := by
    obtain ⟨c0, d0, dt, sl⟩ := oe
    dsimp only at e1 e2 e3
    subst e1; subst e2; subst e3
    exact ge
  have nT2 : s2.heap.get? T' = none := Heap.get?_none_of_le z
  have fr2 : ∀ b ∈ frs X.stack, H' b = none := fun b hb => by
    have J := J0.call' os un hok bare (fun b z => nomatch z)
    exact J.stkFree b hb
  have u3 : H' T' = none := hok.fresh z
  have U : Un (frs X.stack) [] H H' s.heap h4 := un.chg c (fun b ob _ y => y) fun b y => by
    rcases y with y | y | y
    · subst y
      rcases old with y | y
      · exact .inl y
      · exact .inr ⟨y, ⟨_, ge⟩⟩
    · subst y; exact .inl nT
    · subst y; exact .inl (none_back un (by intro z; cases z) nT2)
  have O : HOk X.prog X.w H' h4 := hok.chg c (fun b y => by
    rcases y with y | y | y
    · rw [y]; exact u1
    · rw [y]; exact u2
    · rw [y]; exact u3) fr2
  refine J0.call' (s' := { s2 with heap := h4 }) os (U.track u1 fun ob q => .inr ?_) (O.track u1 (exO_ok ge' fun z => by cases z)) bare (fun b z => nomatch z)
  rcases old with y | y
  · rw [y] at q; cases q
  · exact y
private theorem ps_tryAs (hst : X.stack = X.env :: X.outer) (hfm : X.env.frame = some X.env.locals) (hN : X.N.Nodup) (hi : X.N[i]? = some n) (hlo : X.env.scope.names.lookup n = some .local) (hg : Gl X x) (hm : X.mg x = some cv)
    (hb : ∀ xe pn E, PassesS (CX1 X.prog X.w) (X.tried xe pn) E → PSs (X.tried xe pn) body (tb E)) (hs : ∀ e, PSs (X.suite e) (b₀ :: suite) ts) (hdb : (x == ("__debug__" : Str)) = false := by decide) :
    PS X (.Try body [.ExceptHandler (some (.Name x np)) (some n) (b₀ :: suite) hpos] [] [] pos) (tTryAs X.K cv i tb ts) := by
  intro pins s σ H D I h
  have key : PassesS (CX1 X.prog X.w) (X.tried (fun e s₁ => wpAny (model X.prog X.w) X.A (noteFrame e X.env) (fun _ s₂ => wpAny (model X.prog X.w) X.A (setFlight e none) (fun _ s₃ =>
      wpAny (model X.prog X.w) X.A (handleBy e X.env [.ExceptHandler (some (.Name x np)) (some n) (b₀ :: suite) hpos]) (SP X pins D) X.xe s₃) X.xe s₂) X.xe s₁) (X.pn ++ pins)) (catchAs X.K cv i ts D) := by
    intro pins' σ' H1 s1 e s2 I1 hc
    obtain ⟨ea, cls, od, H', T, rfl, os, bare, un, hok, tb', old, nT, u1, u2, C, rfl, em, q⟩ := hc
    have J0 : Inv X pins σ' H1 s1 := I1.untried
    have J := J0.call' os un hok bare (fun b z => nomatch z)
    show wpAny _ _ (noteFrame (.ref ea) X.env) _ _ s2
    refine look2 (base := X.base) (by rw [← hst]; exact J.ok.frames) (by rw [← hst]; exact J.stack) hfm tb' fun h3 T' z t3 c3 => ?_
    rw [show (X.env :: X.outer).filterMap (·.frame) = frs X.stack from by rw [hst]; rfl] at c3
    have c3' : Chg2 (frs X.stack) (fun b => b = ea ∨ b = T ∨ b = T') s2.heap h3 := c3.mono fun b y => y.elim .inl fun y => .inr (.inl y)
    have J3 := J0.caught os bare un hok old nT u1 u2 z c3' t3
    have LT : PySem.W.Looks (model X.prog X.w) h3 (typeOf (.ref ea)) (.ref C) := by
      obtain ⟨vs, sl, ge, _⟩ := exO_get J3.hok upd_same
      exact (PySem.W.Looks.ld ge).andThen .now
    refine wpAny_handleBy_cons (codeAny_handlers_test (ld_glob (X := X.suite ea) (J3.suite ea) hg hm ?_ hdb)) (by intro y; cases y)
    refine (PySem.W.exm_one J3.kIn LT em).here (s := { s2 with heap := h3 }) ?_
    refine codeAny_handlers_suite_as ?_
    refine flight (s := { s2 with heap := h3 }) (fs := frs X.stack) t3 fun h4 t4 c4 k4 => ?_
    have J4 := J0.caught os bare un hok old nT u1 u2 z (c3'.trans (c4.two (own := fun b => b = ea ∨ b = T ∨ b = T') (.inl rfl) (.inl (.inr (.inr rfl))))) t4
    refine store_ok (X := X) J4 hN hi (.inl hlo) (show RelV (.ref ea) (Value.ref ea) from rfl) (fun s5 J5 => ?_) (.inr hlo)
    refine wpAny_mono (hs ea pins s5 _ _ (D.less i) (J5.suite ea) (q ea u1)) (fun f s6 q6 => ?_) fun _ _ y => y.elim
    show wpAny _ _ _ _ _ _
    cases f with
    | next =>
      obtain ⟨σ6, H6, J6, y⟩ := q6
      exact unbind_ok (J6.unsuite J0.ok) hN hi hlo fun s7 J7 => ⟨_, _, J7, y⟩
    | brk =>
      obtain ⟨σ6, H6, J6, y⟩ := q6
      exact unbind_ok (J6.unsuite J0.ok) hN hi hlo fun s7 J7 => ⟨_, _, J7, y⟩
    | cont =>
      obtain ⟨σ6, H6, J6, y⟩ := q6
      exact unbind_ok (J6.unsuite J0.ok) hN hi hlo fun s7 J7 => ⟨_, _, J7, y⟩
    | ret u =>
      obtain ⟨v6, σ6, H6, J6, rv, y⟩ := q6
      exact unbind_ok (J6.unsuite J0.ok) hN hi hlo fun s7 J7 => ⟨_, _, _, J7, rv, y⟩
  refine wpAny_Try_except (wpAny_mono (hb _ (X.pn ++ pins) _ key [] s σ H D (I.tried _) h) (fun f s₁ q => ?_) fun _ _ y => y)
  cases f with
  | next => obtain ⟨σ', H', I', y⟩ := q; exact wpAny_execs_nil ⟨σ', H', I'.untried, y⟩
  | brk => obtain ⟨σ', H', I', y⟩ := q; exact ⟨σ', H', I'.untried, y⟩
  | cont => obtain ⟨σ', H', I', y⟩ := q; exact ⟨σ', H', I'.untried, y⟩
  | ret u => obtain ⟨v, σ', H', I', rv, y⟩ := q; exact ⟨v, σ', H', I'.untried, rv, y⟩
end
end L2
set_option Elab.async false
set_option linter.all false
set_option maxRecDepth 100000
namespace L2
open PySem PySem.Spec PyProof.Rows Px
structure FnX (P : Program) (w : World) (K : PySem.W.Frag) (mg : Str → Option Value) (base : Heap) (x : Str) (k : Nat) (ps : List Str) (sp : Sp) : Prop where
  ex : ∃ f fd, FnOk P w K mg base (CX1 P w) k f fd ps sp ∧ Binds K fd ps [] ∧ PySem.W.keepIn K (.ref f) = true ∧ mg x = some (.ref f)
structure Mdf (K : PySem.W.Frag) (C : Addr) (m qual : Str) (st : Stmt) (ps : List Str) : Prop where
  ex : ∃ f fd, Fun K m qual st f fd ∧ Binds K fd ps [] ∧ Meth K C m f
structure Mt (P : Program) (w : World) (K : PySem.W.Frag) (mg : Str → Option Value) (base : Heap) (CX : CXT) (C : Addr) (m : Str) (k : Nat) (ps : List Str) (sp : Sp) : Prop where
  ex : ∃ f fd, FnOk P w K mg base CX k f fd ps sp ∧ Binds K fd ps [] ∧ Meth K C m f
structure Mkd (K : PySem.W.Frag) (mg : Str → Option Value) (x : Str) (C : Addr) (qual : Str) (st : Stmt) (ps : List Str) : Prop where
  ex : ∃ f fd, Fun K "__init__" qual st f fd ∧ Binds K fd ps [] ∧ Mk K C f ∧ mg x = some (.ref C)
structure Mkr (P : Program) (w : World) (K : PySem.W.Frag) (mg : Str → Option Value) (base : Heap) (x : Str) (C : Addr) (k : Nat) (ps : List Str) (sp : Sp) : Prop where
  ex : ∃ f fd, FnOk P w K mg base CX0 k f fd ps sp ∧ Binds K fd ps [] ∧ Mk K C f ∧ mg x = some (.ref C)
structure XId (K : PySem.W.Frag) (mg : Str → Option Value) (x : Str) (C : Addr) (qual : Str) (st : Stmt) (ps : List Str) : Prop where
  cl : XCls K C
  ex : ∃ f fd, Fun K "__init__" qual st f fd ∧ Binds K fd ps [] ∧ PySem.W.findIn K (.ref C) "__init__" = some (some (.ref f)) ∧ PySem.W.isFn K (.ref f) = true ∧ mg x = some (.ref C)
structure XI (P : Program) (w : World) (K : PySem.W.Frag) (mg : Str → Option Value) (base : Heap) (x : Str) (C : Addr) (k : Nat) (ps : List Str) (sp : Sp) : Prop where
  cl : XCls K C
  ex : ∃ f fd, FnOk P w K mg base CX0 k f fd ps sp ∧ Binds K fd ps [] ∧ PySem.W.findIn K (.ref C) "__init__" = some (some (.ref f)) ∧ PySem.W.isFn K (.ref f) = true ∧ mg x = some (.ref C)
structure XP (K : PySem.W.Frag) (mg : Str → Option Value) (x : Str) (C : Addr) : Prop where
  cl : XCls K C
  ei : PySem.W.excIn K C bmV "ValueError.__new__" = true
  mg : mg x = some (.ref C)
section
variable {P : Program} {w : World} {K : PySem.W.Frag} {mg : Str → Option Value} {base : Heap} {x m qual : Str} {C : Addr} {st : Stmt} {ps N : List Str} {sp sp' : Sp} {k : Nat} {CX : CXT}
private theorem FnX.mono {j : Nat} (F : FnX P w K mg base x j ps sp) (h : j ≤ k) : FnX P w K mg base x k ps sp := by
  obtain ⟨f, fd, a, b⟩ := F.ex
  exact ⟨f, fd, a.mono h, b⟩
private theorem Dfn.okX (D : Dfn K mg x st ps) (S : FnScope N ps (defScope st)) (len : ∀ vs H Q E, sp vs H Q E → vs.length = ps.length)
    (hbody : ∀ (f : Addr) (cdv : Value) (A : Around) (outer : List Env) (s : Shared) (H : Hp) (vs : List V) (Q : VK) (E : XK), Room k (A.deeper (envOfC x (defScope st) s.heap.objs.size f cdv)) → sp vs H Q E →
      ∃ t, PSs (cxOf (CX1 P w) P w K mg base N x (defScope st) f cdv A outer s H E) (defBody st) t ∧ t { nx := fun _ H' => Q .non H', rt := Q } (start N vs) H) : FnX P w K mg base x (k + 1) ps sp := by
  obtain ⟨f, fd, F, b, m⟩ := D.ex
  exact ⟨f, fd, F.okX S len (fun cdv A outer s H vs Q E hr h => hbody f cdv A outer s H vs Q E hr h), b, F.kp, m⟩
private theorem Mdf.ok (D : Mdf K C m qual st ps) (S : FnScope N ps (defScope st)) (len : ∀ vs H Q E, sp vs H Q E → vs.length = ps.length)
    (hbody : ∀ (f : Addr) (cdv : Value) (A : Around) (outer : List Env) (s : Shared) (H : Hp) (vs : List V) (Q : VK) (E : XK), Room k (A.deeper (envOfC qual (defScope st) s.heap.objs.size f cdv)) → sp vs H Q E →
      ∃ t, PSs (cxOf CX0 P w K mg base N qual (defScope st) f cdv A outer s H E).nox (defBody st) t ∧ t { nx := fun _ H' => Q .non H', rt := Q } (start N vs) H) : Mt P w K mg base CX0 C m (k + 1) ps sp := by
  obtain ⟨f, fd, F, b, me⟩ := D.ex
  exact ⟨f, fd, F.ok S len (fun cdv A outer s H vs Q E hr h => hbody f cdv A outer s H vs Q E hr h), b, me⟩
private theorem Mdf.okX (D : Mdf K C m qual st ps) (S : FnScope N ps (defScope st)) (len : ∀ vs H Q E, sp vs H Q E → vs.length = ps.length)
    (hbody : ∀ (f : Addr) (cdv : Value) (A : Around) (outer : List Env) (s : Shared) (H : Hp) (vs : List V) (Q : VK) (E : XK), Room k (A.deeper (envOfC qual (defScope st) s.heap.objs.size f cdv)) → sp vs H Q E →
      ∃ t, PSs (cxOf (CX1 P w) P w K mg base N qual (defScope st) f cdv A outer s H E) (defBody st) t ∧ t { nx := fun _ H' => Q .non H', rt := Q } (start N vs) H) : Mt P w K mg base (CX1 P w) C m (k + 1) ps sp := by
  obtain ⟨f, fd, F, b, me⟩ := D.ex
  exact ⟨f, fd, F.okX S len (fun cdv A outer s H vs Q E hr h => hbody f cdv A outer s H vs Q E hr h), b, me⟩
private theorem Mkd.ok (D : Mkd K mg x C qual st ps) (S : FnScope N ps (defScope st)) (len : ∀ vs H Q E, sp vs H Q E → vs.length = ps.length)
    (hbody : ∀ (f : Addr) (cdv : Value) (A : Around) (outer : List Env) (s : Shared) (H : Hp) (vs : List V) (Q : VK) (E : XK), Room k (A.deeper (envOfC qual (defScope st) s.heap.objs.size f cdv)) → sp vs H Q E →
      ∃ t, PSs (cxOf CX0 P w K mg base N qual (defScope st) f cdv A outer s H E).nox (defBody st) t ∧ t { nx := fun _ H' => Q .non H', rt := Q } (start N vs) H) : Mkr P w K mg base x C (k + 1) ps sp := by
  obtain ⟨f, fd, F, b, mk, mm⟩ := D.ex
  exact ⟨f, fd, F.ok S len (fun cdv A outer s H vs Q E hr h => hbody f cdv A outer s H vs Q E hr h), b, mk, mm⟩
private theorem XId.ok (D : XId K mg x C qual st ps) (S : FnScope N ps (defScope st)) (len : ∀ vs H Q E, sp vs H Q E → vs.length = ps.length)
    (hbody : ∀ (f : Addr) (cdv : Value) (A : Around) (outer : List Env) (s : Shared) (H : Hp) (vs : List V) (Q : VK) (E : XK), Room k (A.deeper (envOfC qual (defScope st) s.heap.objs.size f cdv)) → sp vs H Q E →
      ∃ t, PSs (cxOf CX0 P w K mg base N qual (defScope st) f cdv A outer s H E).nox (defBody st) t ∧ t { nx := fun _ H' => Q .non H', rt := Q } (start N vs) H) : XI P w K mg base x C (k + 1) ps sp := by
  obtain ⟨c, f, fd, F, b, i, n, mm⟩ := D
  exact ⟨c, f, fd, F.ok S len (fun cdv A outer s H vs Q E hr h => hbody f cdv A outer s H vs Q E hr h), b, i, n, mm⟩
end
section
variable {X : Cx} {CX : CXT} {x m : Str} {C : Addr} {ps : List Str} {sp : Sp} {k k' : Nat} {e o : Expr} {es : List Expr} {ta : TE} {t : TA} {p pos apos : Pos} {E : XK} {ES : St → XK}
private theorem pe_mt {pl : Sem Bool} (he : PE X o ta) (c : Cls X.K C) (M : Mt X.prog X.w X.K X.mg X.base CX C m k ps sp) (hr : Room k' X.A) (hle : k ≤ k') (hx : Passes CX X E) (ha : PA X (e :: es) t)
    (hst : starEach (e :: es) X.env = (false, eval e X.env) :: starEach es X.env := by rfl) (hpl : ∀ pos, (backTo pos (starEach es X.env)).any (·.1) = false := by intro _; rfl)
    (ht : eval (.Call (.Attribute o m apos) (e :: es) [] pos) X.env = (do
      let ov ← eval o X.env
      standAt apos.atName
      let (f, first) ← holding [ov] (getMethod ov m pl)
      callWith pos f first (backTo pos (starEach (e :: es) X.env)) (backToKw pos (keywordEach [] X.env))) := by rfl) :
    PE X (.Call (.Attribute o m apos) (e :: es) [] pos) (tMeth C m sp [] E ta t) := by
  obtain ⟨f, fd, a, b, me⟩ := M.ex
  exact pe_meth he c me a (hr.mono hle) b .nil hx ha hst (hpl _) ht
private theorem pe_mtS {pl : Sem Bool} (he : PE X o ta) (c : Cls X.K C) (M : Mt X.prog X.w X.K X.mg X.base CX C m k ps sp) (hr : Room k' X.A) (hle : k ≤ k') (hx : PassesS CX X ES) (ha : PA X (e :: es) t)
    (hst : starEach (e :: es) X.env = (false, eval e X.env) :: starEach es X.env := by rfl) (hpl : ∀ pos, (backTo pos (starEach es X.env)).any (·.1) = false := by intro _; rfl)
    (ht : eval (.Call (.Attribute o m apos) (e :: es) [] pos) X.env = (do
      let ov ← eval o X.env
      standAt apos.atName
      let (f, first) ← holding [ov] (getMethod ov m pl)
      callWith pos f first (backTo pos (starEach (e :: es) X.env)) (backToKw pos (keywordEach [] X.env))) := by rfl) :
    PE X (.Call (.Attribute o m apos) (e :: es) [] pos) (tMethS C m sp ES ta t) := by
  obtain ⟨f, fd, a, b, me⟩ := M.ex
  exact pe_methS he c me a (hr.mono hle) b hx ha hst (hpl _) ht
private theorem pe_mt0 {pl : Sem Bool} (he : PE X o ta) (c : Cls X.K C) (M : Mt X.prog X.w X.K X.mg X.base CX C m k ps sp) (hr : Room k' X.A) (hle : k ≤ k') (hx : Passes CX X E)
    (ht : eval (.Call (.Attribute o m apos) [] [] pos) X.env = (do
      let ov ← eval o X.env
      standAt apos.atName
      let (f, first) ← holding [ov] (getMethod ov m pl)
      callWith pos f first (backTo pos (starEach [] X.env)) (backToKw pos (keywordEach [] X.env))) := by rfl) :
    PE X (.Call (.Attribute o m apos) [] [] pos) (tMeth C m sp [] E ta tNil) := by
  obtain ⟨f, fd, a, b, me⟩ := M.ex
  exact pe_meth0 he c me a (hr.mono hle) b .nil hx ht
private theorem pe_mkr0 (M : Mkr X.prog X.w X.K X.mg X.base x C k ps sp) (hr : Room k' X.A) (hle : k + 1 ≤ k') (hg : Gl X x) (hd : (x == ("__debug__" : Str)) = false := by decide) : PE X (.Call (.Name x p) [] [] pos) (tMake C sp [] E0 tNil) := by
  obtain ⟨f, fd, a, b, mk, mm⟩ := M.ex
  exact pe_make0 mk a (hr.mono hle) hg mm b .nil pass0 hd
private theorem pe_xi (M : XI X.prog X.w X.K X.mg X.base x C k ps sp) (hr : Room k' X.A) (hle : k + 1 ≤ k') (hg : Gl X x) (ha : PA X (e :: es) t) (hd : (x == ("__debug__" : Str)) = false := by decide)
    (he : starEach (e :: es) X.env = (false, eval e X.env) :: starEach es X.env := by rfl) (hpl : ∀ pos, (backTo pos (starEach es X.env)).any (·.1) = false := by intro _; rfl) : PE X (.Call (.Name x p) (e :: es) [] pos) (tExcI C sp t) := by
  obtain ⟨c, f, fd, a, b, i, n, mm⟩ := M
  exact pe_excI c i n a (hr.mono hle) b hg mm ha hd he (hpl _)
private theorem pe_xp (M : XP X.K X.mg x C) (hg : Gl X x) (ha : PA X (e :: es) t) (hd : (x == ("__debug__" : Str)) = false := by decide)
    (he : starEach (e :: es) X.env = (false, eval e X.env) :: starEach es X.env := by rfl) (hpl : ∀ pos, (backTo pos (starEach es X.env)).any (·.1) = false := by intro _; rfl) : PE X (.Call (.Name x p) (e :: es) [] pos) (tExc C t) :=
  pe_exc M.cl M.ei hg M.mg ha hd he (hpl _)
end
end L2
set_option Elab.async false
set_option linter.all false
set_option maxRecDepth 100000
namespace L2
open PySem PySem.Spec PyProof.Rows Px
def clsV : V → Value
  | .ty n => .type n
  | .ref a => .ref a
  | _ => .none
def Clss (ts : List V) : Prop := ∀ v ∈ ts, (∃ n, v = .ty n) ∨ ∃ a, v = .ref a
private theorem clss_vals : ∀ {ts : List V} {us : List Value}, Clss ts → Vals ts us → us = ts.map clsV
  | _, _, _, .nil => rfl
  | t :: ts, u :: us, h, .cons r q => by
    rw [List.map_cons, ← clss_vals (fun v hv => h v (.tail _ hv)) q]
    congr 1
    rcases h t (.head _) with ⟨n, e⟩ | ⟨a, e⟩
    · subst e; exact r
    · subst e; exact r
section
variable {X : Cx} {pins : List (Addr × Obj)} {σ : St} {H : Hp} {s : Shared}
end
section
variable {X : Cx}
def rInstT (K : PySem.W.Frag) : List V → Hp → VK → Prop := fun xs H Q => ∃ x p ts t b, xs = [x, .ref p] ∧ H p = some (.tup ts) ∧ Clss ts ∧ TyOf K H x t ∧ PySem.W.kitAny K t (ts.map clsV) = some b ∧ Q (.bl b) H
end
end L2
set_option Elab.async false
set_option linter.all false
set_option maxRecDepth 100000
namespace L2
open PySem PySem.Spec PyProof.Rows Px
section
variable {K : PySem.W.Frag} {h : Heap} {mg : Str → Option Value} {C f : Addr} {x m qual : Str} {st : Stmt} {ps : List Str} {od an : Option Addr} {sl : Array (Option Value)} {oc kV dc pm cd ct : Value}
private theorem mdf_mk (a : PySem.W.findIn K (.ref C) m = some (some (.ref f))) (fn : PySem.W.isFn K (.ref f) = true) (l : K.lookup f = some ⟨oc, od, .func (PySem.W.fnOf m qual (defArgs st) (defBody st) (defScope st) .none kV dc pm an cd ct), sl⟩) (c : PySem.W.codeIn K cd qual = true) (k : PySem.W.keepIn K (.ref f) = true)
    (b : ∀ (kV doc pm : Value) (an : Option Addr) (cdv ct : Value) (us : List Value), us.length = ps.length → bindArgs (PySem.W.fnOf m qual (defArgs st) (defBody st) (defScope st) .none kV doc pm an cdv ct) ⟨us, []⟩ = pure (ps.zip us)) : Mdf K C m qual st ps :=
  ⟨_, _, fun_mk l c k, (fun_mk l c k).binds b, ⟨a, fn, k⟩⟩
private theorem cls_mk (pg : PySem.W.plainGet K C Str.empty = true) (hd : PySem.W.hasDictIn K C = true) (po : PySem.W.plainOver K C = true) (sa : PySem.W.findIn K (.ref C) "__setattr__" = some (some (.builtin "object.__setattr__"))) : Cls K C := ⟨pg, hd, po, sa⟩
private theorem mkd_mk (X : K.In h) (G : h.Ns mainGlobals mg) (n : PySem.W.nsIn K mainGlobals x = some (some (.ref C))) (mk : PySem.W.makesIn K C = true) (a : PySem.W.findIn K (.ref C) "__init__" = some (some (.ref f))) (fn : PySem.W.isFn K (.ref f) = true)
    (l : K.lookup f = some ⟨oc, od, .func (PySem.W.fnOf "__init__" qual (defArgs st) (defBody st) (defScope st) .none kV dc pm an cd ct), sl⟩) (c : PySem.W.codeIn K cd qual = true) (k : PySem.W.keepIn K (.ref f) = true) (kc : PySem.W.keepIn K (.ref C) = true)
    (b : ∀ (kV doc pm : Value) (an : Option Addr) (cdv ct : Value) (us : List Value), us.length = ps.length → bindArgs (PySem.W.fnOf "__init__" qual (defArgs st) (defBody st) (defScope st) .none kV doc pm an cdv ct) ⟨us, []⟩ = pure (ps.zip us)) : Mkd K mg x C qual st ps :=
  ⟨_, _, fun_mk l c k, (fun_mk l c k).binds b, ⟨mk, a, fn, kc⟩, PySem.W.mg_of X G n⟩
private theorem xcls_mk (q : xIn K C = true) (ov : xOver K C = true) (sa : PySem.W.findIn K (.ref C) "__setattr__" = some (some (.builtin "object.__setattr__"))) (ga : PySem.W.findIn K (.ref C) "__getattribute__" = some (some (.builtin "BaseException.__getattribute__"))) (gn : PySem.W.findIn K (.ref C) "__getattr__" = some none)
    (kp : PySem.W.keepIn K (.ref C) = true) : XCls K C := ⟨q, ov, sa, ga, gn, kp⟩
private theorem xid_mk (X : K.In h) (G : h.Ns mainGlobals mg) (n : PySem.W.nsIn K mainGlobals x = some (some (.ref C))) (cl : XCls K C) (a : PySem.W.findIn K (.ref C) "__init__" = some (some (.ref f))) (fn : PySem.W.isFn K (.ref f) = true)
    (l : K.lookup f = some ⟨oc, od, .func (PySem.W.fnOf "__init__" qual (defArgs st) (defBody st) (defScope st) .none kV dc pm an cd ct), sl⟩) (c : PySem.W.codeIn K cd qual = true) (k : PySem.W.keepIn K (.ref f) = true)
    (b : ∀ (kV doc pm : Value) (an : Option Addr) (cdv ct : Value) (us : List Value), us.length = ps.length → bindArgs (PySem.W.fnOf "__init__" qual (defArgs st) (defBody st) (defScope st) .none kV doc pm an cdv ct) ⟨us, []⟩ = pure (ps.zip us)) : XId K mg x C qual st ps :=
  ⟨cl, _, _, fun_mk l c k, (fun_mk l c k).binds b, a, fn, PySem.W.mg_of X G n⟩
private theorem by_name {R : Addr → Prop} (X : K.In h) (n : PySem.W.nsIn K mainGlobals x = some (some (.ref C))) (r : R C) : ∃ C, R C := ⟨C, r⟩
end
end L2
set_option Elab.async false
set_option linter.all false
set_option maxRecDepth 100000
namespace Px
open PySem PySem.W PySem.Builtin PySem.Builtin.ObjectAttr
private theorem fo_data {K : Frag} {C : Addr} {od : Option Obj} {name : Str} {a g : Value} (hc : (clsIn K C).isSome = true) (ha : findIn K (.ref C) name = some (some a)) (hg : specialIn K a "__get__" = some (some g))
    (ht : takesIn K a = some true) : findObj K C od name = some (.bind g a) := by
  obtain ⟨c, e⟩ := Option.isSome_iff_exists.mp hc
  unfold findObj
  rw [e, Option.bind_some, ha, Option.bind_some]
  simp [hg, ht]
section
variable {prog : Program} {w : World} {A : Around} {E : Value → Shared → Prop} {s : Shared} {K : Frag} {x D : Addr} {ox : Obj} {od : Option Obj}
private theorem xc_class {Q : Option Value → Shared → Prop} (X : K.In s.heap) (I : InstAt s.heap x ox D od) (hp : xOver K D = true)
    (hga : findIn K (.ref D) "__getattribute__" = some (some (.builtin "BaseException.__getattribute__"))) (hgn : findIn K (.ref D) "__getattr__" = some none)
    (ha : findIn K (.ref D) "__class__" = some (some (.builtin "object.__class__"))) (hn : specialIn K (.builtin "object.__class__") "__get__" = some (some (.builtin "getset_descriptor.__get__")))
    (htk : takesIn K (.builtin "object.__class__") = some true) (hm : mroIn K D (.type "object") = some true) (h : Q (some (.ref D)) { s with toks := s.toks + 1 }) : wpAny (model prog w) A (getAttr? (.ref x) "__class__") Q E s := by
  have isB := x_inst (M := model prog w) (T := "BaseException") X I hp (by decide)
  have cd : (clsIn K D).isSome = true := by obtain ⟨c, hc, _⟩ := any_some hp; rw [hc]; rfl
  have hf : findObj K D od "__class__" = some (.bind (.builtin "getset_descriptor.__get__") (.builtin "object.__class__")) := fo_data cd ha hn htk
  obtain ⟨hp', g, d, t, os⟩ := s
  have L0 := I.type (M := model prog w)
  have L1 := looks_findIn (M := model prog w) X hga
  have L2 := looks_findIn (M := model prog w) X hgn
  have L3 := looks_find (M := model prog w) X I hf
  have FB := PySem.F.attrBase_ValueError
  have bi := FB.ga.bind (.ref x)
  have kd : builtinKind "BaseException.__getattribute__" = some .slot := by decide +kernel
  have sp : splitId "BaseException.__getattribute__" = some ("BaseException", "__getattribute__") := by decide +kernel
  unfold getAttr? getAttrBy? getAttrBy
  refine wpAny_bind (wpAny_mkText (wpAny_bind (wpAny_attempt (wpAny_holding (wpAny_bind (L0.at (wpAny_bind (L1.at ?_))))))))
  have nb : (onTheHeap (Value.ref D) && Value.builtin "BaseException.__getattribute__" == Value.builtin "object.__getattribute__") = false := by
    rw [show (Value.builtin "BaseException.__getattribute__" == Value.builtin "object.__getattribute__") = false from by decide +kernel, Bool.and_false]
  dsimp only
  rw [nb, if_neg Bool.false_ne_true]
  unfold getAttrByItsOwn
  refine wpAny_bind ?_
  show wpAny _ _ (typeLookup (.ref D) "__getattr__") _ _ _
  refine L2.at ?_
  unfold callGetattribute
  rw [Bool.false_and, if_neg Bool.false_ne_true]
  unfold boundAndCalled
  refine wpAny_bind (wpAny_attempt (wpAny_holding ?_))
  rw [bi]
  refine wpAny_bind (wpAny_pure ?_)
  refine wpAny_call (codeAny_call_builtin FB.ga.plain PySem.F.entry_bexc_ga (@check_slot (model prog w) _ _ _ "BaseException.__getattribute__" "BaseException" "__getattribute__" (.ref x) [.str "__class__" t] [] _ kd sp isB (PySem.F.args_bexc_ga _ _) ?_))
  unfold Builtin.«object.__getattribute__»
  repeat (any_goals (first | assumption | with_reducible refine wpAny_bind (L0.at ?_) | with_reducible refine wpAny_bind (L3.at ?_) | wp_step))
  refine class_get X I hm ?_
  show wpAny _ _ (ret (.ref D)) _ _ _
  refine wpAny_pure ?_
  show wpAny _ _ (handedOut (.ref D)) _ _ _
  exact wpAny_pure (wpAny_pure h)
private theorem kitx_exc {K : Frag} {x D : Addr} {ox : Obj} {od : Option Obj} (hp : xOver K D = true)
    (hga : findIn K (.ref D) "__getattribute__" = some (some (.builtin "BaseException.__getattribute__"))) (hgn : findIn K (.ref D) "__getattr__" = some none)
    (ha : findIn K (.ref D) "__class__" = some (some (.builtin "object.__class__"))) (hn : specialIn K (.builtin "object.__class__") "__get__" = some (some (.builtin "getset_descriptor.__get__")))
    (htk : takesIn K (.builtin "object.__class__") = some true) (hm : mroIn K D (.type "object") = some true) : KitX K (.ref x) (.ref D) (fun h => InstAt h x ox D od) where
  ty := fun _ _ _ I => I.type
  it := fun _ _ X _ => by
    obtain ⟨c, hc, _⟩ := any_some hp
    unfold clsIn at hc
    split at hc
    · rename_i ho
      intro A' Q' E' s' k q
      unfold isType loadHead
      exact wpAny_bind (wpAny_loadPart (k _ _ (X _ _ ho)) (wpAny_pure q))
    · cases hc
  ne := fun h tp dd its n sl X ht => by
    obtain ⟨c, hc, _⟩ := any_some hp
    refine Bool.eq_false_iff.mpr fun q => ?_
    have e : D = tp := Value.ref.inj (beq_iff_eq.mp q)
    subst e
    unfold clsIn at hc
    split at hc
    · rename_i ho
      have z := (X _ _ ho).symm.trans ht
      cases z
    · cases hc
  ca := fun X I k => xc_class X I hp hga hgn ha hn htk hm k
end
end Px
namespace L2
open PySem PySem.Spec PyProof.Rows Px
structure XKind (K : PySem.W.Frag) (C : Addr) : Prop where
  cl : XCls K C
  ha : PySem.W.findIn K (.ref C) "__class__" = some (some (.builtin "object.__class__"))
  hn : PySem.W.specialIn K (.builtin "object.__class__") "__get__" = some (some (.builtin "getset_descriptor.__get__"))
  ht : PySem.W.takesIn K (.builtin "object.__class__") = some true
  hm : PySem.W.mroIn K C (.type "object") = some true
section
variable {X : Cx} {pins : List (Addr × Obj)} {σ : St} {H : Hp} {s : Shared} {a C : Addr} {od : Option Addr} {fr : Bool}
private theorem exO_kit (I : Inv X pins σ H s) (e : H a = some (exO a C od fr)) (k : XKind X.K C) (hd : ∀ d, od = some d → ∃ l, H d = some (xdO d l)) : ∃ Z : Heap → Prop, PySem.W.KitX X.K (.ref a) (.ref C) Z ∧ Z s.heap := by
  obtain ⟨vs, sl, ge, _⟩ := exO_get I.hok e
  cases od with
  | none => exact ⟨_, kitx_exc (od := none) k.cl.ov k.cl.ga k.cl.gn k.ha k.hn k.ht k.hm, ⟨ge, rfl, rfl, trivial⟩⟩
  | some d =>
    obtain ⟨l, ed⟩ := hd d rfl
    obtain ⟨mA, ns, _, _⟩ := xdO_get I.hok ed
    obtain ⟨ob, hob, _⟩ := lookIn_ns ns
    exact ⟨_, kitx_exc (od := some ob) k.cl.ov k.cl.ga k.cl.gn k.ha k.hn k.ht k.hm, ⟨ge, rfl, rfl, hob⟩⟩
def rInstX (K : PySem.W.Frag) : List V → Hp → VK → Prop := fun xs H Q => ∃ a C od fr y b, xs = [.ref a, y] ∧ H a = some (exO a C od fr) ∧ XKind K C ∧ (∀ d, od = some d → ∃ l, H d = some (xdO d l)) ∧ Q (.bl b) H ∧
  ((∃ c, (y = .ty c ∧ PySem.W.kitOne K (.ref C) (.type c) = some b)) ∨ (∃ c, (y = .ref c ∧ PySem.W.kitOne K (.ref C) (.ref c) = some b)) ∨ ∃ p ts, y = .ref p ∧ H p = some (.tup ts) ∧ Clss ts ∧ PySem.W.kitAny K (.ref C) (ts.map clsV) = some b)
private theorem call_isinstX : CallR X (.builtin "isinstance") (rInstX X.K) := by
  intro pins s σ H xs us Q I r h
  obtain ⟨a, C, od, fr, y, b, rfl, ea, k, hd, q, hy⟩ := h
  obtain ⟨u, w', rfl, ru, rw'⟩ := vals2 r
  cases (show u = Value.ref a from ru)
  obtain ⟨Z, kx, z⟩ := exO_kit I ea k hd
  rcases hy with ⟨c, rfl, e⟩ | ⟨c, rfl, e⟩ | ⟨p, ts, rfl, ep, cl, e⟩
  · cases (show w' = Value.type c from rw')
    exact PySem.W.kia_one kx I.kIn z e (fun y => nomatch y) fun tk => ⟨.bl b, H, I.tok tk, rfl, q⟩
  · cases (show w' = Value.ref c from rw')
    exact PySem.W.kia_one kx I.kIn z e (fun y => nomatch y) fun tk => ⟨.bl b, H, I.tok tk, rfl, q⟩
  · cases (show w' = Value.ref p from rw')
    obtain ⟨_, its, vs, o, h1, h2, n, h3⟩ := (show ObjOk X.prog X.w H s.heap p (.tup ts) from I.hok p _ ep)
    have ei := clss_vals cl vs
    obtain ⟨c0, d0, dt, sl⟩ := o
    dsimp only at h2 h3
    subst h2; subst h3
    exact PySem.W.kia_tup kx I.kIn z h1 (by rw [ei]; exact e) (fun y => nomatch y) fun tk => ⟨.bl b, H, I.tok tk, rfl, q⟩
end
section
variable {X : Cx} {x n : Str} {cv : Value} {body suite : List Stmt} {b₀ : Stmt} {np hpos pos : Pos} {tb : (St → XK) → TS} {ts : TS}
end
end L2
set_option Elab.async false
set_option linter.all false
set_option maxRecDepth 100000
namespace L2
open PySem PySem.Spec PyProof.Rows
section
variable {X : Cx} {x y1 y2 : Str} {scope : Scope} {j1 j2 : Nat} {c1 c2 : Addr}
private theorem CompScope.two (clos : closureFor scope X.env = pure [(y1, c1), (y2, c2)]) (kind : scope.kind = .function) (nc : ∀ y ∈ scope.names, y.2 ≠ .cell) (nm : ∀ y ∈ scope.names, y.2 = .local → scope.names.lookup y.1 = some .local) (tgt : scope.names.lookup x = some .local)
    (n1 : x ≠ y1) (n2 : x ≠ y2) (n12 : y1 ≠ y2) (e1 : X.env.cells.lookup y1 = some c1) (e2 : X.env.cells.lookup y2 = some c2) (only : ∀ q ∈ scope.names, q.2 = .free → q.1 = y1 ∨ q.1 = y2) (h1 : X.N[j1]? = some y1) (h2 : X.N[j2]? = some y2)
    (k1 : X.env.kindOf y1 = some .cell ∨ X.env.kindOf y1 = some .free) (k2 : X.env.kindOf y2 = some .cell ∨ X.env.kindOf y2 = some .free)
    (r1 : (relabel scope X.env).names.lookup y1 = some .cell ∨ (relabel scope X.env).names.lookup y1 = some .free) (r2 : (relabel scope X.env).names.lookup y2 = some .cell ∨ (relabel scope X.env).names.lookup y2 = some .free) :
    CompScope X x [y1, y2] [j1, j2] scope [(y1, c1), (y2, c2)] where
  clos := clos
  kind := kind
  nocell := nc
  names := nm
  tgt := tgt
  nd := by simp [n1, n2, n12]
  sub := fun p hp => by
    rcases List.mem_cons.mp hp with z | z
    · rw [z]; exact e1
    · rw [List.mem_singleton.mp z]; exact e2
  has := fun p hp hk => by
    have key : ∀ q : Str × NameKind, q ∈ scope.names → q.2 = .free → q.1 ∈ [(y1, c1), (y2, c2)].map (·.1) := fun q hq z => by
      rcases only q hq z with z | z <;> simp [z]
    obtain ⟨q, hq, e, h | h⟩ := relabel_mem hp
    · subst h
      rcases hk with hk | hk
      · exact absurd hk (nc _ hq)
      · exact key _ hq hk
    · rw [e]; exact key _ hq h
  fr := fun i z e => by
    match i, e with
    | 0, e => cases e; exact ⟨j1, rfl, h1, k1, r1⟩
    | 1, e => cases e; exact ⟨j2, rfl, h2, k2, r2⟩
    | i + 2, e => simp at e
  len := rfl
end
end L2
set_option Elab.async false
set_option linter.all false
set_option maxRecDepth 100000
set_option maxHeartbeats 4000000
namespace L2
open PySem PySem.Spec PyProof.Rows
section
open PySem.SeqAt
open PySem.AutoSeq1 (wpAny_loadPart')
open PySem.MeetsSeq PySem.MeetsSeq2 PySem.MeetsSeq3
end
section
variable {X : Cx}
def rLtL (K : PySem.W.Frag) : R2 := fun x y H Q => ∃ (a b : Addr) (ns ms : List Int), x = .ref a ∧ y = .ref b ∧ H a = some (.lst (ns.map V.int)) ∧ H b = some (.lst (ms.map V.int)) ∧ Q (.bl (HT.lexLt ns ms)) H
end
end L2
set_option Elab.async false
set_option linter.all false
set_option maxRecDepth 100000
set_option maxHeartbeats 4000000
namespace L2
open PySem PySem.Spec PyProof.Rows
section
open PySem.AutoSeq1 (wpAny_loadPart')
end
section
variable {X : Cx}
def rRepT : R2 := fun x y H Q => ∃ (p : Addr) (k : Int) (v : V), x = .ref p ∧ y = .int k ∧ H p = some (.tup [v]) ∧ 2 ≤ k ∧ k ≤ 1000 ∧ ∀ r, H r = none → Q (.ref r) (upd H r (.tup (List.replicate k.toNat v)))
def rCatAny (K : PySem.W.Frag) : R2 := fun x y H Q => ∃ (a b : Addr) (xs ys : List V), x = .ref a ∧ y = .ref b ∧ H a = some (.tup xs) ∧ H b = some (.tup ys) ∧ xs.length + ys.length ≤ sizeLine ∧
  ∀ (r : Addr) (H' : Hp), Same H H' → H' r = some (.tup (xs ++ ys)) → Q (.ref r) H'
end
end L2
set_option Elab.async false
set_option linter.all false
set_option maxRecDepth 100000
set_option maxHeartbeats 4000000
namespace Pv
open PySem L2
inductive RepL (H : Hp) : List Th → List V → Prop where
  | nil : RepL H [] []
  | cons {t : Th} {v : V} {ts : List Th} {vs : List V} (h : Rep H t v) (r : RepL H ts vs) : RepL H (t :: ts) (v :: vs)
private theorem RepL.len {H : Hp} : ∀ {ts : List Th} {vs : List V}, RepL H ts vs → vs.length = ts.length
  | _, _, .nil => rfl
  | _, _, .cons _ r => by rw [List.length_cons, List.length_cons, r.len]
private theorem RepL.at {H : Hp} : ∀ {ts : List Th} {vs : List V}, RepL H ts vs → ∀ (i : Nat) (x : V) (t : Th), vs[i]? = some x → ts[i]? = some t → Rep H t x
  | _, _, .nil, i, x, t, e, _ => by simp at e
  | _, _, .cons h r, 0, x, t, e1, e2 => by
    simp at e1 e2
    subst e1; subst e2
    exact h
  | _, _, .cons h r, i + 1, x, t, e1, e2 => r.at i x t (by simpa using e1) (by simpa using e2)
private theorem RepL.keep {H H' : Hp} (k : Tups H H') : ∀ {ts : List Th} {vs : List V}, RepL H ts vs → RepL H' ts vs
  | _, _, .nil => .nil
  | _, _, .cons h r => .cons (h.keep k) (r.keep k)
private theorem RepL.new {H : Hp} {ts : List Th} {vs : List V} {p : Addr} (r : RepL H ts vs) (hp : H p = none) : Rep (upd H p (.tup vs)) (.tup ts) (.ref p) :=
  .tup upd_same r.len fun i x t e1 e2 => (r.at i x t e1 e2).keep (Tups.new hp)
private theorem RepL.of {H : Hp} : ∀ {ts : List Th} {vs : List V}, vs.length = ts.length → (∀ (i : Nat) (x : V) (t : Th), vs[i]? = some x → ts[i]? = some t → Rep H t x) → RepL H ts vs
  | [], [], _, _ => .nil
  | t :: ts, v :: vs, l, h => .cons (h 0 v t rfl rfl) (RepL.of (by simpa using l) fun i x u e1 e2 => h (i + 1) x u (by simpa using e1) (by simpa using e2))
  | [], _ :: _, l, _ => by simp at l
  | _ :: _, [], l, _ => by simp at l
private theorem Rep.list {H : Hp} {ts : List Th} {v : V} (r : Rep H (.tup ts) v) : ∃ a xs, v = .ref a ∧ H a = some (.tup xs) ∧ RepL H ts xs := by
  cases r with
  | @tup a xs _ e l h => exact ⟨a, xs, rfl, e, RepL.of l h⟩
private theorem RepL.snoc {H : Hp} {t : Th} {v : V} (h : Rep H t v) : ∀ {ts : List Th} {vs : List V}, RepL H ts vs → RepL H (ts ++ [t]) (vs ++ [v])
  | _, _, .nil => .cons h .nil
  | _, _, .cons h' r => .cons h' (r.snoc h)
private theorem RepL.uniq {H : Hp} : ∀ {ts us : List Th} {vs : List V}, RepL H ts vs → RepL H us vs → ts = us
  | _, _, _, .nil, .nil => rfl
  | _, _, _, .cons a r, .cons b q => by rw [Rep.inj a b, r.uniq q]
open PySem.SeqAt in
private theorem rc_Ls {X : Cx} {pins : List (Addr × Obj)} {σ : L2.St} {H : Hp} {s : Shared} (I : Inv X pins σ H s) {a b : Addr} {xs ys : List V} {ts us : List Th} {A : Around} (e : SqL X.K H a xs) (e' : SqL X.K H b ys) (r : RepL H ts xs) (q : RepL H us ys) (hd : ∀ t ∈ ts, dep t ≤ 50) (hu : A.units + 60 < cLine) :
    RcAt A s (.ref a) (.ref b) (eqL ts us) ∧ RcNeAt A s (.ref a) (.ref b) (!eqL ts us) := by
  obtain ⟨its, r1, T1, _⟩ := I.list e
  obtain ⟨jts, r2, T2, _⟩ := I.list e'
  have n1 := r1.length
  have n2 := r2.length
  have l1 := r.len
  have l2 := q.len
  by_cases hl : ts.length = us.length
  · have key : ∀ j (h1 : j < its.toArray.size) (h2 : j < jts.toArray.size), EqAt A.in1 s its.toArray[j] jts.toArray[j] (eqT (ts[j]?.getD .non) (us[j]?.getD .non)) := fun j h1 h2 => by
      have h1' : j < its.length := by simpa using h1
      have h2' : j < jts.length := by simpa using h2
      obtain ⟨vx, ex, rx⟩ := r1.get (List.getElem?_eq_getElem (show j < xs.length by omega))
      obtain ⟨vy, ey, ry⟩ := r2.get (List.getElem?_eq_getElem (show j < ys.length by omega))
      have g1 : ts[j]? = some ts[j] := List.getElem?_eq_getElem (by omega)
      have g2 : us[j]? = some us[j] := List.getElem?_eq_getElem (by omega)
      have dj := hd ts[j] (List.getElem_mem (by omega))
      rw [g1, g2]
      have z1 : its.toArray[j] = vx := by
        have : its[j]? = some its[j] := List.getElem?_eq_getElem h1'
        rw [this] at ex
        simpa using Option.some.inj ex
      have z2 : jts.toArray[j] = vy := by
        have : jts[j]? = some jts[j] := List.getElem?_eq_getElem h2'
        rw [this] at ey
        simpa using Option.some.inj ey
      rw [z1, z2]
      exact eqAt_T I (r.at j _ _ (List.getElem?_eq_getElem (show j < xs.length by omega)) g1) (q.at j _ _ (List.getElem?_eq_getElem (show j < ys.length by omega)) g2) rx ry (by
        show A.units + 1 + dep ts[j] + 1 < cLine
        omega)
    have hsz : its.toArray.size = jts.toArray.size := by rw [List.size_toArray, List.size_toArray]; omega
    have R := RcAt.lists T1.isList T2.isList hsz (show A.units < cLine by omega) key
    have R' := RcNeAt.lists T1.isList T2.isList hsz (show A.units < cLine by omega) key
    have e3 : (List.range its.toArray.size).all (fun j => eqT (ts[j]?.getD .non) (us[j]?.getD .non)) = eqL ts us := by
      rw [eqL_range, List.size_toArray, show min ts.length us.length = its.length by omega, show (ts.length == us.length) = true by rw [hl]; exact beq_self_eq_true _, Bool.and_true]
    rw [e3] at R R'
    exact ⟨R, R'⟩
  · have hne : eqL ts us = false := by
      cases z : eqL ts us with
      | true => exact absurd (congrArg List.length ((eqL_iff ts us).mp z)) hl
      | false => rfl
    have hsz : (its.toArray.size != jts.toArray.size) = true := by
      rw [List.size_toArray, List.size_toArray, bne_iff_ne]
      omega
    rw [hne]
    exact ⟨RcAt.lists_lengths T1.isList T2.isList hsz (by omega), RcNeAt.lists_lengths T1.isList T2.isList hsz (by omega)⟩
section
variable {X : Cx}
private theorem op_eqLs {k : Nat} (hr : Room k X.A) : OpR X (compareOp .Eq) (fun x y H Q => ∃ a b xs ys ts us, x = .ref a ∧ y = .ref b ∧ SqL X.K H a xs ∧ SqL X.K H b ys ∧ RepL H ts xs ∧ RepL H us ys ∧ (∀ t ∈ ts, dep t ≤ 50) ∧ Q (.bl (eqL ts us)) H) := by
  intro pins s σ H x y v w Q I rx ry h
  obtain ⟨a, b, xs, ys, ts, us, rfl, rfl, e1, e2, r1, r2, hd, q⟩ := h
  cases (show v = Value.ref a from rx)
  cases (show w = Value.ref b from ry)
  have hu := hr.units
  exact (rc_Ls I e1 e2 r1 r2 hd (by omega)).1 _ _ _ _ ⟨.bl _, H, I, rfl, q⟩
private theorem op_neLs {k : Nat} (hr : Room k X.A) : OpR X (compareOp .NotEq) (fun x y H Q => ∃ a b xs ys ts us, x = .ref a ∧ y = .ref b ∧ SqL X.K H a xs ∧ SqL X.K H b ys ∧ RepL H ts xs ∧ RepL H us ys ∧ (∀ t ∈ ts, dep t ≤ 50) ∧ Q (.bl (!eqL ts us)) H) := by
  intro pins s σ H x y v w Q I rx ry h
  obtain ⟨a, b, xs, ys, ts, us, rfl, rfl, e1, e2, r1, r2, hd, q⟩ := h
  cases (show v = Value.ref a from rx)
  cases (show w = Value.ref b from ry)
  have hu := hr.units
  exact (rc_Ls I e1 e2 r1 r2 hd (by omega)).2 _ _ _ _ ⟨.bl _, H, I, rfl, q⟩
def mulS (x : Str) (n : Int) : Str := if n < 1 then Str.empty else if (n == 1 || x.length == 0) = true then x else ⟨(List.replicate n.toNat x.cps).foldl (· ++ ·) #[]⟩
end
end Pv
set_option Elab.async false
set_option linter.all false
set_option maxRecDepth 100000
set_option maxHeartbeats 4000000
namespace Pv
open PySem L2
def lookT (cs : List (Int × Th)) (n : Int) : Option Th := (cs.find? fun p => decide (p.1 = n)).map (·.2)
inductive DRep (H : Hp) : List (Int × Th) → List (Key × V) → Prop where
  | nil : DRep H [] []
  | cons {n : Int} {t : Th} {v : V} {cs : List (Int × Th)} {kvs : List (Key × V)} (h : Rep H t v) (r : DRep H cs kvs) : DRep H ((n, t) :: cs) ((.inl n, v) :: kvs)
private theorem DRep.len {H : Hp} {cs : List (Int × Th)} {kvs : List (Key × V)} (r : DRep H cs kvs) : kvs.length = cs.length := by
  induction r with
  | nil => rfl
  | cons _ _ ih => rw [List.length_cons, List.length_cons, ih]
private theorem DRep.keep {H H' : Hp} (k : Tups H H') {cs : List (Int × Th)} {kvs : List (Key × V)} (r : DRep H cs kvs) : DRep H' cs kvs := by
  induction r with
  | nil => exact .nil
  | cons h _ ih => exact .cons (h.keep k) ih
private theorem DRep.keys {H : Hp} {cs : List (Int × Th)} {kvs : List (Key × V)} (r : DRep H cs kvs) : keysI kvs = cs.map (·.1) ∧ L2.IntKeys kvs := by
  induction r with
  | nil => exact ⟨rfl, rfl⟩
  | @cons n t v cs kvs _ _ ih =>
    have e : keysI ((.inl n, v) :: kvs) = n :: keysI kvs := rfl
    refine ⟨by rw [e, ih.1]; rfl, ?_⟩
    unfold L2.IntKeys
    rw [e, List.map_cons, List.map_cons]
    exact congrArg _ ih.2
private theorem lookT_cons {n m : Int} {t : Th} {cs : List (Int × Th)} : lookT ((n, t) :: cs) m = if n = m then some t else lookT cs m := by
  unfold lookT
  rw [List.find?_cons]
  by_cases e : n = m
  · rw [if_pos e, decide_eq_true e]; rfl
  · rw [if_neg e, decide_eq_false e]
private theorem valV_consI {n m : Int} {v : V} {kvs : List (Key × V)} : valV ((Sum.inl n, v) :: kvs) (Sum.inl m : Key) = if n = m then some v else valV kvs (.inl m) := by
  by_cases e : n = m
  · rw [if_pos e]; exact valV_pos (by rw [e])
  · rw [if_neg e]
    unfold valV
    rw [List.find?_cons]
    rw [decide_eq_false (fun z => e (Sum.inl.inj z))]
private theorem DRep.none {H : Hp} {cs : List (Int × Th)} {kvs : List (Key × V)} (r : DRep H cs kvs) {n : Int} (h : lookT cs n = .none) : valV kvs (.inl n) = .none := by
  induction r with
  | nil => rfl
  | @cons m t v cs kvs _ _ ih =>
    rw [lookT_cons] at h
    rw [valV_consI]
    by_cases e : m = n
    · rw [if_pos e] at h; cases h
    · rw [if_neg e] at h ⊢; exact ih h
private theorem DRep.some {H : Hp} {cs : List (Int × Th)} {kvs : List (Key × V)} (r : DRep H cs kvs) {n : Int} {t : Th} (h : lookT cs n = .some t) : ∃ v, valV kvs (.inl n) = .some v ∧ Rep H t v := by
  induction r with
  | nil => cases h
  | @cons m u v cs kvs hv _ ih =>
    rw [lookT_cons] at h
    rw [valV_consI]
    by_cases e : m = n
    · rw [if_pos e] at h ⊢; cases h; exact ⟨v, rfl, hv⟩
    · rw [if_neg e] at h ⊢; exact ih h
private theorem DRep.back {H : Hp} {cs : List (Int × Th)} {kvs : List (Key × V)} (r : DRep H cs kvs) {n : Int} {v : V} (h : valV kvs (.inl n) = .some v) : ∃ t, lookT cs n = .some t ∧ Rep H t v := by
  cases e : lookT cs n with
  | none => rw [r.none e] at h; cases h
  | some t =>
    obtain ⟨v', e', rv⟩ := r.some e
    rw [h] at e'; cases e'
    exact ⟨t, rfl, rv⟩
private theorem DRep.snoc {H : Hp} {cs : List (Int × Th)} {kvs : List (Key × V)} {n : Int} {t : Th} {v : V} (h : Rep H t v) (r : DRep H cs kvs) : DRep H (cs ++ [(n, t)]) (kvs ++ [(.inl n, v)]) := by
  induction r with
  | nil => exact .cons h .nil
  | cons h' _ ih => exact .cons h' ih
private theorem DRep.put {H : Hp} {cs : List (Int × Th)} {kvs : List (Key × V)} {n : Int} {t : Th} {v : V} (r : DRep H cs kvs) (h : Rep H t v) (hn : lookT cs n = .none) : DRep H (cs ++ [(n, t)]) (putK kvs (.inl n) v) := by
  rw [putK_new v (r.none hn)]
  exact r.snoc h
private theorem DRep.again {H : Hp} {cs : List (Int × Th)} {kvs : List (Key × V)} {n : Int} {t : Th} {v : V} (r : DRep H cs kvs) (h : Rep H t v) (hn : lookT cs n = .some t) (nd : (cs.map (·.1)).Nodup) : DRep H cs (putK kvs (.inl n) v) := by
  have ha : (kvs.any fun kv => decide (kv.1 = (Sum.inl n : Key))) = true := by
    obtain ⟨v', e, _⟩ := r.some hn
    unfold valV at e
    cases z : kvs.find? fun kv => decide (kv.1 = (Sum.inl n : Key)) with
    | none => rw [z] at e; cases e
    | some p => exact List.any_eq_true.mpr ⟨p, List.mem_of_find?_eq_some z, by have := List.find?_some z; exact this⟩
  unfold putK
  rw [if_pos ha]
  clear ha
  induction r with
  | nil => exact .nil
  | @cons m u v' cs kvs h' r' ih =>
    have nd' := List.nodup_cons.mp nd
    rw [List.map_cons]
    by_cases e : m = n
    · subst e
      rw [if_pos rfl]
      rw [lookT_cons, if_pos rfl] at hn
      cases hn
      have rest : kvs.map (fun kv => if kv.1 = (Sum.inl m : Key) then (kv.1, v) else kv) = kvs := by
        have : ∀ kv ∈ kvs, (if kv.1 = (Sum.inl m : Key) then (kv.1, v) else kv) = kv := fun kv hkv => by
          refine if_neg fun z => nd'.1 ?_
          have e1 := r'.keys
          have m1 : (Sum.inl m : Key) ∈ kvs.map (·.1) := by rw [← z]; exact List.mem_map_of_mem hkv
          rw [e1.2, List.mem_map] at m1
          obtain ⟨i, hi, ei⟩ := m1
          cases ei
          rw [← e1.1]; exact hi
        rw [List.map_congr_left this, List.map_id']
      rw [rest]
      exact .cons h r'
    · rw [if_neg (fun z => e (Sum.inl.inj z))]
      rw [lookT_cons, if_neg e] at hn
      exact .cons h' (ih hn nd'.2)
private theorem lookT_mem {cs : List (Int × Th)} {n : Int} {t : Th} (h : lookT cs n = some t) : (n, t) ∈ cs := by
  induction cs with
  | nil => cases h
  | cons p cs ih =>
    obtain ⟨m, u⟩ := p
    rw [lookT_cons] at h
    by_cases e : m = n
    · rw [if_pos e] at h; cases h; subst e; exact List.mem_cons_self
    · rw [if_neg e] at h; exact List.mem_cons_of_mem _ (ih h)
private theorem lookT_key {cs : List (Int × Th)} {n : Int} (h : n ∈ cs.map (·.1)) : ∃ t, lookT cs n = some t := by
  induction cs with
  | nil => cases h
  | cons p cs ih =>
    obtain ⟨m, u⟩ := p
    rw [lookT_cons]
    by_cases e : m = n
    · exact ⟨u, if_pos e⟩
    · rw [if_neg e]
      rw [List.map_cons, List.mem_cons] at h
      exact ih (h.resolve_left fun z => e z.symm)
private theorem lookT_none {cs : List (Int × Th)} {n : Int} (h : lookT cs n = none) : n ∉ cs.map (·.1) := fun z => by
  obtain ⟨t, e⟩ := lookT_key z
  rw [h] at e; cases e
private theorem lookT_snoc {cs : List (Int × Th)} {n m : Int} {t : Th} : lookT (cs ++ [(n, t)]) m = match lookT cs m with | some u => some u | none => if n = m then some t else none := by
  induction cs with
  | nil => rw [List.nil_append, lookT_cons]; rfl
  | cons p cs ih =>
    obtain ⟨k, u⟩ := p
    rw [List.cons_append, lookT_cons, lookT_cons]
    by_cases e : k = m
    · rw [if_pos e, if_pos e]
    · rw [if_neg e, if_neg e, ih]
private theorem rise_uniq : ∀ {l k : List Int}, l.Perm k → l.Pairwise (· ≤ ·) → k.Pairwise (· ≤ ·) → l = k
  | [], k, p, _, _ => p.nil_eq
  | a :: l, k, p, h1, h2 => by
    cases k with
    | nil => exact absurd p.length_eq (by simp)
    | cons b k =>
      have ha : a ∈ b :: k := p.subset List.mem_cons_self
      have hb : b ∈ a :: l := p.symm.subset List.mem_cons_self
      have h1' := List.pairwise_cons.mp h1
      have h2' := List.pairwise_cons.mp h2
      have e : a = b := by
        rcases List.mem_cons.mp ha with z | z
        · exact z
        · rcases List.mem_cons.mp hb with y | y
          · exact y.symm
          · have := h1'.1 b y
            have := h2'.1 a z
            omega
      subst e
      rw [rise_uniq (List.Perm.cons_inv p) h1'.2 h2'.2]
def worths (cs : List (Int × Th)) (ns : List Int) : List Th := ns.map fun n => (lookT cs n).getD .non
end Pv
set_option Elab.async false
set_option linter.all false
set_option maxRecDepth 100000
set_option maxHeartbeats 4000000
namespace L2
open PySem PySem.Spec PyProof.Rows Px
structure ClsM (K : PySem.W.Frag) (mg : Str → Option Value) (x : Str) (V : Addr) (mc : Value) (m : Str) (f : Addr) : Prop where
  mg : mg x = some (.ref V)
  sp : PySem.W.specialIn K (.ref V) "__getattribute__" = some (some (.builtin "type.__getattribute__"))
  rd : PySem.W.readsIn K V mc = true
  fc : PySem.W.findCls K (.ref V) mc m = some (.val (.ref f))
  kp : PySem.W.keepIn K (.ref f) = true
structure Kdf (K : PySem.W.Frag) (mg : Str → Option Value) (x m qual : Str) (st : Stmt) (ps : List Str) : Prop where
  ex : ∃ f fd V mc, Fun K m qual st f fd ∧ Binds K fd ps [] ∧ ClsM K mg x V mc m f
structure Kfn (P : Program) (w : World) (K : PySem.W.Frag) (mg : Str → Option Value) (base : Heap) (x m : Str) (k : Nat) (ps : List Str) (sp : Sp) : Prop where
  ex : ∃ f fd V mc, FnOk P w K mg base CX0 k f fd ps sp ∧ Binds K fd ps [] ∧ ClsM K mg x V mc m f
section
variable {P : Program} {w : World} {K : PySem.W.Frag} {mg : Str → Option Value} {base : Heap} {x m qual : Str} {st : Stmt} {ps N : List Str} {sp : Sp} {k : Nat}
private theorem Kdf.ok (D : Kdf K mg x m qual st ps) (S : FnScope N ps (defScope st)) (len : ∀ vs H Q E, sp vs H Q E → vs.length = ps.length)
    (hbody : ∀ (f : Addr) (cdv : Value) (A : Around) (outer : List Env) (s : Shared) (H : Hp) (vs : List V) (Q : VK) (E : XK), Room k (A.deeper (envOfC qual (defScope st) s.heap.objs.size f cdv)) → sp vs H Q E →
      ∃ t, PSs (cxOf CX0 P w K mg base N qual (defScope st) f cdv A outer s H E).nox (defBody st) t ∧ t { nx := fun _ H' => Q .non H', rt := Q } (start N vs) H) : Kfn P w K mg base x m (k + 1) ps sp := by
  obtain ⟨f, fd, V, mc, F, b, me⟩ := D.ex
  exact ⟨f, fd, V, mc, F.ok S len (fun cdv A outer s H vs Q E hr h => hbody f cdv A outer s H vs Q E hr h), b, me⟩
variable {f V : Addr} {mc : Value} {od an : Option Addr} {sl : Array (Option Value)} {oc kV dc pm cd ct : Value} {h : Heap}
end
section
variable {X : Cx} {x m : Str} {ps : List Str} {sp : Sp} {k k' : Nat} {e : Expr} {es : List Expr} {t : TA} {p pos apos : Pos}
end
end L2
set_option Elab.async false
set_option linter.all false
set_option maxRecDepth 100000
set_option maxHeartbeats 4000000
namespace L2
open PySem PySem.Spec PyProof.Rows
def CompW2 (K : PySem.W.Frag) (J : It) (p : Addr) (tt : TT) (te : TE) (H1 : Hp) (Q : VK) : Prop :=
  ∃ W : Nat → Nat → List V → Hp → Prop, (∃ m, W 0 m [] (upd H1 p (.lst []))) ∧ ∀ i m acc H, W i m acc H →
    (J.stop i H ∧ Q (.ref p) H) ∨ (J.go i H ∧ ∀ x H', J.yld i H x H' → ∃ a y z, x = .ref a ∧ SqT K H' a [y, z] ∧ tt [some y, some z] H' fun ok H2 =>
      if ok = true then te [some y, some z] H2 fun v H3 => H3 p = some (.lst acc) ∧ acc.length < sizeLine ∧ ∃ m', m' < m ∧ W (i + 1) m' (acc ++ [v]) (upd H3 p (.lst (acc ++ [v])))
      else ∃ m', m' < m ∧ W (i + 1) m' acc H2)
def tComp2 (K : PySem.W.Frag) (wi : TI) (tt : TT) (te : TE) : TE := fun σ H Q => wi σ H fun J H1 => ∀ p, H1 p = none → CompW2 K J p tt te H1 Q
section
variable {X : Cx} {x x2 : Str} {scope : Scope} {pins : List (Addr × Obj)} {σ : St} {H : Hp} {s : Shared}
variable {iter elt : Expr} {ifs : List Expr} {px px2 tpos pos : Pos} {kt : Nat} {wi : TI} {tt : TT} {te : TE}

end
end L2
namespace L2
open PySem PySem.Spec PyProof.Rows
private theorem pass01 {X : Cx} : Passes (CX1 X.prog X.w) X E0 := fun _ _ _ _ _ _ _ h => by
  obtain ⟨ea, cls, od, H', T, h⟩ := h
  simp only [E0, and_false] at h
end L2
set_option Elab.async false
set_option linter.all false
set_option maxRecDepth 100000
set_option maxHeartbeats 4000000
namespace Pv
open PySem L2
private theorem szL {n : Nat} (h : n ≤ 100000) : n ≤ sizeLine := Nat.le_trans h (by rw [sizeLine_eq]; decide)
private theorem comp_it {J : It} {n : Nat} {σ : St} {js : List Nat} {tt : TT} {te : TE} {Q : VK} {H1 : Hp} {p : Addr} (Pv : Nat → List V → Hp → Prop) (h0 : Pv 0 [] (upd H1 p (.lst [])))
    (hg : ∀ i acc H, i < n → Pv i acc H → J.go i H) (ht : ∀ acc H, Pv n acc H → J.stop n H)
    (hs : ∀ i acc H x H', i < n → Pv i acc H → J.yld i H x H' → tt (some x :: frees σ js) H' fun ok H2 =>
      if ok = true then te (some x :: frees σ js) H2 fun y H3 => H3 p = some (.lst acc) ∧ acc.length < sizeLine ∧ ∃ m', m' < n - i ∧ (m' = n - (i + 1) ∧ i + 1 ≤ n ∧ Pv (i + 1) (acc ++ [y]) (upd H3 p (.lst (acc ++ [y]))))
      else ∃ m', m' < n - i ∧ (m' = n - (i + 1) ∧ i + 1 ≤ n ∧ Pv (i + 1) acc H2)) (hd : ∀ acc H, Pv n acc H → Q (.ref p) H) :
    CompW J p σ js tt te H1 Q := by
  refine ⟨fun i m acc H => m = n - i ∧ i ≤ n ∧ Pv i acc H, ⟨n, by simp, Nat.zero_le _, h0⟩, ?_⟩
  rintro i m acc H ⟨rfl, hi, p⟩
  by_cases hlt : i < n
  · exact .inr ⟨hg i acc H hlt p, fun x H' y => hs i acc H x H' hlt p y⟩
  · have e : i = n := by omega
    subst e
    exact .inl ⟨ht acc H p, hd acc H p⟩
private theorem nxt {i n : Nat} {C : Prop} (h : i < n) (c : C) : ∃ m', m' < n - i ∧ (m' = n - (i + 1) ∧ i + 1 ≤ n ∧ C) := ⟨_, by omega, rfl, h, c⟩

def numOf (l : List Nat) : Int := l.foldl (fun (n : Int) (c : Nat) => n * 128 + (c : Int)) 0
private theorem numOf_snoc (l : List Nat) (c : Nat) : numOf (l ++ [c]) = numOf l * 128 + c := by
  unfold numOf; rw [List.foldl_append]; rfl
def chunk (x : Str) (k : Nat) : List Nat := (x.cps.toList.drop (7 * k)).take 7
def chunkS (x : Str) (k : Nat) : Str := ⟨(chunk x k).toArray⟩
def many7 (x : Str) : Nat := (x.length + 6) / 7
def sevens (x : Str) : List Int := (List.range (many7 x)).map fun k => numOf (chunk x k)
mutual
def codesT : Th → List Int
  | .non => [1]
  | .int n => [2, (n + 10 ^ 30) / 10 ^ 15, (n + 10 ^ 30) % 10 ^ 15]
  | .str x => [3, (x.length : Int)] ++ sevens x
  | .tup ts => [4, (ts.length : Int)] ++ codesL ts
def codesL : List Th → List Int
  | [] => []
  | t :: r => codesT t ++ codesL r
end
private theorem codesL_snoc : ∀ (ts : List Th) (t : Th), codesL (ts ++ [t]) = codesL ts ++ codesT t
  | [], t => by simp [codesL]
  | u :: r, t => by
    have := codesL_snoc r t
    show codesT u ++ codesL (r ++ [t]) = codesT u ++ codesL r ++ codesT t
    rw [this, List.append_assoc]
private theorem codesL_take {ts : List Th} {i : Nat} {t : Th} (h : ts[i]? = some t) : codesL (ts.take (i + 1)) = codesL (ts.take i) ++ codesT t := by
  rw [List.take_add_one, h]
  exact codesL_snoc _ _
mutual
private theorem codes_len : ∀ t : Th, Wf t → (codesT t).length ≤ 11 * nodes t
  | .non, _ => by show 1 ≤ 11 * 1; omega
  | .int n, _ => by show 3 ≤ 11 * 1; omega
  | .str x, h => by
    have h1 : x.length ≤ 60 := h.1
    show ([3, (x.length : Int)] ++ sevens x).length ≤ 11 * 1
    have h2 : (sevens x).length = many7 x := by unfold sevens; rw [List.length_map, List.length_range]
    rw [List.length_append, h2]
    show 2 + many7 x ≤ 11
    unfold many7
    omega
  | .tup ts, h => by
    have := codesL_len ts h.2
    show ([4, (ts.length : Int)] ++ codesL ts).length ≤ 11 * (1 + nodesL ts)
    rw [List.length_append]
    show 2 + (codesL ts).length ≤ _
    omega
private theorem codesL_len : ∀ ts : List Th, WfL ts → (codesL ts).length ≤ 11 * nodesL ts
  | [], _ => by show 0 ≤ _; omega
  | t :: r, h => by
    have h1 := codes_len t h.1
    have h2 := codesL_len r h.2
    show (codesT t ++ codesL r).length ≤ 11 * (nodes t + nodesL r)
    rw [List.length_append]
    omega
end
private theorem codesL_take_len : ∀ (ts : List Th) (i : Nat), (codesL (ts.take i)).length ≤ (codesL ts).length
  | [], i => by rw [List.take_nil]; exact Nat.le_refl _
  | t :: r, 0 => by show 0 ≤ _; omega
  | t :: r, i + 1 => by
    have := codesL_take_len r i
    show (codesT t ++ codesL (r.take i)).length ≤ (codesT t ++ codesL r).length
    rw [List.length_append, List.length_append]
    omega
private theorem cut_chunk {x : Str} {k : Nat} (h : k < many7 x) : cutS x (some (0 + (k : Int) * 7)) (some (0 + (k : Int) * 7 + 7)) = chunkS x k := by
  unfold many7 at h
  have e1 : (0 + (k : Int) * 7) = ((7 * k : Nat) : Int) := by omega
  have e2 : (0 + (k : Int) * 7 + 7) = ((7 * k + 7 : Nat) : Int) := by omega
  unfold cutS chunkS chunk
  rw [e2, e1, HT.sIx_nat, HT.sIx_nat]
  have hl : x.cps.toList.length = x.length := Array.length_toList
  have a1 : min (7 * k) x.length = 7 * k := by omega
  rw [a1]
  refine congrArg (fun l => (⟨List.toArray l⟩ : Str)) ?_
  by_cases hb : 7 * k + 7 ≤ x.length
  · rw [show min (7 * k + 7) x.length - 7 * k = 7 by omega]
  · rw [List.take_of_length_le (by rw [List.length_drop]; omega), List.take_of_length_le (by rw [List.length_drop]; omega)]
private theorem many7_div {x : Str} : (((x.length : Int) + 7 - 1) / 7).toNat = many7 x := by unfold many7; omega
def foldS (l : List Int) : Int := l.foldl (fun h c => (h * 1234567890123456789 + c) % 2305843009213693951) 7
def sealT (t : Th) : Int := foldS (codesT t) + 1
private theorem foldS_snoc (l : List Int) (c : Int) : foldS (l ++ [c]) = (foldS l * 1234567890123456789 + c) % 2305843009213693951 := by
  unfold foldS; rw [List.foldl_append]; rfl
private theorem foldS_take {l : List Int} {i : Nat} {c : Int} (h : l[i]? = some c) : foldS (l.take (i + 1)) = (foldS (l.take i) * 1234567890123456789 + c) % 2305843009213693951 := by
  rw [List.take_add_one, h]; exact foldS_snoc _ _
private theorem foldS_range (l : List Int) : 0 ≤ foldS l ∧ foldS l < 2305843009213693951 := by
  rcases List.eq_nil_or_concat l with rfl | ⟨r, c, rfl⟩
  · exact ⟨by decide, by decide⟩
  · rw [List.concat_eq_append, foldS_snoc]
    exact ⟨Int.emod_nonneg _ (by decide), Int.emod_lt_of_pos _ (by decide)⟩
end Pv
namespace Pv
private theorem nodesL_get : ∀ {ts : List Th} {i : Nat} {t : Th}, ts[i]? = some t → nodes t ≤ nodesL ts
  | [], _, _, e => by simp at e
  | u :: r, 0, t, e => by simp at e; subst e; exact Nat.le_add_right _ _
  | u :: r, i + 1, t, e => Nat.le_trans (nodesL_get (i := i) (by simpa using e)) (Nat.le_add_left _ _)
end Pv
namespace Pv
open L2
private theorem tt1 {σ : L2.St} {H : Hp} {A B : Hp → Prop} (h : A H) : tNoTest σ H fun ok H2 => if ok = true then A H2 else B H2 := by
  show if true = true then A H else B H
  rw [if_pos rfl]
  exact h
end Pv
set_option Elab.async false
set_option linter.all false
set_option maxRecDepth 100000
set_option maxHeartbeats 4000000
namespace Pv
open PySem L2
def kindT : Th → Int
  | .non => 0
  | .int _ => 1
  | .str _ => 2
  | .tup _ => 3
mutual
def aheadT : Th → Th → Bool
  | .non, .non => false
  | .int a, .int b => decide (a < b)
  | .str a, .str b => decide (a.cps.toList < b.cps.toList)
  | .tup a, .tup b => aheadL a b
  | t, u => decide (kindT t < kindT u)
def aheadL : List Th → List Th → Bool
  | [], [] => false
  | [], _ :: _ => true
  | _ :: _, [] => false
  | t :: r, u :: q => if eqT t u = true then aheadL r q else aheadT t u
end
mutual
def rowT : Th → List Int
  | .non => [0]
  | .int a => [1, a]
  | .str x => [2] ++ x.cps.toList.map (fun (c : Nat) => (c : Int)) ++ [-1]
  | .tup ts => [3] ++ rowL ts ++ [-1]
def rowL : List Th → List Int
  | [] => []
  | t :: r => rowT t ++ rowL r
end
private theorem lex_pre : ∀ (p a b : List Int), HT.lexLt (p ++ a) (p ++ b) = HT.lexLt a b
  | [], _, _ => rfl
  | x :: r, a, b => by
    rw [List.cons_append, List.cons_append, HT.lexLt_cons, if_pos rfl]
    exact lex_pre r a b
private theorem lex_head {x y : Int} (h : x ≠ y) (a b : List Int) : HT.lexLt (x :: a) (y :: b) = decide (x < y) := by rw [HT.lexLt_cons, if_neg h]
private theorem lex_str : ∀ (x y : List Nat) (a b : List Int), x ≠ y → HT.lexLt (x.map (fun (c : Nat) => (c : Int)) ++ -1 :: a) (y.map (fun (c : Nat) => (c : Int)) ++ -1 :: b) = decide (x < y)
  | [], [], _, _, h => absurd rfl h
  | [], d :: y, a, b, _ => by
    show HT.lexLt (-1 :: a) ((d : Int) :: _) = _
    rw [lex_head (by omega), decide_eq_true (by omega)]
    exact (decide_eq_true (List.nil_lt_cons d y)).symm
  | c :: x, [], a, b, _ => by
    show HT.lexLt ((c : Int) :: _) (-1 :: b) = _
    rw [lex_head (by omega), decide_eq_false (by omega)]
    exact (decide_eq_false (List.not_lt_nil _)).symm
  | c :: x, d :: y, a, b, h => by
    show HT.lexLt ((c : Int) :: _) ((d : Int) :: _) = _
    by_cases e : c = d
    · subst e
      rw [HT.lexLt_cons, if_pos rfl]
      have := lex_str x y a b (fun z => h (by rw [z]))
      refine Eq.trans this ?_
      rw [Bool.eq_iff_iff]
      simp [List.cons_lt_cons_iff]
    · rw [lex_head (by omega)]
      rw [Bool.eq_iff_iff]
      simp [List.cons_lt_cons_iff, e]
private theorem row_head (t : Th) : ∃ r, rowT t = kindT t :: r := by
  cases t with
  | non => exact ⟨[], rfl⟩
  | int a => exact ⟨[a], rfl⟩
  | str x => exact ⟨_, rfl⟩
  | tup ts => exact ⟨_, rfl⟩
private theorem kind_nn (t : Th) : 0 ≤ kindT t := by
  cases t with
  | non => exact (by decide : (0 : Int) ≤ 0)
  | int _ => exact (by decide : (0 : Int) ≤ 1)
  | str _ => exact (by decide : (0 : Int) ≤ 2)
  | tup _ => exact (by decide : (0 : Int) ≤ 3)
private theorem str_ne {x y : Str} (h : x ≠ y) : x.cps.toList ≠ y.cps.toList := fun z => h (by
  rcases x with ⟨a⟩
  rcases y with ⟨b⟩
  have : a = b := Array.toList_inj.mp z
  rw [this])
private theorem lex_kind {t u : Th} (h : kindT t ≠ kindT u) (a b : List Int) : HT.lexLt (rowT t ++ a) (rowT u ++ b) = decide (kindT t < kindT u) := by
  obtain ⟨r, e⟩ := row_head t
  obtain ⟨q, e'⟩ := row_head u
  rw [e, e', List.cons_append, List.cons_append]
  exact lex_head h _ _
mutual
private theorem lex_T : ∀ (t u : Th) (a b : List Int), t ≠ u → HT.lexLt (rowT t ++ a) (rowT u ++ b) = aheadT t u
  | .non, .non, _, _, h => absurd rfl h
  | .non, .int _, a, b, _ => lex_kind (t := .non) (u := .int _) (by show (0 : Int) ≠ 1; decide) a b
  | .non, .str _, a, b, _ => lex_kind (t := .non) (u := .str _) (by show (0 : Int) ≠ 2; decide) a b
  | .non, .tup _, a, b, _ => lex_kind (t := .non) (u := .tup _) (by show (0 : Int) ≠ 3; decide) a b
  | .int _, .non, a, b, _ => lex_kind (t := .int _) (u := .non) (by show (1 : Int) ≠ 0; decide) a b
  | .int x, .int y, a, b, h => by
    show HT.lexLt (1 :: x :: a) (1 :: y :: b) = decide (x < y)
    rw [HT.lexLt_cons, if_pos rfl]
    exact lex_head (fun z => h (by rw [z])) _ _
  | .int _, .str _, a, b, _ => lex_kind (t := .int _) (u := .str _) (by show (1 : Int) ≠ 2; decide) a b
  | .int _, .tup _, a, b, _ => lex_kind (t := .int _) (u := .tup _) (by show (1 : Int) ≠ 3; decide) a b
  | .str _, .non, a, b, _ => lex_kind (t := .str _) (u := .non) (by show (2 : Int) ≠ 0; decide) a b
  | .str _, .int _, a, b, _ => lex_kind (t := .str _) (u := .int _) (by show (2 : Int) ≠ 1; decide) a b
  | .str x, .str y, a, b, h => by
    have e : ∀ (z : Str) (w : List Int), rowT (.str z) ++ w = 2 :: (z.cps.toList.map (fun (c : Nat) => (c : Int)) ++ -1 :: w) := fun z w => by
      show ([2] ++ _ ++ [-1]) ++ w = _
      simp
    rw [e, e, HT.lexLt_cons, if_pos rfl]
    exact lex_str _ _ a b (str_ne fun z => h (by rw [z]))
  | .str _, .tup _, a, b, _ => lex_kind (t := .str _) (u := .tup _) (by show (2 : Int) ≠ 3; decide) a b
  | .tup _, .non, a, b, _ => lex_kind (t := .tup _) (u := .non) (by show (3 : Int) ≠ 0; decide) a b
  | .tup _, .int _, a, b, _ => lex_kind (t := .tup _) (u := .int _) (by show (3 : Int) ≠ 1; decide) a b
  | .tup _, .str _, a, b, _ => lex_kind (t := .tup _) (u := .str _) (by show (3 : Int) ≠ 2; decide) a b
  | .tup x, .tup y, a, b, h => by
    have e : ∀ (z : List Th) (w : List Int), rowT (.tup z) ++ w = 3 :: (rowL z ++ -1 :: w) := fun z w => by
      show ([3] ++ _ ++ [-1]) ++ w = _
      simp
    rw [e, e, HT.lexLt_cons, if_pos rfl]
    exact lex_L x y a b (fun z => h (by rw [z]))
private theorem lex_L : ∀ (x y : List Th) (a b : List Int), x ≠ y → HT.lexLt (rowL x ++ -1 :: a) (rowL y ++ -1 :: b) = aheadL x y
  | [], [], _, _, h => absurd rfl h
  | [], u :: q, a, b, _ => by
    obtain ⟨r, e⟩ := row_head u
    have := kind_nn u
    show HT.lexLt (-1 :: a) ((rowT u ++ rowL q) ++ -1 :: b) = true
    rw [e, List.cons_append, List.cons_append, lex_head (by omega), decide_eq_true (by omega)]
  | t :: r, [], a, b, _ => by
    obtain ⟨r', e⟩ := row_head t
    have := kind_nn t
    show HT.lexLt ((rowT t ++ rowL r) ++ -1 :: a) (-1 :: b) = false
    rw [e, List.cons_append, List.cons_append, lex_head (by omega), decide_eq_false (by omega)]
  | t :: r, u :: q, a, b, h => by
    show HT.lexLt ((rowT t ++ rowL r) ++ -1 :: a) ((rowT u ++ rowL q) ++ -1 :: b) = if eqT t u = true then aheadL r q else aheadT t u
    rw [List.append_assoc, List.append_assoc]
    by_cases e : t = u
    · subst e
      rw [lex_pre, if_pos (eqT_refl t)]
      exact lex_L r q a b (fun z => h (by rw [z]))
    · rw [if_neg (fun z => e ((eqT_iff t u).mp z))]
      exact lex_T t u _ _ e
end
private theorem lexLt_irrefl : ∀ l : List Int, HT.lexLt l l = false
  | [] => rfl
  | x :: r => by rw [HT.lexLt_cons, if_pos rfl]; exact lexLt_irrefl r
mutual
private theorem ahead_irrefl : ∀ t : Th, aheadT t t = false
  | .non => rfl
  | .int a => by show decide (a < a) = false; exact decide_eq_false (by omega)
  | .str x => by show decide (x.cps.toList < x.cps.toList) = false; exact decide_eq_false (List.lt_irrefl _)
  | .tup ts => aheadL_irrefl ts
private theorem aheadL_irrefl : ∀ ts : List Th, aheadL ts ts = false
  | [] => rfl
  | t :: r => by
    show (if eqT t t = true then aheadL r r else aheadT t t) = false
    rw [if_pos (eqT_refl t)]
    exact aheadL_irrefl r
end
private theorem row_ahead (t u : Th) : HT.lexLt (rowT t) (rowT u) = aheadT t u := by
  by_cases h : t = u
  · subst h; rw [lexLt_irrefl, ahead_irrefl]
  · have := lex_T t u [] [] h
    rwa [List.append_nil, List.append_nil] at this
end Pv
set_option Elab.async false
set_option linter.all false
set_option maxRecDepth 100000
set_option maxHeartbeats 4000000
namespace Pv
open PySem L2
def Reps (H : Hp) (ts : List Th) (xs : List V) : Prop := xs.length = ts.length ∧ ∀ (i : Nat) (x : V) (t : Th), xs[i]? = some x → ts[i]? = some t → Rep H t x
private theorem Reps.keep {H H' : Hp} {ts : List Th} {xs : List V} (r : Reps H ts xs) (k : Tups H H') : Reps H' ts xs := ⟨r.1, fun i x t h1 h2 => (r.2 i x t h1 h2).keep k⟩
private theorem Reps.snoc {H : Hp} {ts : List Th} {xs : List V} {t : Th} {x : V} (r : Reps H ts xs) (h : Rep H t x) : Reps H (ts ++ [t]) (xs ++ [x]) := by
  refine ⟨by simp [r.1], fun i y u h1 h2 => ?_⟩
  have hl := r.1
  by_cases hi : i < xs.length
  · rw [List.getElem?_append_left hi] at h1
    rw [List.getElem?_append_left (by omega)] at h2
    exact r.2 i y u h1 h2
  · rw [List.getElem?_append_right (by omega)] at h1 h2
    cases e : i - xs.length with
    | zero =>
      rw [e] at h1
      rw [show i - ts.length = 0 by omega] at h2
      cases h1; cases h2; exact h
    | succ k => rw [e] at h1; simp at h1
private theorem Reps.nil {H : Hp} : Reps H [] [] := ⟨rfl, fun i x t h => by simp at h⟩
private theorem Reps.take {H : Hp} {ts : List Th} {xs : List V} (r : Reps H ts xs) (n : Nat) : Reps H (ts.take n) (xs.take n) := by
  refine ⟨by rw [List.length_take, List.length_take, r.1], fun i x t h1 h2 => ?_⟩
  by_cases hi : i < n
  · rw [List.getElem?_take_of_lt hi] at h1 h2
    exact r.2 i x t h1 h2
  · rw [List.getElem?_take_eq_none (by omega)] at h1; cases h1
private theorem Reps.drop {H : Hp} {ts : List Th} {xs : List V} (r : Reps H ts xs) (n : Nat) : Reps H (ts.drop n) (xs.drop n) := by
  refine ⟨by rw [List.length_drop, List.length_drop, r.1], fun i x t h1 h2 => ?_⟩
  rw [List.getElem?_drop] at h1 h2
  exact r.2 _ x t h1 h2
private theorem Reps.app {H : Hp} {ts us : List Th} {xs ys : List V} (r : Reps H ts xs) (q : Reps H us ys) : Reps H (ts ++ us) (xs ++ ys) := by
  refine ⟨by simp [r.1, q.1], fun i x t h1 h2 => ?_⟩
  have hl := r.1
  by_cases hi : i < xs.length
  · rw [List.getElem?_append_left hi] at h1
    rw [List.getElem?_append_left (by omega)] at h2
    exact r.2 i x t h1 h2
  · rw [List.getElem?_append_right (by omega)] at h1 h2
    rw [hl] at h1
    exact q.2 _ x t h1 h2

end Pv
set_option Elab.async false
set_option linter.all false
set_option maxRecDepth 100000
set_option maxHeartbeats 4000000
namespace L2
open PySem PySem.Spec PyProof.Rows
section
variable {X : Cx} {e : Expr} {es : List Expr} {te : TE} {pos : Pos}
private theorem strs_of : ∀ {ys : List Str} {its : List Value}, Vals (ys.map V.str) its → StrsAre its ys
  | [], _, .nil => .nil
  | y :: r, _, .cons h t => by
    obtain ⟨k, rfl⟩ := h
    exact .cons y k (strs_of t)
def rJoin : V → List V → Hp → VK → Prop := fun x vs H Q => ∃ z p ys, x = .str z ∧ vs = [.ref p] ∧ H p = some (.lst (ys.map V.str)) ∧ (ys.map (·.length)).sum + ys.length * z.length ≤ 16777216 ∧ Q (.str (Str.join z ys)) H
private theorem mt_join : MtR X "str.join" rJoin := by
  intro pins s σ H x vs v us Q I rx rv h
  obtain ⟨z, p, ys, rfl, rfl, hH, hz, q⟩ := h
  obtain ⟨t, rfl⟩ := rx
  obtain ⟨u, rfl, ru⟩ := Vals.one rv
  cases ru
  obtain ⟨its, r, pl, _⟩ := I.list (SqL.of hH)
  refine join_list pl.isList (strs_of r) hz fun t' k => ?_
  have e : Txt.join z ys = Str.join z ys := PySem.StrLaws.glued_eq_join z ys
  rw [e]
  exact ⟨.str _, H, I.tok _, ⟨_, rfl⟩, q⟩
def tFmt (te : TE) : TE := fun σ H Q => te σ H fun x H1 => (∃ y, x = .str y ∧ y.length ≤ sizeLine ∧ Q (.str y) H1) ∨ ∃ i : Int, x = .int i ∧ i.natAbs.log2 < 1920 ∧ Q (.str (toString i)) H1
abbrev TJ := Str → St → Hp → VK → Prop
def PJ (X : Cx) (es : List Expr) (t : TJ) : Prop := ∀ (pins : List (Addr × Obj)) (s : Shared) (σ : St) (H : Hp) (Q : VK) (out : Str), Inv X pins σ H s → t out σ H Q → wpAny (model X.prog X.w) X.A (joinParts out (evalEach es X.env)) (EP X pins σ Q) X.xe s
def tJ (te : TE) (t : TJ) : TJ := fun out σ H Q => te σ H fun x H1 => ∃ y, x = .str y ∧ (out ++ y).length ≤ sizeLine ∧ t (out ++ y) σ H1 Q
end
end L2
namespace Pv
open PySem L2 PyProof.Rows PySem.NumText
def tx (l : List Nat) : Str := ⟨l.toArray⟩
private theorem tx_len (l : List Nat) : (tx l).length = l.length := by show l.toArray.size = _; simp
private theorem tx_app (a b : List Nat) : tx a ++ tx b = tx (a ++ b) := by
  show (⟨a.toArray ++ b.toArray⟩ : Str) = ⟨(a ++ b).toArray⟩
  simp
private theorem tx_join (ls : List (List Nat)) : Str.join (tx []) (ls.map tx) = tx ls.flatten := by
  induction ls with
  | nil => rfl
  | cons a r ih =>
    cases r with
    | nil => show tx a = tx _; simp
    | cons b r =>
      show tx a ++ tx [] ++ Str.join (tx []) ((b :: r).map tx) = _
      rw [ih, tx_app, tx_app, List.append_nil]
      rfl
def digs (m : Nat) : List Nat := (Nat.toDigits 10 m).map Char.toNat
def numL (i : Int) : List Nat := (Str.ofString (toString i)).cps.toList
mutual
def wrT : Th → List Nat
  | .non => [111]
  | .int i => 110 :: (numL i ++ [59])
  | .str x => 116 :: (numL x.length ++ 58 :: x.cps.toList)
  | .tup ts => 40 :: (wrL ts ++ [41])
def wrL : List Th → List Nat
  | [] => []
  | t :: r => wrT t ++ wrL r
end
end Pv
set_option Elab.async false
set_option linter.all false
set_option maxRecDepth 100000
set_option maxHeartbeats 4000000
namespace Pv
open PySem L2 PyProof.Rows PySem.NumText
private theorem lex_neg : ∀ a b c : List Int, HT.lexLt a c = true → HT.lexLt a b = true ∨ HT.lexLt b c = true
  | [], [], [], h => by cases h
  | [], [], _ :: _, _ => .inr rfl
  | [], _ :: _, _, _ => .inl rfl
  | _ :: _, _, [], h => by cases h
  | _ :: _, [], _ :: _, _ => .inr rfl
  | x :: a, y :: b, z :: c, h => by
    rw [HT.lexLt_cons] at h
    rw [HT.lexLt_cons, HT.lexLt_cons]
    by_cases e1 : x = y
    · by_cases e2 : y = z
      · rw [if_pos (e1.trans e2)] at h
        rw [if_pos e1, if_pos e2]
        exact lex_neg a b c h
      · rw [if_neg (fun q => e2 (e1.symm.trans q))] at h
        rw [if_neg e2]
        have := of_decide_eq_true h
        exact .inr (decide_eq_true (by omega))
    · by_cases e2 : y = z
      · rw [if_neg (fun q => e1 (q.trans e2.symm))] at h
        rw [if_neg e1]
        have := of_decide_eq_true h
        exact .inl (decide_eq_true (by omega))
      · rw [if_neg e1, if_neg e2]
        by_cases hx : x < y
        · exact .inl (decide_eq_true hx)
        · refine .inr (decide_eq_true ?_)
          by_cases e3 : x = z
          · omega
          · rw [if_neg e3] at h
            have := of_decide_eq_true h
            omega
private theorem ahead_asym {t u : Th} (h : aheadT t u = true) : aheadT u t = false := by
  cases e : aheadT u t with
  | false => rfl
  | true =>
    rw [← row_ahead] at h e
    have : ∀ a b : List Int, HT.lexLt a b = true → HT.lexLt b a = true → False := fun a b => by
      induction a generalizing b with
      | nil =>
        intro p q
        cases b <;> cases q
      | cons x a ih =>
        intro p q
        cases b with
        | nil => cases p
        | cons y b =>
          rw [HT.lexLt_cons] at p q
          by_cases z : x = y
          · rw [if_pos z] at p
            rw [if_pos z.symm] at q
            exact ih b p q
          · rw [if_neg z] at p
            rw [if_neg (fun k => z k.symm)] at q
            have := of_decide_eq_true p
            have := of_decide_eq_true q
            omega
    exact (this _ _ h e).elim
def leT (t u : Th) : Prop := aheadT u t = false
private theorem leT.refl (t : Th) : leT t t := ahead_irrefl t
private theorem leT.trans {t u v : Th} (a : leT t u) (b : leT u v) : leT t v := by
  show aheadT v t = false
  cases e : aheadT v t with
  | false => rfl
  | true =>
    rw [← row_ahead] at e
    rcases lex_neg _ (rowT u) _ e with h | h
    · rw [row_ahead] at h; rw [show aheadT v u = false from b] at h; cases h
    · rw [row_ahead] at h; rw [show aheadT u t = false from a] at h; cases h
private theorem leT.of {t u : Th} (h : aheadT t u = true) : leT t u := ahead_asym h
end Pv
set_option Elab.async false
set_option linter.all false
set_option maxRecDepth 100000
set_option maxHeartbeats 4000000
namespace Pv
open PySem L2
abbrev s_law_row : Stmt := top 26
private theorem sc_law_row : FnScope ["cell", "low"] ["cell"] (defScope s_law_row) := ⟨rfl, rfl, rfl, by decide +kernel, rfl, by decide +kernel, by decide +kernel⟩
abbrev s_law_take : Stmt := top 27
private theorem sc_law_take : FnScope ["row", "many", "got"] ["row", "many"] (defScope s_law_take) := ⟨rfl, rfl, rfl, by decide +kernel, rfl, by decide +kernel, by decide +kernel⟩
abbrev s_law_text : Stmt := top 28
private theorem sc_law_text : FnScope ["row", "signs", "many"] ["row"] (defScope s_law_text) := ⟨rfl, rfl, rfl, by decide +kernel, rfl, by decide +kernel, by decide +kernel⟩
abbrev s_law_thing : Stmt := top 29
private theorem sc_law_thing : FnScope ["row", "deep", "kind"] ["row", "deep"] (defScope s_law_thing) := ⟨rfl, rfl, rfl, by decide +kernel, rfl, by decide +kernel, by decide +kernel⟩
private theorem szl {n : Nat} (h : n ≤ 1000) : n ≤ sizeLine := Nat.le_of_lt (small1000 h)
def RowV (H : Hp) (row : Addr) : Prop := ∃ a m : Int, H row = some (.lst [.int a, .int m]) ∧ (m = 0 ∨ (m = 1 ∧ 0 ≤ a ∧ a < 999999937))
private theorem RowV.keep {H H' : Hp} {row : Addr} (r : RowV H row) (s : Same H H') : RowV H' row := by
  obtain ⟨a, m, e, h⟩ := r
  exact ⟨a, m, s _ _ e, h⟩
private theorem RowV.new {H : Hp} {row p : Addr} {o : HO} (r : RowV H row) (h : H p = none) : RowV (upd H p o) row := by
  obtain ⟨a, m, e, k⟩ := r
  exact ⟨a, m, by rw [upd_ne (ne_of_none e h)]; exact e, k⟩
private theorem RowV.ne {H : Hp} {row p : Addr} (r : RowV H row) (h : H p = none) : p ≠ row := by
  obtain ⟨a, m, e, _⟩ := r
  exact (ne_of_none e h).symm
private theorem RowV.noT {H : Hp} {row : Addr} (r : RowV H row) : NoT [row] H := fun b hb xs z => by
  cases List.mem_singleton.mp hb
  obtain ⟨a, m, e, _⟩ := r
  rw [e] at z; cases z
private theorem not1 {a b : Addr} (h : a ≠ b) : a ∉ [b] := fun z => h (List.mem_singleton.mp z)
private theorem same_new {H H1 : Hp} {p : Addr} {o : HO} (sm : Same H H1) (h : H1 p = none) : Same H (upd H1 p o) := fun b u q => by
  have q' := sm b u q
  rw [upd_ne (ne_of_none q' h)]; exact q'
private theorem same_upd {H H1 : Hp} {p : Addr} {o : HO} (sm : Same H H1) (h : H p = none) : Same H (upd H1 p o) := fun b u q => by
  rw [upd_ne (ne_of_none q h)]; exact sm b u q
private theorem frm_new {ws : List Addr} {H H1 : Hp} {p : Addr} {o : HO} (f : Frm ws H H1) (h : H1 p = none) : Frm ws H (upd H1 p o) := f.trans (Frm.new h)
private theorem frm_upd {ws : List Addr} {H H1 : Hp} {p : Addr} {o : HO} (f : Frm ws H H1) (h : H p = none) : Frm ws H (upd H1 p o) := fun b u n q => by rw [upd_ne (ne_of_none q h)]; exact f b u n q
instance decSign (c : Nat) : Decidable (Sign c) := inferInstanceAs (Decidable (32 ≤ c ∧ c ≤ 126 ∧ c ≠ 37))
def SGs : Str := Str.ofString " !\"#$&'()*+,-./0123456789:;<=>?@ABCDEFGHIJKLMNOPQRSTUVWXYZ[\\]^_`" ++ Str.ofString "abcdefghijklmnopqrstuvwxyz{|}~"
private theorem SG_len : SGs.cps.toList.length = 94 := by decide +kernel
private theorem SG_all : ∀ c ∈ SGs.cps.toList, Sign c := by decide +kernel
private theorem SG_at {r : Int} (h0 : 0 ≤ r) (h1 : r < 94) : ∃ c, atI SGs.cps.toList r = some c ∧ Sign c := by
  have hl : r.toNat < SGs.cps.toList.length := by rw [SG_len]; omega
  have er : r = ((r.toNat : Nat) : Int) := by omega
  have q : atI SGs.cps.toList ((r.toNat : Nat) : Int) = some SGs.cps.toList[r.toNat] := atI_nat (List.getElem?_eq_getElem hl)
  rw [← er] at q
  exact ⟨_, q, SG_all _ (List.getElem_mem hl)⟩
def spRow : Sp := fun vs H Q _ => ∃ c : Int, vs = [.int c] ∧ ∀ (r : Addr) (H' : Hp), Same H H' → RowV H' r → H r = none → Q (.ref r) H'
def spTake : Sp := fun vs H Q _ => ∃ (row : Addr) (many : Int), vs = [.ref row, .int many] ∧ RowV H row ∧ 0 < many ∧ many < 10 ^ 100 ∧ ∀ (r : Int) (H' : Hp), 0 ≤ r → r < many → Frm [row] H H' → RowV H' row → Q (.int r) H'
def spText : Sp := fun vs H Q _ => ∃ (row : Addr), vs = [.ref row] ∧ RowV H row ∧ ∀ (x : Str) (H' : Hp), TxtOk x → Frm [row] H H' → RowV H' row → Q (.str x) H'
def many (n : Nat) : Nat := (3 ^ (n + 1) - 1) / 2
def spThing (n : Nat) : Sp := fun vs H Q _ => ∃ (row : Addr) (deep : Nat), vs = [.ref row, .int (deep : Int)] ∧ RowV H row ∧ deep < n ∧ deep ≤ 3 ∧
  ∀ (t : Th) (v : V) (H' : Hp), Wf t → dep t ≤ deep → nodes t ≤ many deep → Frm [row] H H' → RowV H' row → Rep H' t v → Q v H'
section
variable {P : Program} {w : World} {K : PySem.W.Frag} {mg : Str → Option Value} {base : Heap}
private theorem ok_row (D : Dfn K mg "_law_row" s_law_row ["cell"]) : Fn P w K mg base "_law_row" 1 ["cell"] spRow := by
  refine D.ok (k := 0) sc_law_row (fun vs H Q E h => ?_) (fun f cdv A outer s H vs Q E hr h => ?_)
  · obtain ⟨c, rfl, _⟩ := h; rfl
  obtain ⟨c, rfl, q⟩ := h
  refine ⟨_, (pss_cons (ps_if (pt_cmpR op_eq (pe_op op_mod (pv 0) pe_int) pe_int (nomark _))
  (pss_one (ps_ret (pe_lst (pa_cons (pe_op op_fdivL (pv 0) pe_int) (pa_cons pe_int pa_nil)))))
  pss_nil)
 (pss_cons (ps_set (i := 1) sc_law_row.nd rfl (Or.inl rfl) (pe_op op_mod (pv 0) pe_int))
 (pss_one (ps_ret (pe_lst (pa_cons (pe_op op_mod (pe_op op_add (pe_op op_mul (pe_op op_mod (pe_op op_mul (pv 1) (pv 1)) pe_int) (pe_op op_add (pv 1) pe_int)) pe_int) pe_int) (pa_cons pe_int pa_nil))))))), ?_⟩
  refine ⟨_, rfl, _, _, rfl, rfl, (show (0 : Int) < 2 by decide), rfl, _, rfl, ?_⟩
  refine ifB (fun cc => ?_) (fun cc => ?_)
  · refine ⟨_, rfl, _, _, rfl, rfl, ⟨by decide, by decide +kernel⟩, szl (show 2 ≤ 1000 by decide), fun p hp => ?_⟩
    exact q p _ (same_new (Same.refl H) hp) ⟨_, _, upd_same, .inl rfl⟩ hp
  · have b0 : 0 ≤ c % 999999937 := Int.emod_nonneg _ (by decide)
    have b1 : c % 999999937 < 999999937 := Int.emod_lt_of_pos _ (by decide)
    refine ⟨_, rfl, _, _, rfl, rfl, (show (0 : Int) < 999999937 by decide), ?_⟩
    generalize hd : c % 999999937 = d at b0 b1
    show gName 1 (V.int (c % 999999937)) _ _ _
    rw [hd]
    have g0 : 0 ≤ d * d % 999999937 := Int.emod_nonneg _ (by decide)
    have g1 : d * d % 999999937 < 999999937 := Int.emod_lt_of_pos _ (by decide)
    refine ⟨_, rfl, _, rfl, _, _, rfl, rfl, .inl ⟨by omega, by omega⟩, _, _, rfl, rfl, (show (0 : Int) < 999999937 by decide), _, rfl, _, _, rfl, rfl, _, _, rfl, rfl, .inl ⟨by omega, by omega⟩, _, _, rfl, rfl, _, _, rfl, rfl, (show (0 : Int) < 999999937 by decide), szl (show 2 ≤ 1000 by decide), fun p hp => ?_⟩
    exact q p _ (same_new (Same.refl H) hp) ⟨_, _, upd_same, .inr ⟨rfl, Int.emod_nonneg _ (by decide), Int.emod_lt_of_pos _ (by decide)⟩⟩ hp
private theorem ok_take (D : Dfn K mg "_law_take" s_law_take ["row", "many"]) : Fn P w K mg base "_law_take" 1 ["row", "many"] spTake := by
  refine D.ok (k := 0) sc_law_take (fun vs H Q E h => ?_) (fun f cdv A outer s H vs Q E hr h => ?_)
  · obtain ⟨row, many, rfl, _⟩ := h; rfl
  obtain ⟨row, many, rfl, ⟨a, m, e, hm⟩, h0, h1, q⟩ := h
  refine ⟨_, (pss_cons (ps_if (pt_cmpR op_eq (pe_ix ix_list (pv 0) pe_int (fun _ _ => rfl)) pe_int (nomark _))
  (pss_cons (ps_set (i := 2) sc_law_take.nd rfl (Or.inl rfl) (pe_op op_mod (pe_ix ix_list (pv 0) pe_int (fun _ _ => rfl)) (pv 1)))
 (pss_cons (ps_asg (pe_op op_fdivL (pe_ix ix_list (pv 0) pe_int (fun _ _ => rfl)) (pv 1)) (pg_sub (pv 0) pe_int set_list))
 (pss_one (ps_ret (pv 2)))))
  pss_nil)
 (pss_cons (ps_asg (pe_op op_mod (pe_op op_mul (pe_op op_add (pe_ix ix_list (pv 0) pe_int (fun _ _ => rfl)) pe_int) (pe_op op_add (pe_ix ix_list (pv 0) pe_int (fun _ _ => rfl)) pe_int)) pe_int) (pg_sub (pv 0) pe_int set_list))
 (pss_one (ps_ret (pe_op op_mod (pe_op op_add (pe_op op_mul (pe_ix ix_list (pv 0) pe_int (fun _ _ => rfl)) (pe_op op_pow pe_int pe_int)) pe_int) (pv 1)))))), ?_⟩
  refine ⟨_, rfl, row, _, _, _, rfl, rfl, SqL.of e, rfl, rfl, _, rfl, ?_⟩
  rcases hm with rfl | ⟨rfl, a0, a1⟩
  · refine ifT (by decide) ?_
    refine ⟨_, rfl, row, _, _, _, rfl, rfl, SqL.of e, rfl, _, rfl, _, _, rfl, rfl, h0, ?_⟩
    refine ⟨_, rfl, row, _, _, _, rfl, rfl, SqL.of e, rfl, _, rfl, _, _, rfl, rfl, ⟨h0, h1⟩, _, rfl, row, _, _, _, rfl, rfl, e, rfl, ?_⟩
    exact ⟨_, rfl, q _ _ (Int.emod_nonneg _ (by omega)) (Int.emod_lt_of_pos _ h0) (Frm.upd (by simp)) ⟨_, _, upd_same, .inl rfl⟩⟩
  · refine ifF (by decide) ?_
    refine ⟨_, rfl, row, _, _, _, rfl, rfl, SqL.of e, rfl, _, _, rfl, rfl, _, rfl, row, _, _, _, rfl, rfl, SqL.of e, rfl, _, _, rfl, rfl, _, _, rfl, rfl, .inl ⟨by omega, by omega⟩, _, _, rfl, rfl, (show (0 : Int) < 999999937 by decide), _, rfl, row, _, _, _, rfl, rfl, e, rfl, ?_⟩
    have z0 : 0 ≤ (a + 32452843) * (a + 86028121) % 999999937 := Int.emod_nonneg _ (by decide)
    have z1 : (a + 32452843) * (a + 86028121) % 999999937 < 999999937 := Int.emod_lt_of_pos _ (by decide)
    refine ⟨_, rfl, row, [V.int ((a + 32452843) * (a + 86028121) % 999999937), V.int 1], _, _, rfl, rfl, SqL.of upd_same, rfl, _, _, rfl, rfl, ⟨by decide, by decide, by decide⟩, _, _, rfl, rfl, .inl ⟨by omega, by omega⟩, _, _, rfl, rfl, _, rfl, _, _, rfl, rfl, h0, ?_⟩
    exact q _ _ (Int.emod_nonneg _ (by omega)) (Int.emod_lt_of_pos _ h0) (Frm.upd (by simp)) ⟨_, _, upd_same, .inr ⟨rfl, z0, z1⟩⟩
private theorem _root_.Pv.Frm.none_of {row p : Addr} {H H' : Hp} (f : Frm [row] H H') (h : H' p = none) (n : p ≠ row) : H p = none := by
  cases e : H p with
  | none => rfl
  | some o => rw [f p o (not1 n) e] at h; cases h
private theorem RowV.upd {H : Hp} {row p : Addr} {o : HO} (r : RowV H row) (n : p ≠ row) : RowV (L2.upd H p o) row := by
  obtain ⟨a, m, e, k⟩ := r
  exact ⟨a, m, by rw [upd_ne (Ne.symm n)]; exact e, k⟩
private theorem joinIf {c : Bool} {A B : Prop} {N : L2.St → Hp → Prop} (Pq : L2.St → Hp → Prop) (b : c = false → (∀ σ H, Pq σ H → N σ H) → B) (a : c = true → (∀ σ H, Pq σ H → N σ H) → A) (rest : ∀ σ H, Pq σ H → N σ H) : if c = true then A else B :=
  ifB (fun h => a h rest) (fun h => b h rest)
private theorem one_sum : ∀ ds : List Nat, (((ds.map fun c => tx [c])).map (·.length)).sum = ds.length
  | [] => rfl
  | d :: r => by
    have := one_sum r
    rw [List.map_cons, List.map_cons, List.sum_cons, this, List.length_cons, tx_len]
    show 1 + r.length = r.length + 1
    omega
private theorem one_join (ds : List Nat) : Str.join (Str.ofString "") (ds.map fun c => tx [c]) = tx ds := by
  rw [show Str.ofString "" = tx [] from rfl, show (ds.map fun c => tx [c]) = (ds.map fun c => [c]).map tx from by rw [List.map_map]; rfl, tx_join]
  congr 1
  induction ds with
  | nil => rfl
  | cons d r ih => rw [List.map_cons, List.flatten_cons, ih]; rfl
private theorem ok_text (D : Dfn K mg "_law_text" s_law_text ["row"]) (F_law_take : Fn P w K mg base "_law_take" 1 ["row", "many"] spTake) (m_range : mg "range" = none) : Fn P w K mg base "_law_text" 2 ["row"] spText := by
  refine D.ok (k := 1) sc_law_text (fun vs H Q E h => ?_) (fun f cdv A outer s H vs Q E hr h => ?_)
  · obtain ⟨row, rfl, _⟩ := h; rfl
  obtain ⟨row, rfl, R0, q⟩ := h
  refine ⟨_, (pss_cons (ps_set (i := 1) sc_law_text.nd rfl (Or.inr rfl) pe_str)
 (pss_cons (ps_set (i := 1) sc_law_text.nd rfl (Or.inr rfl) (pe_op op_add_str (pv 1) pe_str))
 (pss_cons (ps_set (i := 2) sc_law_text.nd rfl (Or.inl rfl) (pe_fn F_law_take hr (by omega) (by rfl) (pa_cons (pv 0) (pa_cons pe_int pa_nil))))
 (pss_cons (ps_if (pt_cmpR op_eq (pv 2) pe_int (nomark _))
  (pss_one (ps_set (i := 2) sc_law_text.nd rfl (Or.inl rfl) (pe_fn F_law_take hr (by omega) (by rfl) (pa_cons (pv 0) (pa_cons pe_int pa_nil)))))
  pss_nil)
 (pss_one (ps_ret (pe_bm PySem.F.plainAttrs_str PySem.F.slot_str_join PySem.F.type_str_join mt_join pe_str (pa_cons (pe_lcomp (CompScope.two (y1 := "signs") (y2 := "row") (j1 := 1) (j2 := 0) (c1 := s.heap.objs.size + 2) (c2 := s.heap.objs.size + 1) (by rfl) (by rfl) (by decide +kernel) (by decide +kernel) (by rfl) (by decide +kernel) (by decide +kernel) (by decide +kernel) (by rfl) (by rfl) (by decide +kernel) (by rfl) (by rfl) (by first | exact Or.inl rfl | exact Or.inr rfl) (by first | exact Or.inl rfl | exact Or.inr rfl) (by first | exact Or.inl rfl | exact Or.inr rfl) (by first | exact Or.inl rfl | exact Or.inr rfl)) rfl (pi_range1 rfl m_range (pa_cons (pv 2) pa_nil)) (fun _ _ _ => pts_nil) (fun _ _ _ => (pe_ix ix_str (pv 1) (pe_fn F_law_take hr (by omega) (by rfl) (pa_cons (pv 2) (pa_cons pe_int pa_nil))) (fun _ _ => rfl)))) pa_nil)))))))), ?_⟩
  refine ⟨_, rfl, _, _, rfl, rfl, szl (by decide +kernel), ?_⟩
  refine ⟨_, rfl, row, _, rfl, R0, (show (0 : Int) < 9 by decide), (by decide +kernel), fun n1 H1 a0 a1 f1 R1 => ?_⟩
  refine ⟨_, rfl, rfl, _, rfl, ?_⟩
  refine joinIf (fun σ' H' => ∃ n : Int, σ' = [some (.ref row), some (.str SGs), some (.int n)] ∧ 0 ≤ n ∧ n ≤ 60 ∧ Frm [row] H H' ∧ RowV H' row) (fun _ k => k _ _ ⟨n1, rfl, a0, by omega, f1, R1⟩) (fun _ k => ?_) ?_
  · refine ⟨_, rfl, row, _, rfl, R1, (show (0 : Int) < 61 by decide), (by decide +kernel), fun n2 H2 b0 b1 f2 R2 => ?_⟩
    exact k _ _ ⟨n2, rfl, b0, by omega, f1.trans f2, R2⟩
  · rintro σ' H2 ⟨n, rfl, n0, n60, f2, R2⟩
    refine ⟨rfl, _, rfl, _, rfl, by omega, by omega, fun p hp => ?_⟩
    have hHp := f2.none_of hp (R2.ne hp)
    refine comp_it (J := Itr 0 n.toNat) (n := n.toNat) (fun i acc H' => ∃ ds : List Nat, acc = (ds.map fun c => tx [c]).map V.str ∧ ds.length = i ∧ (∀ c ∈ ds, Sign c) ∧ Frm [row] H H' ∧ RowV H' row ∧ H' p = some (.lst acc) ∧ p ≠ row) ⟨[], rfl, rfl, (fun c h => nomatch h), frm_new f2 hp, R2.new hp, upd_same, R2.ne hp⟩ (by exact fun i acc H' hi _ => hi) (by exact fun acc H' _ => Nat.le_refl _) ?_ ?_
    · rintro i acc H' y H'' hi ⟨ds, ha, hl, hs, f3, R3, ep, npr⟩ ⟨e1, e2⟩
      subst e1 e2
      refine tt1 ?_
      refine ⟨_, rfl, _, rfl, row, _, rfl, R3, (show (0 : Int) < 94 by decide), (by decide +kernel), fun u H4 u0 u1 f4 R4 => ?_⟩
      obtain ⟨c, ec, hc⟩ := SG_at u0 u1
      have hal : acc.length = i := by rw [ha, List.length_map, List.length_map, hl]
      refine ⟨SGs, _, c, rfl, rfl, szl (by decide +kernel), ec, f4.at ep (not1 npr), Nat.lt_of_lt_of_le (show acc.length < 1000 by omega) (szl (Nat.le_refl _)), nxt hi ⟨ds ++ [c], ?_, by rw [List.length_append, hl]; rfl, ?_, ?_, ?_, upd_same, npr⟩⟩
      · rw [ha, List.map_append, List.map_append]; rfl
      · intro d hd
        rcases List.mem_append.mp hd with z | z
        · exact hs d z
        · rw [List.mem_singleton.mp z]; exact hc
      · exact frm_upd (f3.trans f4) hHp
      · exact R4.upd npr
    · rintro acc H' ⟨ds, ha, hl, hs, f3, R3, ep, npr⟩
      refine ⟨_, p, ds.map fun c => tx [c], rfl, rfl, by rw [ep, ha], ?_, ?_⟩
      · rw [one_sum, show (Str.ofString "").length = 0 from rfl]; omega
      rw [one_join]
      exact q (tx ds) H' ⟨by rw [tx_len]; omega, by rw [show (tx ds).cps.toList = ds from by simp [tx]]; exact hs⟩ f3 R3
private theorem many_le {n : Nat} (h : n ≤ 3) : many n ≤ 40 := by
  match n, h with
  | 0, _ => decide
  | 1, _ => decide
  | 2, _ => decide
  | 3, _ => decide
private theorem many_succ {n : Nat} (h : n ≤ 2) : 1 + 3 * many n ≤ many (n + 1) := by
  match n, h with
  | 0, _ => decide
  | 1, _ => decide
  | 2, _ => decide
private theorem many_pos {n : Nat} (h : n ≤ 3) : 1 ≤ many n := by
  match n, h with
  | 0, _ => decide
  | 1, _ => decide
  | 2, _ => decide
  | 3, _ => decide
private theorem ok_thing (D : Dfn K mg "_law_thing" s_law_thing ["row", "deep"]) (F_law_take : Fn P w K mg base "_law_take" 1 ["row", "many"] spTake) (F_law_text : Fn P w K mg base "_law_text" 2 ["row"] spText) (m_range : mg "range" = none) (m_tuple : mg "tuple" = none) :
    ∀ n : Nat, Fn P w K mg base "_law_thing" (n + 2) ["row", "deep"] (spThing n)
  | 0 => D.never fun vs H Q E h => by
      obtain ⟨row, deep, _, _, h1, _⟩ := h
      omega
  | n + 1 => by
    have F_law_thing := ok_thing D F_law_take F_law_text m_range m_tuple n
    refine D.ok (k := n + 2) sc_law_thing (fun vs H Q E h => ?_) (fun f cdv A outer s H vs Q E hr h => ?_)
    · obtain ⟨row, deep, rfl, _⟩ := h; rfl
    obtain ⟨row, deep, rfl, R0, d1, d3, q⟩ := h
    refine ⟨_, (pss_cons (ps_set (i := 2) sc_law_thing.nd rfl (Or.inl rfl) (pe_fn F_law_take hr (by omega) (by rfl) (pa_cons (pv 0) (pa_cons pe_int pa_nil))))
 (pss_cons (ps_if (pt_cmpR op_eq (pv 2) pe_int (nomark _))
  (pss_one (ps_ret (pe_op op_sub (pe_fn F_law_take hr (by omega) (by rfl) (pa_cons (pv 0) (pa_cons pe_int pa_nil))) pe_int)))
  pss_nil)
 (pss_cons (ps_if (pt_cmpR op_eq (pv 2) pe_int (nomark _))
  (pss_one (ps_ret (pe_op op_sub (pe_fn F_law_take hr (by omega) (by rfl) (pa_cons (pv 0) (pa_cons (pe_op op_add (pe_op op_mul pe_int (pe_op op_pow pe_int pe_int)) pe_int) pa_nil))) (pe_op op_pow pe_int pe_int))))
  pss_nil)
 (pss_cons (ps_if (pt_cmpR op_eq (pv 2) pe_int (nomark _))
  (pss_one (ps_ret (pe_ix ix_list (pe_lst (pa_cons pe_str (pa_cons pe_str (pa_cons pe_int (pa_cons (pe_un un_neg pe_int) pa_nil))))) (pe_fn F_law_take hr (by omega) (by rfl) (pa_cons (pv 0) (pa_cons pe_int pa_nil))) (fun _ _ => rfl))))
  pss_nil)
 (pss_cons (ps_if (pt_cmpR op_eq (pv 2) pe_int (nomark _))
  (pss_one (ps_ret pe_non))
  pss_nil)
 (pss_cons (ps_if (PW.pt (pw_or (pt_cmpR op_eq (pv 2) pe_int (nomark _)) (pw_or1 (pt_cmpR op_eq (pv 1) pe_int (nomark _)))))
  (pss_one (ps_ret (pe_fn F_law_text hr (by omega) (by rfl) (pa_cons (pv 0) pa_nil))))
  pss_nil)
 (pss_one (ps_ret (pe_callTy call_tuple_of (by rfl) m_tuple (by rfl) (pa_cons (pe_lcomp (CompScope.two (y1 := "row") (y2 := "deep") (j1 := 0) (j2 := 1) (c1 := s.heap.objs.size + 1) (c2 := s.heap.objs.size + 2) (by rfl) (by rfl) (by decide +kernel) (by decide +kernel) (by rfl) (by decide +kernel) (by decide +kernel) (by decide +kernel) (by rfl) (by rfl) (by decide +kernel) (by rfl) (by rfl) (by first | exact Or.inl rfl | exact Or.inr rfl) (by first | exact Or.inl rfl | exact Or.inr rfl) (by first | exact Or.inl rfl | exact Or.inr rfl) (by first | exact Or.inl rfl | exact Or.inr rfl)) rfl (pi_range1 rfl m_range (pa_cons (pe_fn F_law_take hr (by omega) (by rfl) (pa_cons (pv 0) (pa_cons pe_int pa_nil))) pa_nil)) (fun _ _ _ => pts_nil) (fun _ _ _ => (pe_fn F_law_thing hr (by omega) (by rfl) (pa_cons (pv 1) (pa_cons (pe_op op_sub (pv 2) pe_int) pa_nil))))) pa_nil)))))))))), ?_⟩
    have e30 : (10 : Int) ^ (30 : Int).toNat = 1000000000000000000000000000000 := by decide +kernel
    have mp := many_pos d3
    refine ⟨_, rfl, row, _, rfl, R0, (show (0 : Int) < 7 by decide), (by decide +kernel), fun kind H1 k0 k1 f1 R1 => ?_⟩
    refine ⟨_, rfl, rfl, _, rfl, ?_⟩
    refine ifB (fun c => ?_) (fun c => ?_)
    · refine ⟨_, rfl, row, _, rfl, R1, (show (0 : Int) < 9 by decide), (by decide +kernel), fun r H2 r0 r1 f2 R2 => ?_⟩
      exact ⟨_, _, rfl, rfl, q (.int _) _ H2 ⟨by omega, by omega⟩ (Nat.zero_le _) mp (f1.trans f2) R2 (.int _)⟩
    refine ⟨_, rfl, rfl, _, rfl, ?_⟩
    refine ifB (fun c => ?_) (fun c => ?_)
    · refine ⟨_, rfl, _, _, rfl, rfl, ⟨by decide, by decide, by decide⟩, _, _, rfl, rfl, .inl ⟨by decide, by decide⟩, _, _, rfl, rfl, row, _, rfl, R1, (by decide +kernel), (by decide +kernel), fun r H2 r0 r1 f2 R2 => ?_⟩
      refine ⟨_, _, rfl, rfl, ⟨by decide, by decide, by decide⟩, _, _, rfl, rfl, q (.int _) _ H2 ?_ (Nat.zero_le _) mp (f1.trans f2) R2 (.int _)⟩
      rw [e30] at r1 ⊢
      exact ⟨by omega, by omega⟩
    refine ⟨_, rfl, rfl, _, rfl, ?_⟩
    refine ifB (fun c => ?_) (fun c => ?_)
    · refine ⟨_, rfl, szl (show 4 ≤ 1000 by decide), fun p hp => ?_⟩
      refine ⟨_, rfl, row, _, rfl, R1.new hp, (show (0 : Int) < 4 by decide), (by decide +kernel), fun r H2 r0 r1 f2 R2 => ?_⟩
      have ep := f2.at (upd_same (H := H1) (a := p) (o := .lst [.str ("raaAdRnaccsome" : Str), .str ("ElmfalQlaasome" : Str), .int 251530379464423, .int (-1285000000000000000)])) (not1 (R1.ne hp))
      have f02 : Frm [row] H H2 := (frm_new f1 hp).trans f2
      rcases (show r = 0 ∨ r = 1 ∨ r = 2 ∨ r = 3 by omega) with rfl | rfl | rfl | rfl
      · exact ⟨p, _, _, _, rfl, rfl, SqL.of ep, rfl, q (.str _) _ H2 ⟨by decide +kernel, by decide +kernel⟩ (Nat.zero_le _) mp f02 R2 (.str _)⟩
      · exact ⟨p, _, _, _, rfl, rfl, SqL.of ep, rfl, q (.str _) _ H2 ⟨by decide +kernel, by decide +kernel⟩ (Nat.zero_le _) mp f02 R2 (.str _)⟩
      · exact ⟨p, _, _, _, rfl, rfl, SqL.of ep, rfl, q (.int _) _ H2 ⟨by decide, by decide⟩ (Nat.zero_le _) mp f02 R2 (.int _)⟩
      · exact ⟨p, _, _, _, rfl, rfl, SqL.of ep, rfl, q (.int _) _ H2 ⟨by decide, by decide⟩ (Nat.zero_le _) mp f02 R2 (.int _)⟩
    refine ⟨_, rfl, rfl, _, rfl, ?_⟩
    refine ifB (fun c => ?_) (fun c => ?_)
    · exact q .non _ H1 trivial (Nat.zero_le _) mp f1 R1 .non
    refine ⟨_, rfl, rfl, _, rfl, ?_⟩
    refine ifB (fun c1 => ?_) (fun c1 => ?_)
    · refine ifT rfl ?_
      exact ⟨_, rfl, row, rfl, R1, fun x H2 hx f2 R2 => q (.str x) _ H2 hx (Nat.zero_le _) mp (f1.trans f2) R2 (.str x)⟩
    refine ⟨_, rfl, rfl, _, rfl, ?_⟩
    rw [dec_i]
    refine ifB (fun c2 => ?_) (fun c2 => ?_)
    · exact ⟨_, rfl, row, rfl, R1, fun x H2 hx f2 R2 => q (.str x) _ H2 hx (Nat.zero_le _) mp (f1.trans f2) R2 (.str x)⟩
    have dpos : (deep : Int) ≠ 0 := of_decide_eq_false c2
    have hde : (deep : Int) - 1 = ((deep - 1 : Nat) : Int) := by omega
    have hms := many_succ (n := deep - 1) (by omega)
    rw [show deep - 1 + 1 = deep from by omega] at hms
    refine ⟨_, rfl, row, _, rfl, R1, (show (0 : Int) < 4 by decide), (by decide +kernel), fun m H2 m0 m1 f2 R2 => ?_⟩
    refine ⟨_, rfl, by omega, by omega, fun p hp => ?_⟩
    have f02 := f1.trans f2
    have hHp := f02.none_of hp (R2.ne hp)
    refine comp_it (J := Itr 0 m.toNat) (n := m.toNat) (fun i acc H' => ∃ ts : List Th, Reps H' ts acc ∧ ts.length = i ∧ WfL ts ∧ depL ts ≤ deep - 1 ∧ nodesL ts ≤ i * many (deep - 1) ∧ Frm [row] H H' ∧ RowV H' row ∧ H' p = some (.lst acc) ∧ p ≠ row) ⟨[], Reps.nil, rfl, trivial, Nat.zero_le _, Nat.zero_le _, frm_new f02 hp, R2.new hp, upd_same, R2.ne hp⟩ (by exact fun i acc H' hi _ => hi) (by exact fun acc H' _ => Nat.le_refl _) ?_ ?_
    · rintro i acc H' y H'' hi ⟨ts, rs, hl, hw, hd, hn, f3, R3, ep, npr⟩ ⟨e1, e2⟩
      subst e1 e2
      refine tt1 ?_
      refine ⟨_, rfl, _, rfl, _, _, rfl, rfl, row, deep - 1, by show [V.ref row, V.int ((deep : Int) - 1)] = _; rw [hde], R3, by omega, by omega, fun t v H4 wt dt nt f4 R4 rt => ?_⟩
      have tk : Tups H'' H4 := Frm.tups f4 R3.noT
      have ep4 := f4.at ep (not1 npr)
      have tk2 : Tups H4 (upd H4 p (.lst (acc ++ [v]))) := Tups.upd fun xs e => by rw [ep4] at e; cases e
      have hal : acc.length = i := by rw [rs.1, hl]
      refine ⟨ep4, Nat.lt_of_lt_of_le (show acc.length < 1000 by omega) (szl (Nat.le_refl _)), nxt hi ⟨ts ++ [t], ((rs.keep tk).keep tk2).snoc (rt.keep tk2), by rw [List.length_append, hl]; rfl, hw.snoc wt, ?_, ?_, frm_upd (f3.trans f4) hHp, R4.upd npr, upd_same, npr⟩⟩
      · rw [depL_snoc]; omega
      · rw [nodesL_snoc, Nat.add_mul, Nat.one_mul]; omega
    · rintro acc H' ⟨ts, rs, hl, hw, hd, hn, f3, R3, ep, npr⟩
      refine ⟨p, _, rfl, .inl ⟨SqL.of ep, fun l hl2 => ?_⟩⟩
      have hlr : l ≠ row := R3.ne hl2
      have nl : ts.length ≤ 3 := by omega
      have hn2 : nodesL ts ≤ 3 * many (deep - 1) := Nat.le_trans hn (Nat.mul_le_mul_right _ (by omega))
      refine q (.tup ts) _ _ ⟨by omega, hw⟩ ?_ ?_ (frm_new f3 hl2) (R3.new hl2) (.tup upd_same rs.1 fun i x t h1 h2 => (rs.2 i x t h1 h2).keep (Tups.new hl2))
      · show depL ts + 1 ≤ deep
        omega
      · show 1 + nodesL ts ≤ many deep
        omega
end
end Pv
set_option Elab.async false
set_option linter.all false
set_option maxRecDepth 100000
set_option maxHeartbeats 4000000
namespace Pv
open PySem L2
abbrev s_law_same : Stmt := top 30
private theorem sc_law_same : FnScope ["told", "due", "one", "other"] ["told", "due"] (defScope s_law_same) := ⟨rfl, rfl, rfl, by decide +kernel, rfl, by decide +kernel, by decide +kernel⟩
def spSameE (n : Nat) : Sp := fun vs H Q _ => ∃ (t u : Th) (v w : V), vs = [v, w] ∧ Rep H t v ∧ Rep H u w ∧ dep u < n ∧ dep t ≤ 40 ∧ dep u ≤ 40 ∧ ∀ H', Same H H' → Q (.bl (eqT t u)) H'
private theorem eqL_drop {ts us : List Th} {i : Nat} (h1 : i < ts.length) (h2 : i < us.length) : eqL (ts.drop i) (us.drop i) = (eqT ts[i] us[i] && eqL (ts.drop (i + 1)) (us.drop (i + 1))) := by
  rw [List.drop_eq_getElem_cons h1, List.drop_eq_getElem_cons h2]
  rfl
private theorem eqL_len {ts us : List Th} (h : ts.length ≠ us.length) : eqL ts us = false := by
  cases e : eqL ts us with
  | false => rfl
  | true =>
    have : eqT (.tup ts) (.tup us) = true := e
    have z := (eqT_iff _ _).mp this
    cases z
    exact absurd rfl h
private theorem isNone {H : Hp} {t : Th} {v : V} (r : Rep H t v) : decide (v = V.non) = eqT t .non := by
  cases r with
  | non => rfl
  | int i => rfl
  | str x => rfl
  | tup e l h => rfl
section
variable {P : Program} {w : World} {K : PySem.W.Frag} {mg : Str → Option Value} {base : Heap}
private theorem ok_sameE (D : Dfn K mg "_law_same" s_law_same ["told", "due"]) (m_isinstance : mg "isinstance" = none) (m_tuple : mg "tuple" = none) (m_int : mg "int" = none) (m_bool : mg "bool" = none) (m_str : mg "str" = none) (m_len : mg "len" = none) (m_zip : mg "zip" = none) :
    ∀ n : Nat, Fn P w K mg base "_law_same" (n + 2) ["told", "due"] (spSameE n)
  | 0 => D.never fun vs H Q E h => by
      obtain ⟨t, u, v, w, _, _, _, h1, _⟩ := h
      omega
  | n + 1 => by
    have F_law_same := ok_sameE D m_isinstance m_tuple m_int m_bool m_str m_len m_zip n
    refine D.ok (k := n + 2) sc_law_same (fun vs H Q E h => ?_) (fun f cdv A outer s H vs Q E hr h => ?_)
    · obtain ⟨t, u, v, w, rfl, _⟩ := h; rfl
    obtain ⟨t, u, v, w, rfl, r1, r2, hd, hd1, hd2, q⟩ := h
    refine ⟨_, (pss_cons (ps_if (pt_cmpR op_isN (pv 1) pe_non (nomark _))
  (pss_one (ps_ret (pe_cmpR op_isN (pv 0) pe_non (nomark _))))
  pss_nil)
 (pss_cons (ps_if (pt_val (pe_callB (call_isinst) (by rfl) m_isinstance (by rfl) (pa_cons (pv 1) (pa_cons (pe_bltn (v := .ty "tuple") (by rfl) m_tuple (by rfl) rfl) pa_nil))))
  (pss_cons (ps_if (PW.pt (pw_or (pt_not (pt_val (pe_callB (call_isinst) (by rfl) m_isinstance (by rfl) (pa_cons (pv 0) (pa_cons (pe_bltn (v := .ty "tuple") (by rfl) m_tuple (by rfl) rfl) pa_nil))))) (pw_or1 (pt_cmpR op_ne (pe_callB (call_len_seq) (by rfl) m_len (by rfl) (pa_cons (pv 0) pa_nil)) (pe_callB (call_len_seq) (by rfl) m_len (by rfl) (pa_cons (pv 1) pa_nil)) (nomark _)))))
  (pss_one (ps_ret pe_bl))
  pss_nil)
 (pss_cons (ps_for PassesOwn.never rfl (pi_zip (by rfl) m_zip (pa_cons (pv 0) (pa_cons (pv 1) pa_nil))) (pg_tup rfl (pgs_cons (pg_name (i := 2) sc_law_same.nd rfl (Or.inl rfl)) (pgs_cons (pg_name (i := 3) sc_law_same.nd rfl (Or.inl rfl)) pgs_nil)))
  (pss_one (ps_if (pt_not (pt_val (pe_fn F_law_same hr (by omega) (by rfl) (pa_cons (pv 2) (pa_cons (pv 3) pa_nil)))))
  (pss_one (ps_ret pe_bl))
  pss_nil)))
 (pss_one (ps_ret pe_bl))))
  pss_nil)
 (pss_cons (ps_if (pt_val (pe_callB (call_isinst) (by rfl) m_isinstance (by rfl) (pa_cons (pv 1) (pa_cons (pe_bltn (v := .ty "str") (by rfl) m_str (by rfl) rfl) pa_nil))))
  (pss_one (ps_ret (pe_and (pe_callB (call_isinst) (by rfl) m_isinstance (by rfl) (pa_cons (pv 0) (pa_cons (pe_bltn (v := .ty "str") (by rfl) m_str (by rfl) rfl) pa_nil))) (pe_one (pe_cmpR (op_eqTh hr) (pv 0) (pv 1) (nomark _))))))
  pss_nil)
 (pss_one (ps_ret (pe_and (pe_callB (call_isinst) (by rfl) m_isinstance (by rfl) (pa_cons (pv 0) (pa_cons (pe_bltn (v := .ty "int") (by rfl) m_int (by rfl) rfl) pa_nil))) (pe_and (pe_not (pe_callB (call_isinst) (by rfl) m_isinstance (by rfl) (pa_cons (pv 0) (pa_cons (pe_bltn (v := .ty "bool") (by rfl) m_bool (by rfl) rfl) pa_nil)))) (pe_one (pe_cmpR (op_eqTh hr) (pv 0) (pv 1) (nomark _)))))))))), ?_⟩
    have qH := q H (Same.refl _)
    refine ⟨_, rfl, rfl, _, rfl, ?_⟩
    cases r2 with
    | non =>
      refine ifT (by decide) ?_
      refine ⟨_, rfl, rfl, ?_⟩
      rw [isNone r1]
      exact qH
    | int i =>
      refine ifF (by rfl) ?_
      refine ⟨_, rfl, _, _, _, _, rfl, .int i, rfl, _, rfl, ifF rfl ?_⟩
      refine ⟨_, rfl, _, _, _, _, rfl, .int i, rfl, _, rfl, ifF rfl ?_⟩
      cases r1 with
      | non => exact ⟨_, rfl, _, _, _, _, rfl, .non, rfl, _, rfl, ifF rfl qH⟩
      | str x => exact ⟨_, rfl, _, _, _, _, rfl, .str x, rfl, _, rfl, ifF rfl qH⟩
      | tup e l h => exact ⟨_, rfl, _, _, _, _, rfl, .tup e, rfl, _, rfl, ifF rfl qH⟩
      | int j =>
        refine ⟨_, rfl, _, _, _, _, rfl, .int j, rfl, _, rfl, ifT rfl ?_⟩
        refine ⟨_, rfl, _, _, _, _, rfl, .int j, rfl, ?_⟩
        refine ⟨_, rfl, ?_⟩
        refine ⟨_, rfl, ?_⟩
        refine ifT rfl ?_
        exact ⟨_, rfl, _, rfl, .int j, .int i, .int j, .int i, by show (0 : Nat) ≤ 50; decide, qH⟩
    | str y =>
      refine ifF (by rfl) ?_
      refine ⟨_, rfl, _, _, _, _, rfl, .str y, rfl, _, rfl, ifF rfl ?_⟩
      refine ⟨_, rfl, _, _, _, _, rfl, .str y, rfl, _, rfl, ifT rfl ?_⟩
      cases r1 with
      | non => exact ⟨_, rfl, _, _, _, _, rfl, .non, rfl, _, rfl, ifF rfl qH⟩
      | int j => exact ⟨_, rfl, _, _, _, _, rfl, .int j, rfl, _, rfl, ifF rfl qH⟩
      | tup e l h => exact ⟨_, rfl, _, _, _, _, rfl, .tup e, rfl, _, rfl, ifF rfl qH⟩
      | str x =>
        refine ⟨_, rfl, _, _, _, _, rfl, .str x, rfl, _, rfl, ifT rfl ?_⟩
        exact ⟨_, rfl, _, rfl, .str x, .str y, .str x, .str y, by show (0 : Nat) ≤ 50; decide, qH⟩
    | @tup b ys us e2 l2 h2 =>
      have hd' : depL us + 1 < n + 1 := hd
      have hd2' : depL us + 1 ≤ 40 := hd2
      refine ifF (by rfl) ?_
      refine ⟨_, rfl, _, _, _, _, rfl, .tup e2, rfl, _, rfl, ifT rfl ?_⟩
      cases r1 with
      | non => exact ⟨_, rfl, _, _, _, _, rfl, .non, rfl, _, rfl, ifT rfl (ifT rfl qH)⟩
      | int j => exact ⟨_, rfl, _, _, _, _, rfl, .int j, rfl, _, rfl, ifT rfl (ifT rfl qH)⟩
      | str x => exact ⟨_, rfl, _, _, _, _, rfl, .str x, rfl, _, rfl, ifT rfl (ifT rfl qH)⟩
      | @tup a xs ts e1 l1 h1 =>
        have hd1' : depL ts + 1 ≤ 40 := hd1
        refine ⟨_, rfl, _, _, _, _, rfl, .tup e1, rfl, _, rfl, ifF rfl ?_⟩
        refine ⟨_, rfl, a, _, rfl, .inr (SqT.of e1), _, rfl, b, _, rfl, .inr (SqT.of e2), rfl, _, rfl, ?_⟩
        rw [dec_i]
        refine ifB (fun c => ?_) (fun c => ?_)
        · have ne : ts.length ≠ us.length := fun z => by rw [decide_eq_true (by rw [l1, l2, z])] at c; cases c
          rw [show eqT (.tup ts) (.tup us) = false from eqL_len ne] at qH
          exact qH
        have el : ts.length = us.length := by
          by_cases z : (xs.length : Int) = (ys.length : Int)
          · omega
          · rw [decide_eq_false z] at c; cases c
        refine ⟨_, rfl, _, rfl, a, b, xs, ys, rfl, SqT.of e1, SqT.of e2, ?_⟩
        refine for_zip (K := K) (p := a) (q := b) (xs := xs) (us := ys) (fun i σ H' => ∃ k2 k3, σ = [some (.ref a), some (.ref b), k2, k3] ∧ Same H H' ∧ eqL ts us = eqL (ts.drop i) (us.drop i)) ⟨_, _, rfl, Same.refl _, rfl⟩ ?_ ?_ ?_
        · rintro i σ H1 ⟨k2, k3, rfl, sm, _⟩
          exact ⟨SqT.of (sm _ _ e1), SqT.of (sm _ _ e2)⟩
        · rintro i x u T σ H1 hx hu hT ⟨k2, k3, rfl, sm, ee⟩
          have hi : i < ts.length := by rw [← l1]; exact (List.getElem?_eq_some_iff.mp hx).1
          have hj : i < us.length := by omega
          have ht : ts[i]? = some ts[i] := List.getElem?_eq_getElem hi
          have hv : us[i]? = some us[i] := List.getElem?_eq_getElem hj
          have sm' : Same H (upd H1 T (.tup [x, u])) := same_new sm hT
          have da := depL_get ht
          have db := depL_get hv
          rw [eqL_drop hi hj] at ee
          refine ⟨T, _, rfl, SqT.of upd_same, rfl, _, _, rfl, _, _, rfl, rfl, ?_⟩
          refine ⟨_, rfl, _, rfl, ts[i], us[i], _, _, rfl, (h1 i x _ hx ht).keep (Same.tups sm'), (h2 i u _ hu hv).keep (Same.tups sm'), by omega, by omega, by omega, fun H2 s2 => ⟨_, rfl, ?_⟩⟩
          refine ifB (fun c => ?_) (fun c => ?_)
          · have c' : eqT ts[i] us[i] = false := by cases z : eqT ts[i] us[i] with | true => rw [z] at c; cases c | false => rfl
            rw [c', Bool.false_and] at ee
            have := q H2 (sm'.trans s2)
            rw [show eqT (.tup ts) (.tup us) = false from ee] at this
            exact this
          · have c' : eqT ts[i] us[i] = true := by cases z : eqT ts[i] us[i] with | true => rfl | false => rw [z] at c; cases c
            rw [c', Bool.true_and] at ee
            exact ⟨_, _, rfl, sm'.trans s2, ee⟩
        · rintro σ H1 ⟨k2, k3, rfl, sm, ee⟩
          have := q H1 sm
          have dz : eqL (ts.drop (min xs.length ys.length)) (us.drop (min xs.length ys.length)) = true := by
            rw [List.drop_of_length_le (by omega), List.drop_of_length_le (by omega)]
            rfl
          rw [dz] at ee
          rw [show eqT (.tup ts) (.tup us) = true from ee] at this
          exact this
end
end Pv
set_option Elab.async false
set_option linter.all false
set_option maxRecDepth 100000
set_option maxHeartbeats 4000000
namespace Pv
open PySem L2
abbrev sseal : Stmt := top 18
abbrev scodes : Stmt := top 19
abbrev snumber_of : Stmt := top 20
private theorem scseal : FnScope ["thing", "folded", "code"] ["thing"] (defScope sseal) := ⟨rfl, rfl, rfl, by decide +kernel, rfl, by decide +kernel, by decide +kernel⟩
private theorem sccodes : FnScope ["thing", "raised", "sevens", "row", "part"] ["thing"] (defScope scodes) := ⟨rfl, rfl, rfl, by decide +kernel, rfl, by decide +kernel, by decide +kernel⟩
private theorem scnumber_of : FnScope ["signs", "number", "sign"] ["signs"] (defScope snumber_of) := ⟨rfl, rfl, rfl, by decide +kernel, rfl, by decide +kernel, by decide +kernel⟩
def spNumOf : Sp := fun vs H Q _ => ∃ x : Str, vs = [.str x] ∧ Q (.int (numOf x.cps.toList)) H
def spCodes (n : Nat) : Sp := fun vs H Q _ => ∃ (t : Th) (v : V), vs = [v] ∧ Rep H t v ∧ Wf t ∧ dep t < n ∧ nodes t ≤ 100 ∧ ∀ (r : Addr) (H' : Hp), Same H H' → H' r = some (.lst ((codesT t).map V.int)) → Q (.ref r) H'
def spSeal : Sp := fun vs H Q _ => ∃ (t : Th) (v : V), vs = [v] ∧ Rep H t v ∧ Wf t ∧ dep t < 10 ∧ nodes t ≤ 100 ∧ ∀ (H' : Hp), Same H H' → Q (.int (sealT t)) H'
section
variable {P : Program} {w : World} {K : PySem.W.Frag} {mg : Str → Option Value} {base : Heap}
private theorem ok_number_of (D : Dfn K mg "number_of" snumber_of ["signs"]) (m_ord : mg "ord" = none) : Fn P w K mg base "number_of" 1 ["signs"] spNumOf := by
  refine D.ok (k := 0) scnumber_of (fun vs H Q E h => ?_) (fun f cdv A outer s H vs Q E hr h => ?_)
  · obtain ⟨x, rfl, _⟩ := h; rfl
  obtain ⟨x, rfl, q⟩ := h
  refine ⟨_, (pss_cons (ps_set (i := 1) scnumber_of.nd rfl (Or.inl rfl) pe_int)
 (pss_cons (ps_for PassesOwn.never rfl (pi_str (pv 0)) (pg_name (i := 2) scnumber_of.nd rfl (Or.inl rfl))
  (pss_one (ps_set (i := 1) scnumber_of.nd rfl (Or.inl rfl) (pe_op op_add (pe_op op_mul (pv 1) pe_int) (pe_callB (call_ord) (by rfl) m_ord (by rfl) (pa_cons (pv 2) pa_nil))))))
 (pss_one (ps_ret (pv 1))))), ?_⟩
  refine ⟨_, rfl, x, rfl, ?_⟩
  refine for_str (z := x) (fun i σ H' => H' = H ∧ ∃ kk, σ = [some (.str x), some (.int (numOf (x.cps.toList.take i))), kk]) ⟨rfl, _, rfl⟩ ?_ ?_
  · rintro i c σ H' hc ⟨rfl, kk, rfl⟩
    refine ⟨_, rfl, _, _, rfl, rfl, .inr ⟨by decide, by decide⟩, _, rfl, _, rfl, rfl, _, _, rfl, rfl, rfl, some (.str ⟨#[c]⟩), ?_⟩
    have e : x.cps.toList.take (i + 1) = x.cps.toList.take i ++ [c] := by
      rw [List.take_add_one, Array.getElem?_toList, hc]; rfl
    rw [e, numOf_snoc]
    rfl
  · rintro σ H' ⟨rfl, kk, rfl⟩
    refine ⟨_, rfl, ?_⟩
    have e : x.cps.toList.take x.cps.size = x.cps.toList := List.take_of_length_le (by simp)
    rw [e]
    exact q
private theorem ok_codes (D : Dfn K mg "codes" scodes ["thing"]) (F_number_of : Fn P w K mg base "number_of" 1 ["signs"] spNumOf) (m_isinstance : mg "isinstance" = none) (m_int : mg "int" = none) (m_str : mg "str" = none) (m_range : mg "range" = none) (m_len : mg "len" = none) :
    ∀ n : Nat, Fn P w K mg base "codes" (n + 2) ["thing"] (spCodes n)
  | 0 => D.never fun vs H Q E h => by
      obtain ⟨t, v, _, _, _, h1, _⟩ := h
      omega
  | n + 1 => by
    have F_codes := ok_codes D F_number_of m_isinstance m_int m_str m_range m_len n
    refine D.ok (k := n + 2) sccodes (fun vs H Q E h => ?_) (fun f cdv A outer s H vs Q E hr h => ?_)
    · obtain ⟨t, v, rfl, _⟩ := h; rfl
    obtain ⟨t, v, rfl, hrep, hwf, hdep, hnod, q⟩ := h
    have hlen := codes_len t hwf
    refine ⟨_, (pss_cons (ps_if (pt_cmpR op_isN (pv 0) pe_non (nomark _))
  (pss_one (ps_ret (pe_lst (pa_cons pe_int pa_nil))))
  pss_nil)
 (pss_cons (ps_if (pt_val (pe_callB (call_isinst) (by rfl) m_isinstance (by rfl) (pa_cons (pv 0) (pa_cons (pe_bltn (v := .ty "int") (by rfl) m_int (by rfl) rfl) pa_nil))))
  (pss_cons (ps_set (i := 1) sccodes.nd rfl (Or.inl rfl) (pe_op op_add (pv 0) (pe_op op_pow pe_int pe_int)))
 (pss_one (ps_ret (pe_lst (pa_cons pe_int (pa_cons (pe_op op_fdivL (pv 1) (pe_op op_pow pe_int pe_int)) (pa_cons (pe_op op_mod (pv 1) (pe_op op_pow pe_int pe_int)) pa_nil)))))))
  pss_nil)
 (pss_cons (ps_if (pt_val (pe_callB (call_isinst) (by rfl) m_isinstance (by rfl) (pa_cons (pv 0) (pa_cons (pe_bltn (v := .ty "str") (by rfl) m_str (by rfl) rfl) pa_nil))))
  (pss_cons (ps_lcomp (i := 2) (CompScope.one (y := "thing") (j := 0) (c := s.heap.objs.size + 1) (by rfl) (by rfl) (by decide +kernel) (by decide +kernel) (by rfl) (by decide +kernel) (by rfl) (by decide +kernel) (by rfl) (by first | exact Or.inl rfl | exact Or.inr rfl) (by first | exact Or.inl rfl | exact Or.inr rfl)) rfl (pi_range3 rfl m_range (pa_cons pe_int (pa_cons (pe_callB (CallR.or call_len_seq call_len_str) (by rfl) m_len (by rfl) (pa_cons (pv 0) pa_nil)) (pa_cons pe_int pa_nil)))) (fun _ _ _ => pts_nil) (fun _ _ _ => (pe_slice sl_str (pv 1) (po_some (pv 0)) (po_some (pe_op op_add (pv 0) pe_int)))) sccodes.nd rfl (Or.inl rfl) (by rfl))
 (pss_one (ps_ret (pe_op op_cat (pe_lst (pa_cons pe_int (pa_cons (pe_callB (CallR.or call_len_seq call_len_str) (by rfl) m_len (by rfl) (pa_cons (pv 0) pa_nil)) pa_nil))) (pe_lcomp (CompScope.zero (by rfl) (by decide +kernel) (by decide +kernel) (by decide +kernel) (by rfl)) rfl (pi_list (pv 2)) (fun _ _ _ => pts_nil) (fun _ _ _ => (pe_fn F_number_of hr (by omega) (by rfl) (pa_cons (pv 0) pa_nil))))))))
  pss_nil)
 (pss_cons (ps_set (i := 3) sccodes.nd rfl (Or.inl rfl) (pe_lst (pa_cons pe_int (pa_cons (pe_callB (CallR.or call_len_seq call_len_str) (by rfl) m_len (by rfl) (pa_cons (pv 0) pa_nil)) pa_nil))))
 (pss_cons (ps_for PassesOwn.never rfl (pi_tup (pv 0)) (pg_name (i := 4) sccodes.nd rfl (Or.inl rfl))
  (pss_one (ps_expr (pe_bm PySem.F.plainAttrs_list PySem.F.slot_list_extend PySem.F.type_list_extend mt_extend (pv 3) (pa_cons (pe_fn F_codes hr (by omega) (by rfl) (pa_cons (pv 4) pa_nil)) pa_nil)))))
 (pss_one (ps_ret (pv 3)))))))), ?_⟩
    refine ⟨_, rfl, rfl, _, rfl, ?_⟩
    cases hrep with
    | non =>
      refine ifT (by decide) ?_
      refine ⟨szl (show 1 ≤ 1000 by decide), fun p hp => ?_⟩
      exact q p _ (Frm.new hp).same upd_same
    | int i =>
      refine ifF (by rfl) ?_
      refine ⟨_, rfl, _, _, _, _, rfl, .int i, rfl, _, rfl, ?_⟩
      refine ifT rfl ?_
      refine ⟨_, rfl, _, _, rfl, rfl, ⟨by decide, by decide, by decide⟩, _, _, rfl, rfl, ?_⟩
      refine ⟨_, rfl, _, _, rfl, rfl, ⟨by decide, by decide, by decide⟩, _, _, rfl, rfl, ⟨by decide +kernel, by decide +kernel⟩, _, rfl, _, _, rfl, rfl, ⟨by decide, by decide, by decide⟩, _, _, rfl, rfl, (show (0 : Int) < 10 ^ (15 : Int).toNat by decide +kernel), szl (show 3 ≤ 1000 by decide), fun p hp => ?_⟩
      exact q p _ (Frm.new hp).same upd_same
    | str x =>
      have hx : x.length ≤ 60 := hwf.1
      refine ifF (by rfl) ?_
      refine ⟨_, rfl, _, _, _, _, rfl, .str x, rfl, _, rfl, ?_⟩
      refine ifF rfl ?_
      refine ⟨_, rfl, _, _, _, _, rfl, .str x, rfl, _, rfl, ?_⟩
      refine ifT rfl ?_
      refine ⟨_, rfl, .inr ⟨x, rfl, szl (by omega), ?_⟩⟩
      refine ⟨_, _, rfl, by omega, by omega, by decide, by decide, fun p hp => ?_⟩
      rw [many7_div]
      refine comp_it (J := Itrs 0 7 (many7 x)) (n := many7 x) (fun i acc H' => acc = (List.range i).map (fun k => V.str (chunkS x k)) ∧ H' = upd H p (.lst acc)) ⟨rfl, rfl⟩ (by exact fun i acc H' hi _ => hi) (by exact fun acc H' _ => Nat.le_refl _) ?_ ?_
      · rintro i acc H' y H'' hi ⟨ha, rfl⟩ ⟨e1, e2⟩
        subst e1 e2
        refine tt1 ?_
        refine ⟨_, rfl, _, rfl, _, rfl, _, rfl, _, _, rfl, rfl, _, rfl, x, rfl, szl (by omega), ?_⟩
        have hal : acc.length = i := by rw [ha, List.length_map, List.length_range]
        refine ⟨upd_same, Nat.lt_of_lt_of_le (show acc.length < 1000 by unfold many7 at hi; omega) (szl (Nat.le_refl _)), nxt hi ⟨?_, upd_upd⟩⟩
        rw [List.range_succ, List.map_append, ha, cut_chunk hi]
        rfl
      · rintro acc H' ⟨ha, rfl⟩
        refine ⟨_, rfl, .inr ⟨x, rfl, szl (by omega), szl (show 2 ≤ 1000 by decide), fun p2 hp2 => ?_⟩⟩
        have np : p ≠ p2 := fun z => by rw [← z, upd_same] at hp2; cases hp2
        have ep : upd (upd H p (.lst acc)) p2 (.lst [.int 3, .int (x.length : Nat)]) p = some (.lst acc) := by rw [upd_ne np]; exact upd_same
        have hal : acc.length = many7 x := by rw [ha, List.length_map, List.length_range]
        refine ⟨_, rfl, p, rfl, ⟨_, SqL.of ep⟩, fun p3 hp3 => ?_⟩
        have np3 : p ≠ p3 := (ne_of_none ep hp3)
        have np23 : p2 ≠ p3 := (ne_of_none upd_same hp3)
        refine comp_it (n := many7 x) (fun i acc' H' => acc' = (List.range i).map (fun k => V.int (numOf (chunk x k))) ∧ H' = upd (upd (upd H p (.lst acc)) p2 (.lst [.int 3, .int (x.length : Nat)])) p3 (.lst acc')) ⟨rfl, rfl⟩ ?_ ?_ ?_ ?_
        · rintro i acc' H' hi ⟨_, rfl⟩
          exact ⟨acc, acc[i], SqL.of (by rw [upd_ne np3]; exact ep), by rw [List.getElem?_eq_getElem]⟩
        · rintro acc' H' ⟨_, rfl⟩
          exact ⟨acc, SqL.of (by rw [upd_ne np3]; exact ep), by omega⟩
        · rintro i acc' H' y H'' hi ⟨ha', rfl⟩ ⟨e1, e2⟩
          subst e1
          have ey := e2 acc (SqL.of (by rw [upd_ne np3]; exact ep))
          have ey2 : y = V.str (chunkS x i) := by
            rw [ha, List.getElem?_map, List.getElem?_range hi] at ey
            exact (Option.some.inj ey).symm
          subst ey2
          refine tt1 ?_
          refine ⟨_, rfl, _, rfl, upd_same, ?_, nxt hi ⟨?_, upd_upd⟩⟩
          · have : acc'.length = i := by rw [ha', List.length_map, List.length_range]
            exact Nat.lt_of_lt_of_le (show acc'.length < 1000 by unfold many7 at hi; omega) (szl (Nat.le_refl _))
          · rw [List.range_succ, List.map_append, ha']
            rfl
        · rintro acc' H' ⟨ha', rfl⟩
          have hal' : acc'.length = many7 x := by rw [ha', List.length_map, List.length_range]
          refine ⟨p2, p3, [.int 3, .int (x.length : Nat)], acc', rfl, rfl, by rw [upd_ne np23]; exact upd_same, upd_same, szl (show 2 + acc'.length ≤ 1000 by unfold many7 at hal'; omega), fun r hr' => ?_⟩
          refine q r _ (fun b o hb => ?_) ?_
          · have n1 := ne_of_none hb hp
            have e1 : upd H p (.lst acc) b = some o := by rw [upd_ne n1]; exact hb
            have n2 := ne_of_none e1 hp2
            have e2 : upd (upd H p (.lst acc)) p2 (.lst [.int 3, .int (x.length : Nat)]) b = some o := by rw [upd_ne n2]; exact e1
            have n3 := ne_of_none e2 hp3
            have e3 : upd (upd (upd H p (.lst acc)) p2 (.lst [.int 3, .int (x.length : Nat)])) p3 (.lst acc') b = some o := by rw [upd_ne n3]; exact e2
            rw [upd_ne (ne_of_none e3 hr')]
            exact e3
          · rw [upd_same, ha']
            show some (HO.lst ([V.int 3, V.int (x.length : Nat)] ++ _)) = some (HO.lst (([3, (x.length : Int)] ++ sevens x).map V.int))
            rw [List.map_append]
            unfold sevens
            rw [List.map_map]
            rfl
    | @tup a xs ts e hl hrs =>
      have hw : ts.length ≤ 40 := hwf.1
      refine ifF (by rfl) ?_
      refine ⟨_, rfl, _, _, _, _, rfl, .tup e, rfl, _, rfl, ?_⟩
      refine ifF rfl ?_
      refine ⟨_, rfl, _, _, _, _, rfl, .tup e, rfl, _, rfl, ?_⟩
      refine ifF rfl ?_
      refine ⟨_, rfl, .inl ⟨a, _, rfl, .inr (SqT.of e), szl (show 2 ≤ 1000 by decide), fun rw hrw => ?_⟩⟩
      have nra : a ≠ rw := ne_of_none e hrw
      have keepT : ∀ {H' : Hp}, Same H H' → Tups H H' := fun z => Same.tups z
      refine ⟨_, rfl, a, rfl, ⟨_, SqT.of (by rw [upd_ne nra]; exact e)⟩, ?_⟩
      refine for_tup (xs := xs) (fun i σ H' => ∃ kk, σ = [some (.ref a), none, none, some (.ref rw), kk] ∧ Same H H' ∧ H' rw = some (.lst (([4, (ts.length : Int)] ++ codesL (ts.take i)).map V.int))) ⟨_, rfl, (Frm.new hrw).same, ?_⟩ ?_ ?_ ?_
      · rw [upd_same, hl]
        rfl
      · rintro i σ H' hi ⟨kk, rfl, sm, er⟩
        exact SqT.of (sm _ _ e)
      · rintro i x σ H' hx ⟨kk, rfl, sm, er⟩
        have hil : i < ts.length := by rw [← hl]; exact (List.getElem?_eq_some_iff.mp hx).1
        have ht : ts[i]? = some ts[i] := List.getElem?_eq_getElem hil
        have hcl := codesL_len ts hwf.2
        have hcl' := codesL_take_len ts i
        have hcn : 1 + nodesL ts ≤ 100 := hnod
        have hsub : nodes ts[i] ≤ nodesL ts := nodesL_get ht
        refine ⟨_, rfl, .inl ⟨rfl, _, SqL.of er⟩, _, rfl, ts[i], x, rfl, (hrs i x _ hx ht).keep (keepT sm), hwf.2.get ht, ?_, by omega, fun r H2 sm2 er2 => ?_⟩
        · have := depL_get ht
          have : depL ts + 1 < n + 1 := hdep
          omega
        have hc1 := codes_len ts[i] (hwf.2.get ht)
        refine ⟨rw, r, _, _, rfl, rfl, sm2 _ _ er, er2, szL ?_, ?_⟩
        · simp only [List.length_map, List.length_append, List.length_cons, List.length_nil]
          omega
        · refine ⟨_, rfl, fun b o hb => ?_, ?_⟩
          · rw [upd_ne (ne_of_none hb hrw)]
            exact sm2 _ _ (sm _ _ hb)
          · rw [upd_same, codesL_take ht]
            simp only [List.map_append, List.append_assoc]
      · rintro σ H' ⟨kk, rfl, sm, er⟩
        refine ⟨_, rfl, q rw H' sm ?_⟩
        rw [er, hl, List.take_length]
        rfl
private theorem ok_seal (D : Dfn K mg "seal" sseal ["thing"]) (F_codes : Fn P w K mg base "codes" 12 ["thing"] (spCodes 10)) : Fn P w K mg base "seal" 13 ["thing"] spSeal := by
  refine D.ok (k := 12) scseal (fun vs H Q E h => ?_) (fun f cdv A outer s H vs Q E hr h => ?_)
  · obtain ⟨t, v, rfl, _⟩ := h; rfl
  obtain ⟨t, v, rfl, hrep, hwf, hdep, hnod, q⟩ := h
  refine ⟨_, (pss_cons (ps_set (i := 1) scseal.nd rfl (Or.inl rfl) pe_int)
 (pss_cons (ps_for PassesOwn.never rfl (pi_list (pe_fn F_codes hr (by omega) (by rfl) (pa_cons (pv 0) pa_nil))) (pg_name (i := 2) scseal.nd rfl (Or.inl rfl))
  (pss_one (ps_set (i := 1) scseal.nd rfl (Or.inl rfl) (pe_op op_mod (pe_op op_add (pe_op op_mul (pv 1) pe_int) (pv 2)) (pe_op op_sub (pe_op op_pow pe_int pe_int) pe_int)))))
 (pss_one (ps_ret (pe_op op_add (pv 1) pe_int))))), ?_⟩
  refine ⟨_, rfl, t, v, rfl, hrep, hwf, hdep, hnod, fun r H1 sm er => ?_⟩
  refine ⟨r, rfl, ⟨_, SqL.of er⟩, ?_⟩
  refine for_list (xs := (codesT t).map V.int) (fun i σ H' => H' = H1 ∧ ∃ kk, σ = [some v, some (.int (foldS ((codesT t).take i))), kk]) ⟨rfl, _, rfl⟩ ?_ ?_ ?_
  · rintro i σ H' _ ⟨rfl, _⟩
    exact SqL.of er
  · rintro i x σ H' hx ⟨rfl, kk, rfl⟩
    rw [List.getElem?_map] at hx
    obtain ⟨c, hc, rfl⟩ := Option.map_eq_some_iff.mp hx
    have rg := foldS_range ((codesT t).take i)
    have e61 : (2 : Int) ^ (61 : Int).toNat - 1 = 2305843009213693951 := by decide +kernel
    refine ⟨_, rfl, _, _, rfl, rfl, .inl ⟨by omega, by omega⟩, _, rfl, _, _, rfl, rfl, _, _, rfl, rfl, ⟨by decide, by decide, by decide⟩, _, _, rfl, rfl, _, _, rfl, rfl, (show (0 : Int) < 2 ^ (61 : Int).toNat - 1 by decide +kernel), rfl, some (.int c), ?_⟩
    rw [foldS_take hc, ← e61]
    rfl
  · rintro σ H' ⟨rfl, kk, rfl⟩
    refine ⟨_, rfl, _, _, rfl, rfl, ?_⟩
    rw [List.length_map, List.take_length]
    exact q _ sm
end
end Pv
set_option Elab.async false
set_option linter.all false
set_option maxRecDepth 100000
set_option maxHeartbeats 4000000
namespace Pv
open PySem L2
abbrev sVault___init__ : Stmt := inClass (top 23) 0
private theorem scVault___init__ : FnScope ["self"] ["self"] (defScope sVault___init__) := ⟨rfl, rfl, rfl, by decide +kernel, rfl, by decide +kernel, by decide +kernel⟩
abbrev sVault_refuse_clash : Stmt := inClass (top 23) 1
private theorem scVault_refuse_clash : FnScope ["self", "number", "thing"] ["self", "number", "thing"] (defScope sVault_refuse_clash) := ⟨rfl, rfl, rfl, by decide +kernel, rfl, by decide +kernel, by decide +kernel⟩
abbrev sVault_lay : Stmt := inClass (top 23) 2
private theorem scVault_lay : FnScope ["self", "thing", "number"] ["self", "thing"] (defScope sVault_lay) := ⟨rfl, rfl, rfl, by decide +kernel, rfl, by decide +kernel, by decide +kernel⟩
abbrev sVault_thing : Stmt := inClass (top 23) 3
private theorem scVault_thing : FnScope ["self", "number"] ["self", "number"] (defScope sVault_thing) := ⟨rfl, rfl, rfl, by decide +kernel, rfl, by decide +kernel, by decide +kernel⟩
abbrev sClash___init__ : Stmt := inClass (top 5) 0
private theorem scClash___init__ : FnScope ["self", "one", "other"] ["self", "one", "other"] (defScope sClash___init__) := ⟨rfl, rfl, rfl, by decide +kernel, rfl, by decide +kernel, by decide +kernel⟩
abbrev srising : Stmt := top 22
private theorem scrising : FnScope ["laid"] ["laid"] (defScope srising) := ⟨rfl, rfl, rfl, by decide +kernel, rfl, by decide +kernel, by decide +kernel⟩
abbrev sKeeper_things : Stmt := inClass (top 24) 0
private theorem scKeeper_things : FnScope ["self"] ["self"] (defScope sKeeper_things) := ⟨rfl, rfl, rfl, by decide +kernel, rfl, by decide +kernel, by decide +kernel⟩
structure Good (t : Th) : Prop where
  wf : Wf t
  dp : dep t ≤ 8
  nd : nodes t ≤ 80
structure Flds (fs : List (Str × V)) (d : Addr) : Prop where
  la : fs.lookup ("laid" : Str) = some (V.ref d)
  n1 : fs.lookup ("refuse_clash" : Str) = none
  n2 : fs.lookup ("lay" : Str) = none
  n3 : fs.lookup ("thing" : Str) = none
  n4 : fs.lookup ("things" : Str) = none
  n5 : fs.lookup ("paper" : Str) = none
private theorem flds1 (d : Addr) : Flds [("laid", .ref d)] d := ⟨rfl, rfl, rfl, rfl, rfl, rfl⟩
structure VOk (H : Hp) (C a d : Addr) (kvs : List (Key × V)) : Prop where
  ob : ∃ dx fs, H a = some (.ins C dx fs) ∧ Flds fs d
  di : H d = some (.dK kvs)
private theorem VOk.keep {H H' : Hp} {C a d : Addr} {kvs : List (Key × V)} (v : VOk H C a d kvs) (s : Same H H') : VOk H' C a d kvs := by
  obtain ⟨⟨dx, fs, e, f⟩, e2⟩ := v
  exact ⟨⟨dx, fs, s _ _ e, f⟩, s _ _ e2⟩
def LaidOk (H : Hp) (kvs : List (Key × V)) : Prop := ∀ (n : Int) (v : V), valV kvs (.inl n) = some v → ∃ t, Rep H t v ∧ Good t ∧ sealT t = n
private theorem LaidOk.keep {H H' : Hp} {kvs : List (Key × V)} (l : LaidOk H kvs) (s : Tups H H') : LaidOk H' kvs := fun n v e => by
  obtain ⟨t, r, g⟩ := l n v e
  exact ⟨t, r.keep s, g⟩
def ClashAt (E : XK) (CC : Addr) (H : Hp) (t1 t2 : Th) (v1 v2 : V) : Prop := ∀ (H' : Hp) (x : Addr), Same H H' → H' x = some (xdO x [("one", v1), ("other", v2)]) → E (.ref CC) (some x) H'
def spVInit (C : Addr) : Sp := fun vs H Q _ => ∃ (a dx : Addr), vs = [.ref a] ∧ H a = some (.ins C dx []) ∧ ∀ d, H d = none → Q .non (upd (upd H d (.dK [])) a (.ins C dx [("laid", .ref d)]))
def spCInit (CC : Addr) : Sp := fun vs H Q _ => ∃ (x : Addr) (v1 v2 : V), vs = [.ref x, v1, v2] ∧ H x = some (exO x CC none true) ∧
  ∀ d, H d = none → d ≠ x → Q .non (upd (upd (upd H d (xdO d [("one", v1)])) x (exO x CC (some d) true)) d (xdO d [("one", v1), ("other", v2)]))
def spRefuse (C CC : Addr) : Sp := fun vs H Q E => ∃ (a d : Addr) (kvs : List (Key × V)) (n : Int) (t : Th) (v : V), vs = [.ref a, .int n, v] ∧ VOk H C a d kvs ∧ LaidOk H kvs ∧ Rep H t v ∧ Good t ∧ sealT t = n ∧
  ((∀ t1 v1, valV kvs (.inl n) = some v1 → Rep H t1 v1 → t1 = t) → Q .non H) ∧
  (∀ t1 v1, valV kvs (.inl n) = some v1 → Rep H t1 v1 → Good t1 → sealT t1 = sealT t → t1 ≠ t → ClashAt E CC H t1 t v1 v)
def spLay (C CC : Addr) : Sp := fun vs H Q E => ∃ (a d : Addr) (kvs : List (Key × V)) (t : Th) (v : V), vs = [.ref a, v] ∧ VOk H C a d kvs ∧ LaidOk H kvs ∧ kvs.length ≤ 900 ∧ Rep H t v ∧ Good t ∧
  (∀ H', Same H H' → (∀ t1 v1, valV kvs (.inl (sealT t)) = some v1 → Rep H t1 v1 → t1 = t) → Q (.int (sealT t)) (upd H' d (.dK (putK kvs (.inl (sealT t)) v)))) ∧
  (∀ t1 v1 H', Same H H' → valV kvs (.inl (sealT t)) = some v1 → Rep H' t1 v1 → Good t1 → sealT t1 = sealT t → t1 ≠ t → ClashAt E CC H' t1 t v1 v)
def spThingV (C : Addr) : Sp := fun vs H Q _ => ∃ (a d : Addr) (kvs : List (Key × V)) (n : Int) (v : V), vs = [.ref a, .int n] ∧ VOk H C a d kvs ∧ valV kvs (.inl n) = some v ∧ Q v H
def spThingX (C CN : Addr) : Sp := fun vs H Q E => ∃ (a d : Addr) (kvs : List (Key × V)) (n : Int), vs = [.ref a, .int n] ∧ VOk H C a d kvs ∧ (∀ v, valV kvs (.inl n) = some v → Q v H) ∧ (valV kvs (.inl n) = none → E (.ref CN) none H)
def Risen (cs : List (Int × Th)) (H : Hp) (Q : VK) : Prop := ∀ (l : Addr) (ns : List Int) (xs : List V) (H' : Hp), Same H H' → H l = none → ns.Perm (cs.map (·.1)) → ns.Pairwise (· ≤ ·) → H' l = some (.lst xs) → RepL H' (worths cs ns) xs → Q (.ref l) H'
def spRising : Sp := fun vs H Q _ => ∃ (d : Addr) (kvs : List (Key × V)) (cs : List (Int × Th)), vs = [.ref d] ∧ H d = some (.dK kvs) ∧ DRep H cs kvs ∧ cs.length ≤ 64 ∧ Risen cs H Q
def spThings (C : Addr) : Sp := fun vs H Q _ => ∃ (a d : Addr) (kvs : List (Key × V)) (cs : List (Int × Th)), vs = [.ref a] ∧ VOk H C a d kvs ∧ DRep H cs kvs ∧ cs.length ≤ 64 ∧ Risen cs H Q
private theorem DRep.laidOk {H : Hp} {cs : List (Int × Th)} {kvs : List (Key × V)} (r : DRep H cs kvs) (g : ∀ p ∈ cs, Good p.2 ∧ sealT p.2 = p.1) : LaidOk H kvs := fun n v e => by
  obtain ⟨t, e1, rv⟩ := r.back e
  obtain ⟨g1, g2⟩ := g _ (lookT_mem e1)
  exact ⟨t, rv, g1, g2⟩
private theorem putF_two (v1 v2 : V) : putF ("other" : Str) v2 [(("one" : Str), v1)] = [(("one" : Str), v1), (("other" : Str), v2)] := by
  unfold putF
  rw [if_neg (by decide)]
  rfl
private theorem Rep.uniq {H : Hp} {t u : Th} {v : V} (r : Rep H t v) : Rep H u v → t = u := by
  induction r generalizing u with
  | non => intro q; cases q; rfl
  | int i => intro q; cases q; rfl
  | str x => intro q; cases q; rfl
  | @tup a xs ts e l h ih =>
    intro q
    cases q with
    | @tup _ ys us e' l' h' =>
      rw [e] at e'
      cases e'
      congr 1
      apply List.ext_getElem?
      intro i
      by_cases hi : i < ts.length
      · have h1 : ts[i]? = some ts[i] := List.getElem?_eq_getElem hi
        have h2 : us[i]? = some us[i] := List.getElem?_eq_getElem (by omega)
        have h3 : xs[i]? = some xs[i] := List.getElem?_eq_getElem (by omega)
        rw [h1, h2, ih i _ _ h3 h1 (h' i _ _ h3 h2)]
      · rw [List.getElem?_eq_none (by omega), List.getElem?_eq_none (by omega)]
section
variable {P : Program} {w : World} {K : PySem.W.Frag} {mg : Str → Option Value} {base : Heap} {C CC : Addr} {x : Str}
private theorem ok_vinit (D : Mkd K mg x C "Vault.__init__" sVault___init__ ["self"]) (c : Cls K C) (nl : NoAttr K C "laid") : Mkr P w K mg base x C 1 ["self"] (spVInit C) := by
  refine D.ok (k := 0) scVault___init__ (fun vs H Q E h => ?_) (fun f cdv A outer s H vs Q E hr h => ?_)
  · obtain ⟨a, dx, rfl, _⟩ := h; rfl
  obtain ⟨a, dx, rfl, ea, q⟩ := h
  refine ⟨_, (pss_one (ps_fld (pv 0) pe_dnewK (by rfl))), ?_⟩
  intro d hd
  exact ⟨_, rfl, a, C, dx, [], rfl, by rw [upd_ne (ne_of_none ea hd)]; exact ea, c, nl, by decide, q d hd⟩
private theorem ok_cinit (D : XId K mg "Clash" CC "Clash.__init__" sClash___init__ ["self", "one", "other"]) (n1 : NoAttr K CC "one") (n2 : NoAttr K CC "other") : XI P w K mg base "Clash" CC 1 ["self", "one", "other"] (spCInit CC) := by
  have c := D.cl
  refine D.ok (k := 0) scClash___init__ (fun vs H Q E h => ?_) (fun f cdv A outer s H vs Q E hr h => ?_)
  · obtain ⟨x, v1, v2, rfl, _⟩ := h; rfl
  obtain ⟨x, v1, v2, rfl, ex, q⟩ := h
  refine ⟨_, (pss_cons (ps_xf1 (pv 0) (pv 1) (by rfl))
 (pss_one (ps_xf2 (pv 0) (pv 2) (by rfl)))), ?_⟩
  refine ⟨_, rfl, _, rfl, x, CC, true, rfl, ex, c, n1, fun d hd hdx => ?_⟩
  refine ⟨_, rfl, _, rfl, x, CC, true, d, [("one", v1)], rfl, upd_same, by rw [upd_ne hdx]; exact upd_same, hdx, c, n2, (show (1 : Nat) < 1000 by decide), ?_⟩
  show Q .non (upd _ d (xdO d (putF "other" v2 [("one", v1)])))
  rw [putF_two]
  exact q d hd hdx
private theorem ok_refuse (D : Mdf K C "refuse_clash" "Vault.refuse_clash" sVault_refuse_clash ["self", "number", "thing"]) (X_Clash : XI P w K mg base "Clash" CC 1 ["self", "one", "other"] (spCInit CC)) (c : Cls K C) (nl : NoAttr K C "laid") :
    Mt P w K mg base (CX1 P w) C "refuse_clash" 3 ["self", "number", "thing"] (spRefuse C CC) := by
  refine D.okX (k := 2) scVault_refuse_clash (fun vs H Q E h => ?_) (fun f cdv A outer s H vs Q E hr h => ?_)
  · obtain ⟨a, d, kvs, n, t, v, rfl, _⟩ := h; rfl
  obtain ⟨a, d, kvs, n, t, v, rfl, vo, lo, rt, gt, sn, q, qe⟩ := h
  obtain ⟨⟨dx, fs, eo, fl⟩, ed⟩ := vo
  refine ⟨_, (pss_one (ps_if (PW.pt (pw_and (pt_cmp (pc_din (hu_of hr) (pv 1) (pe_fld (pv 0) (by rfl)))) (pw_and1 (pt_cmpR (op_neTh hr) (pe_dget (hu_of hr) (pe_fld (pv 0) (by rfl)) (pv 1) (fun _ _ => rfl)) (pv 2) (nomark _)))))
  (pss_one (ps_raise raise_fn rfl (pe_xi X_Clash hr (by omega) (by rfl) (pa_cons (pe_dget (hu_of hr) (pe_fld (pv 0) (by rfl)) (pv 1) (fun _ _ => rfl)) (pa_cons (pv 2) pa_nil)))))
  pss_nil)), ?_⟩
  refine ⟨_, rfl, _, rfl, a, C, dx, _, _, rfl, eo, c, nl, fl.la, d, _, rfl, DGet.k (k := Sum.inl n) ed, _, rfl, ?_⟩
  cases ev : valV kvs (Sum.inl n) with
  | none => exact ifF rfl (ifF rfl (q fun t1 v1 e => by rw [ev] at e; cases e))
  | some v1 =>
    obtain ⟨t1, r1, g1, s1⟩ := lo n v1 ev
    have gd := g1.dp
    have dg : DGet H d (.int n) (some v1) := by rw [← ev]; exact DGet.k (k := Sum.inl n) ed
    refine ifT rfl ?_
    refine ⟨_, rfl, a, C, dx, _, _, rfl, eo, c, nl, fl.la, _, rfl, d, v1, rfl, dg, _, rfl, t1, t, r1, rt, by omega, _, rfl, ?_⟩
    refine ifB (fun cc => ?_) (fun cc => ?_)
    · have ne : t1 ≠ t := fun z => by rw [z, eqT_refl] at cc; cases cc
      refine ⟨_, rfl, a, C, dx, _, _, rfl, eo, c, nl, fl.la, _, rfl, d, v1, rfl, dg, _, rfl, szl (show 2 ≤ 1000 by decide), fun x hx => ?_⟩
      refine ⟨x, v1, v, rfl, upd_same, fun d' hd' hdx => ⟨rfl, ?_⟩⟩
      have hd2 : H d' = none := by rw [upd_ne hdx] at hd'; exact hd'
      refine ⟨x, CC, some d', rfl, by rw [upd_ne (Ne.symm hdx)]; exact upd_same, X_Clash.cl.q, ?_⟩
      refine qe t1 v1 ev r1 g1 (s1.trans sn.symm) ne _ d' (fun b o hb => ?_) ?_
      · have b1 : b ≠ x := ne_of_none hb hx
        have b2 : b ≠ d' := ne_of_none hb hd2
        rw [del_ne b1, upd_ne b2, upd_ne b1, upd_ne b2, upd_ne b1]; exact hb
      · rw [del_ne hdx]; exact upd_same
    · have eq : t1 = t := (eqT_iff t1 t).mp (by cases z : eqT t1 t with | true => rfl | false => rw [z] at cc; cases cc)
      exact q fun t2 v2 e r2 => by rw [ev] at e; cases e; exact (r2.uniq r1).trans eq
private theorem ok_lay (D : Mdf K C "lay" "Vault.lay" sVault_lay ["self", "thing"]) (M_refuse_clash : Mt P w K mg base (CX1 P w) C "refuse_clash" 3 ["self", "number", "thing"] (spRefuse C CC)) (F_seal : Fn P w K mg base "seal" 13 ["thing"] spSeal) (c_K : Cls K C) (nl : NoAttr K C "laid") :
    Mt P w K mg base (CX1 P w) C "lay" 14 ["self", "thing"] (spLay C CC) := by
  refine D.okX (k := 13) scVault_lay (fun vs H Q E h => ?_) (fun f cdv A outer s H vs Q E hr h => ?_)
  · obtain ⟨a, d, kvs, t, v, rfl, _⟩ := h; rfl
  obtain ⟨a, d, kvs, t, v, rfl, vo, lo, hl, rt, gt, q, qe⟩ := h
  have gd := gt.dp
  have gn := gt.nd
  refine ⟨_, (pss_cons (ps_set (i := 2) scVault_lay.nd rfl (Or.inl rfl) (pe_fn F_seal hr (by omega) (by rfl) (pa_cons (pv 1) pa_nil)))
 (pss_cons (ps_expr (pe_mt (pv 0) c_K M_refuse_clash hr (by omega) pass_fn (pa_cons (pv 2) (pa_cons (pv 1) pa_nil))))
 (pss_cons (ps_dput (hu_of hr) (pe_fld (pv 0) (by rfl)) (pv 2) (pv 1) (by rfl))
 (pss_one (ps_ret (pv 2)))))), ?_⟩
  refine ⟨_, rfl, t, v, rfl, rt, gt.wf, by omega, by omega, fun H1 s1 => ?_⟩
  have vo1 := vo.keep s1
  obtain ⟨⟨dx, fs, eo, fl⟩, ed⟩ := id vo1
  have rt1 := rt.keep (Same.tups s1)
  refine ⟨_, rfl, a, dx, _, rfl, eo, fl.n1, _, rfl, _, rfl, a, d, kvs, _, t, v, rfl, vo1, lo.keep (Same.tups s1), rt1, gt, rfl, fun same => ?_, fun t1 v1 ev r1 g1 sn ne => qe t1 v1 H1 s1 ev r1 g1 sn ne⟩
  refine ⟨_, rfl, _, rfl, a, C, dx, _, _, rfl, eo, c_K, nl, fl.la, _, rfl, d, _, rfl, DPut.k (k := Sum.inl (sealT t)) ed (Nat.lt_of_le_of_lt hl (by decide)), ?_⟩
  exact ⟨_, rfl, q H1 s1 fun t1 v1 e r => same t1 v1 e (r.keep (Same.tups s1))⟩
private theorem ok_thingX {CN : Addr} (D : Mdf K C "thing" "Vault.thing" sVault_thing ["self", "number"]) (X_NoPaper : XP K mg "NoPaper" CN) (c : Cls K C) (nl : NoAttr K C "laid") : Mt P w K mg base (CX1 P w) C "thing" 1 ["self", "number"] (spThingX C CN) := by
  refine D.okX (k := 0) scVault_thing (fun vs H Q E h => ?_) (fun f cdv A outer s H vs Q E hr h => ?_)
  · obtain ⟨a, d, kvs, n, rfl, _⟩ := h; rfl
  obtain ⟨a, d, kvs, n, rfl, ⟨⟨dx, fs, eo, fl⟩, ed⟩, q, qe⟩ := h
  refine ⟨_, (pss_cons (ps_if (pt_cmp (pc_dnotin (hu_of hr) (pv 1) (pe_fld (pv 0) (by rfl))))
  (pss_one (ps_raise raise_fn rfl (pe_xp X_NoPaper (by rfl) (pa_cons pe_str pa_nil))))
  pss_nil)
 (pss_one (ps_ret (pe_dget (hu_of hr) (pe_fld (pv 0) (by rfl)) (pv 1) (fun _ _ => rfl))))), ?_⟩
  refine ⟨_, rfl, _, rfl, a, C, dx, _, _, rfl, eo, c, nl, fl.la, d, _, rfl, DGet.k (k := Sum.inl n) ed, _, rfl, ?_⟩
  cases ev : valV kvs (Sum.inl n) with
  | none =>
    refine ifT rfl ⟨szl (show 1 ≤ 1000 by decide), fun e he => ⟨e, CN, none, rfl, upd_same, X_NoPaper.cl.q, ?_⟩⟩
    rw [del_upd he]
    exact qe ev
  | some v =>
    have dg : DGet H d (.int n) (some v) := by rw [← ev]; exact DGet.k (k := Sum.inl n) ed
    refine ifF rfl ?_
    exact ⟨_, rfl, a, C, dx, _, _, rfl, eo, c, nl, fl.la, _, rfl, d, v, rfl, dg, q v ev⟩
private theorem risen {cs : List (Int × Th)} {kvs : List (Key × V)} {H : Hp} {d l : Addr} {ns : List Int} (r : DRep H cs kvs) (hl : H l = none) (hp : ns.Perm (keysI kvs)) : ns.Perm (cs.map (·.1)) ∧ ∀ n ∈ ns, ∃ t v, lookT cs n = some t ∧ valV kvs (.inl n) = some v ∧ Rep H t v := by
  rw [r.keys.1] at hp
  refine ⟨hp, fun n hn => ?_⟩
  obtain ⟨t, e⟩ := lookT_key (hp.subset hn)
  obtain ⟨v, e', rv⟩ := r.some e
  exact ⟨t, v, e, e', rv⟩
private theorem ok_rising (D : Dfn K mg "rising" srising ["laid"]) (m_sorted : mg "sorted" = none) : Fn P w K mg base "rising" 1 ["laid"] spRising := by
  refine D.ok (k := 0) scrising (fun vs H Q E h => ?_) (fun f cdv A outer s H vs Q E hr h => ?_)
  · obtain ⟨d, kvs, cs, rfl, _⟩ := h; rfl
  obtain ⟨d, kvs, cs, rfl, ed, dr, h64, q⟩ := h
  refine ⟨_, (pss_one (ps_ret (pe_lcomp (CompScope.one (y := "laid") (j := 0) (c := s.heap.objs.size + 1) (by rfl) (by rfl) (by decide +kernel) (by decide +kernel) (by rfl) (by decide +kernel) (by rfl) (by decide +kernel) (by rfl) (by first | exact Or.inl rfl | exact Or.inr rfl) (by first | exact Or.inl rfl | exact Or.inr rfl)) rfl (pi_list (pe_callB (call_sortedD64 rfl) (by rfl) m_sorted (by rfl) (pa_cons (pv 0) pa_nil))) (fun _ _ _ => pts_nil) (fun _ _ _ => (pe_dget (hu_of hr) (pv 1) (pv 0) (fun _ _ => rfl)))))), ?_⟩
  refine ⟨_, rfl, d, kvs, rfl, ed, dr.keys.2, by rw [dr.len]; exact h64, fun l ns hl hp hs => ?_⟩
  obtain ⟨hp', all⟩ := risen (d := d) dr hl hp
  have e1 : upd H l (.lst (ns.map V.int)) l = some (.lst (ns.map V.int)) := upd_same
  have s1 : Same H (upd H l (.lst (ns.map V.int))) := same_new (Same.refl H) hl
  generalize upd H l (.lst (ns.map V.int)) = H1 at e1 s1
  refine ⟨l, rfl, ⟨_, SqL.of e1⟩, fun p hp1 => ?_⟩
  have hn64 : ns.length ≤ 64 := by rw [hp'.length_eq, List.length_map]; exact h64
  refine comp_it (n := ns.length) (fun i acc H' => Same H1 H' ∧ H' p = some (.lst acc) ∧ acc.length = i ∧ RepL H' (worths cs (ns.take i)) acc) ⟨same_new (Same.refl H1) hp1, upd_same, rfl, .nil⟩ ?_ ?_ ?_ ?_
  · rintro i acc H' hi ⟨sm, ep, la, rr⟩
    exact ⟨ns.map V.int, .int ns[i], SqL.of (sm _ _ e1), by rw [List.getElem?_map, List.getElem?_eq_getElem hi]; rfl⟩
  · rintro acc H' ⟨sm, ep, la, rr⟩
    exact ⟨ns.map V.int, SqL.of (sm _ _ e1), by rw [List.length_map]; exact Nat.le_refl _⟩
  · rintro i acc H' y H'' hi ⟨sm, ep, la, rr⟩ ⟨z1, z2⟩
    subst z1
    have ey := z2 (ns.map V.int) (SqL.of (sm _ _ e1))
    have ey2 : y = V.int ns[i] := by
      rw [List.getElem?_map, List.getElem?_eq_getElem hi] at ey
      exact (Option.some.inj ey).symm
    subst ey2
    obtain ⟨t, v, lt, lv, rv⟩ := all ns[i] (List.getElem_mem hi)
    have dg : DGet H'' d (.int ns[i]) (some v) := by rw [← lv]; exact DGet.k (k := Sum.inl ns[i]) (sm _ _ (s1 _ _ ed))
    refine tt1 ?_
    refine ⟨_, rfl, _, rfl, d, v, rfl, dg, ep, Nat.lt_of_lt_of_le (show acc.length < 1000 by omega) (szl (Nat.le_refl _)), nxt hi ⟨same_upd sm hp1, upd_same, by rw [List.length_append, la]; rfl, ?_⟩⟩
    have tk : Tups H'' (upd H'' p (.lst (acc ++ [v]))) := Tups.upd fun xs z => by rw [ep] at z; cases z
    have ew : worths cs (ns.take (i + 1)) = worths cs (ns.take i) ++ [t] := by
      unfold worths
      rw [List.take_add_one, List.getElem?_eq_getElem hi, List.map_append]
      show _ ++ [(lookT cs ns[i]).getD .non] = _
      rw [lt]; rfl
    rw [ew]
    exact RepL.snoc ((rv.keep (Same.tups (fun b o e => sm b o (s1 b o e)))).keep tk) (rr.keep tk)
  · rintro acc H' ⟨sm, ep, la, rr⟩
    rw [List.take_length] at rr
    refine q p ns acc H' (fun b o e => sm b o (s1 b o e)) ?_ hp' hs ep rr
    cases z : H p with
    | none => rfl
    | some o => rw [s1 _ _ z] at hp1; cases hp1
private theorem ok_things (D : Mdf K C "things" "Keeper.things" sKeeper_things ["self"]) (F_rising : Fn P w K mg base "rising" 1 ["laid"] spRising) (c : Cls K C) (nl : NoAttr K C "laid") : Mt P w K mg base CX0 C "things" 2 ["self"] (spThings C) := by
  refine D.ok (k := 1) scKeeper_things (fun vs H Q E h => ?_) (fun f cdv A outer s H vs Q E hr h => ?_)
  · obtain ⟨a, d, kvs, cs, rfl, _⟩ := h; rfl
  obtain ⟨a, d, kvs, cs, rfl, ⟨⟨dx, fs, eo, fl⟩, ed⟩, dr, h64, q⟩ := h
  exact ⟨_, (pss_one (ps_ret (pe_fn F_rising hr (by omega) (by rfl) (pa_cons (pe_fld (pv 0) (by rfl)) pa_nil)))), _, rfl, a, C, dx, _, _, rfl, eo, c, nl, fl.la, d, kvs, cs, rfl, ed, dr, h64, q⟩
end
end Pv
set_option Elab.async false
set_option linter.all false
set_option maxRecDepth 100000
set_option maxHeartbeats 4000000
namespace Pv
open PySem L2
def addT (cs : List (Int × Th)) (n : Int) (t : Th) : List (Int × Th) := match lookT cs n with | none => cs ++ [(n, t)] | some _ => cs
def Fits (cs : List (Int × Th)) (n : Int) (t : Th) : Prop := lookT cs n = none ∨ lookT cs n = some t
structure GoodC (cs : List (Int × Th)) : Prop where
  nd : (cs.map (·.1)).Nodup
  gd : ∀ p ∈ cs, Good p.2 ∧ sealT p.2 = p.1
private theorem addT_new {cs : List (Int × Th)} {n : Int} {t : Th} (h : lookT cs n = none) : addT cs n t = cs ++ [(n, t)] := by unfold addT; rw [h]
private theorem addT_old {cs : List (Int × Th)} {n : Int} {t u : Th} (h : lookT cs n = some u) : addT cs n t = cs := by unfold addT; rw [h]
private theorem addT_len (cs : List (Int × Th)) (n : Int) (t : Th) : (addT cs n t).length ≤ cs.length + 1 := by
  cases e : lookT cs n with
  | none => rw [addT_new e, List.length_append]; exact Nat.le_refl _
  | some u => rw [addT_old e]; omega
private theorem DRep.add {H : Hp} {cs : List (Int × Th)} {kvs : List (Key × V)} {n : Int} {t : Th} {v : V} (r : DRep H cs kvs) (h : Rep H t v) (f : Fits cs n t) (nd : (cs.map (·.1)).Nodup) : DRep H (addT cs n t) (putK kvs (.inl n) v) := by
  rcases f with f | f
  · rw [addT_new f]; exact r.put h f
  · rw [addT_old f]; exact r.again h f nd
private theorem GoodC.add {cs : List (Int × Th)} {n : Int} {t : Th} (g : GoodC cs) (gt : Good t) (sn : sealT t = n) : GoodC (addT cs n t) := by
  cases e : lookT cs n with
  | some u => rw [addT_old e]; exact g
  | none =>
    rw [addT_new e]
    refine ⟨?_, fun p hp => ?_⟩
    · rw [List.map_append, List.nodup_append]
      refine ⟨g.nd, by simp, fun a ha b hb => ?_⟩
      cases List.mem_singleton.mp hb
      exact fun z => lookT_none e (by have z' : a = n := z; rw [← z']; exact ha)
    · rcases List.mem_append.mp hp with h | h
      · exact g.gd p h
      · cases List.mem_singleton.mp h
        exact ⟨gt, sn⟩
private theorem GoodC.nil : GoodC [] := ⟨List.nodup_nil, fun p h => by cases h⟩
private theorem GoodC.dep {cs : List (Int × Th)} {n : Int} {t : Th} (g : GoodC cs) (e : lookT cs n = some t) : Good t ∧ sealT t = n := g.gd _ (lookT_mem e)
private theorem lookT_added {cs : List (Int × Th)} {n : Int} {t : Th} (f : Fits cs n t) : lookT (addT cs n t) n = some t := by
  rcases f with f | f
  · rw [addT_new f, lookT_snoc, f]; exact if_pos rfl
  · rw [addT_old f]; exact f
end Pv
set_option Elab.async false
set_option linter.all false
set_option maxRecDepth 100000
set_option maxHeartbeats 4000000
namespace L2
open PySem PySem.Spec PyProof.Rows Px
structure MkrX (P : Program) (w : World) (K : PySem.W.Frag) (mg : Str → Option Value) (base : Heap) (x : Str) (C : Addr) (k : Nat) (ps : List Str) (sp : Sp) : Prop where
  ex : ∃ f fd, FnOk P w K mg base (CX1 P w) k f fd ps sp ∧ Binds K fd ps [] ∧ Mk K C f ∧ mg x = some (.ref C)
section
variable {P : Program} {w : World} {K : PySem.W.Frag} {mg : Str → Option Value} {base : Heap} {x qual : Str} {C : Addr} {st : Stmt} {ps N : List Str} {sp : Sp} {k : Nat}
private theorem Mkd.okX (D : Mkd K mg x C qual st ps) (S : FnScope N ps (defScope st)) (len : ∀ vs H Q E, sp vs H Q E → vs.length = ps.length)
    (hbody : ∀ (f : Addr) (cdv : Value) (A : Around) (outer : List Env) (s : Shared) (H : Hp) (vs : List V) (Q : VK) (E : XK), Room k (A.deeper (envOfC qual (defScope st) s.heap.objs.size f cdv)) → sp vs H Q E →
      ∃ t, PSs (cxOf (CX1 P w) P w K mg base N qual (defScope st) f cdv A outer s H E) (defBody st) t ∧ t { nx := fun _ H' => Q .non H', rt := Q } (start N vs) H) : MkrX P w K mg base x C (k + 1) ps sp := by
  obtain ⟨f, fd, F, b, mk, mm⟩ := D.ex
  exact ⟨f, fd, F.okX S len (fun cdv A outer s H vs Q E hr h => hbody f cdv A outer s H vs Q E hr h), b, mk, mm⟩
end
def tMakeS (C : Addr) (sp : Sp) (E : St → XK) (t : TA) : TE := fun σ H Q => t σ H fun vs H1 => ∀ x dx, H1 x = none → H1 dx = none → dx ≠ x →
  sp (.ref x :: vs) (upd (upd H1 dx (.own x)) x (.ins C dx [])) (fun v H2 => v = .non ∧ Q (.ref x) H2) (E σ)
section
variable {X : Cx} {CX : CXT} {x : Str} {C f : Addr} {fd : FuncData} {ps : List Str} {sp : Sp} {k k' : Nat} {e : Expr} {es : List Expr} {t : TA} {p pos : Pos} {E : XK} {ES : St → XK}
end
section
variable {X : Cx} {K : PySem.W.Frag} {o e : Expr} {es : List Expr} {to : TE} {t : TA} {name : Str} {apos cpos : Pos} {T id : String} {r : V → List V → Hp → VK → Prop}
private theorem call_isinstXK (h : X.K = K) : CallR X (.builtin "isinstance") (rInstX K) := h ▸ call_isinstX
end
end L2
set_option Elab.async false
set_option linter.all false
set_option maxRecDepth 100000
set_option maxHeartbeats 4000000
namespace Pv
open PySem L2
abbrev s_law_refused : Stmt := top 31
private theorem sc_law_refused : FnScope ["vault", "number", "right", "other", "e"] ["vault", "number"] (defScope s_law_refused) := ⟨rfl, rfl, rfl, by decide +kernel, rfl, by decide +kernel, by decide +kernel⟩
structure RfsOk (K : PySem.W.Frag) (CV CNoPaper CBadThing CClash CNoColumn CNoCommand CNoName CNoPlan CNoQuestion CNoRow CNoState CNoStep CNoTable CNoThing CNotOn CNotSo : Addr) : Prop where
  kd : XKind K CNoPaper
  em : PySem.W.exmOne K (.ref CNoPaper) (.ref CV) = some true
  k1 : PySem.W.kitOne K (.ref CNoPaper) (.ref CNoPaper) = some true
  k2 : PySem.W.kitOne K (.ref CNoPaper) (.type "ValueError") = some true
  k3 : PySem.W.kitAny K (.ref CNoPaper) [.ref CBadThing, .ref CClash, .ref CNoColumn, .ref CNoCommand, .ref CNoName, .ref CNoPlan, .ref CNoQuestion, .ref CNoRow, .ref CNoState] = some false
  k4 : PySem.W.kitAny K (.ref CNoPaper) [.ref CNoStep, .ref CNoTable, .ref CNoThing, .ref CNotOn, .ref CNotSo] = some false
def spRfs (Ws : List Addr) : Sp := fun vs H Q _ => ∃ (W a d : Addr) (kvs : List (Key × V)) (n : Int), W ∈ Ws ∧ vs = [.ref a, .int n] ∧ VOk H W a d kvs ∧ valV kvs (.inl n) = none ∧ ∀ H', Same H H' → Q (.bl true) H'
section
variable {P : Program} {w : World} {K : PySem.W.Frag} {mg : Str → Option Value} {base : Heap} {Ws : List Addr} {CVaultError CNoPaper CBadThing CClash CNoColumn CNoCommand CNoName CNoPlan CNoQuestion CNoRow CNoState CNoStep CNoTable CNoThing CNotOn CNotSo : Addr}
private theorem ok_rfs (D : Dfn K mg "_law_refused" s_law_refused ["vault", "number"]) (M : ∀ W ∈ Ws, Mt P w K mg base (CX1 P w) W "thing" 1 ["self", "number"] (spThingX W CNoPaper)) (Cc : ∀ W ∈ Ws, Cls K W) (ko : RfsOk K CVaultError CNoPaper CBadThing CClash CNoColumn CNoCommand CNoName CNoPlan CNoQuestion CNoRow CNoState CNoStep CNoTable CNoThing CNotOn CNotSo)
    (c_VaultError : mg "VaultError" = some (.ref CVaultError)) (c_NoPaper : mg "NoPaper" = some (.ref CNoPaper)) (c_BadThing : mg "BadThing" = some (.ref CBadThing)) (c_Clash : mg "Clash" = some (.ref CClash)) (c_NoColumn : mg "NoColumn" = some (.ref CNoColumn)) (c_NoCommand : mg "NoCommand" = some (.ref CNoCommand)) (c_NoName : mg "NoName" = some (.ref CNoName)) (c_NoPlan : mg "NoPlan" = some (.ref CNoPlan)) (c_NoQuestion : mg "NoQuestion" = some (.ref CNoQuestion)) (c_NoRow : mg "NoRow" = some (.ref CNoRow)) (c_NoState : mg "NoState" = some (.ref CNoState)) (c_NoStep : mg "NoStep" = some (.ref CNoStep)) (c_NoTable : mg "NoTable" = some (.ref CNoTable)) (c_NoThing : mg "NoThing" = some (.ref CNoThing)) (c_NotOn : mg "NotOn" = some (.ref CNotOn)) (c_NotSo : mg "NotSo" = some (.ref CNotSo))
    (m_isinstance : mg "isinstance" = none) (m_ValueError : mg "ValueError" = none) : Fn P w K mg base "_law_refused" 3 ["vault", "number"] (spRfs Ws) := by
  refine D.ok (k := 2) sc_law_refused (fun vs H Q E h => ?_) (fun f cdv A outer s H vs Q E hr h => ?_)
  · obtain ⟨W, a, d, kvs, n, _, rfl, _⟩ := h; rfl
  obtain ⟨W, a, d, kvs, n, hW, rfl, vo, hv, q⟩ := h
  have M_thing := M W hW
  have c_W := Cc W hW
  refine ⟨_, (pss_cons (ps_set (i := 2) sc_law_refused.nd rfl (Or.inl rfl) pe_bl)
 (pss_cons (ps_set (i := 3) sc_law_refused.nd rfl (Or.inl rfl) pe_bl)
 (pss_cons (ps_tryAs (i := 4) rfl rfl sc_law_refused.nd rfl rfl (by rfl) c_VaultError (fun xe pn E hx => (pss_one (ps_expr (pe_mtS (pv 0) c_W M_thing hr (by omega) hx (pa_cons (pv 1) pa_nil))))) (fun e => (pss_cons (ps_set (i := 2) sc_law_refused.nd rfl (Or.inl rfl) (pe_and (pe_callB (call_isinstXK (K := K) rfl) (by rfl) m_isinstance (by rfl) (pa_cons (pv 4) (pa_cons (pe_glob (v := .ref CNoPaper) (by rfl) c_NoPaper rfl) pa_nil))) (pe_one (pe_callB (call_isinstXK (K := K) rfl) (by rfl) m_isinstance (by rfl) (pa_cons (pv 4) (pa_cons (pe_bltn (v := .ty "ValueError") (by rfl) m_ValueError (by rfl) rfl) pa_nil))))))
 (pss_cons (ps_set (i := 3) sc_law_refused.nd rfl (Or.inl rfl) (pe_callB (call_isinstXK (K := K) rfl) (by rfl) m_isinstance (by rfl) (pa_cons (pv 4) (pa_cons (pe_tup (pa_cons (pe_glob (v := .ref CBadThing) (by rfl) c_BadThing rfl) (pa_cons (pe_glob (v := .ref CClash) (by rfl) c_Clash rfl) (pa_cons (pe_glob (v := .ref CNoColumn) (by rfl) c_NoColumn rfl) (pa_cons (pe_glob (v := .ref CNoCommand) (by rfl) c_NoCommand rfl) (pa_cons (pe_glob (v := .ref CNoName) (by rfl) c_NoName rfl) (pa_cons (pe_glob (v := .ref CNoPlan) (by rfl) c_NoPlan rfl) (pa_cons (pe_glob (v := .ref CNoQuestion) (by rfl) c_NoQuestion rfl) (pa_cons (pe_glob (v := .ref CNoRow) (by rfl) c_NoRow rfl) (pa_cons (pe_glob (v := .ref CNoState) (by rfl) c_NoState rfl) pa_nil)))))))))) pa_nil))))
 (pss_one (ps_set (i := 3) sc_law_refused.nd rfl (Or.inl rfl) (pe_or (pv 3) (pe_one (pe_callB (call_isinstXK (K := K) rfl) (by rfl) m_isinstance (by rfl) (pa_cons (pv 4) (pa_cons (pe_tup (pa_cons (pe_glob (v := .ref CNoStep) (by rfl) c_NoStep rfl) (pa_cons (pe_glob (v := .ref CNoTable) (by rfl) c_NoTable rfl) (pa_cons (pe_glob (v := .ref CNoThing) (by rfl) c_NoThing rfl) (pa_cons (pe_glob (v := .ref CNotOn) (by rfl) c_NotOn rfl) (pa_cons (pe_glob (v := .ref CNotSo) (by rfl) c_NotSo rfl) pa_nil)))))) pa_nil)))))))))))
 (pss_one (ps_ret (pe_and (pv 2) (pe_one (pe_not (pv 3))))))))), ?_⟩
  obtain ⟨⟨dx, fs, eo, fl⟩, ed⟩ := id vo
  refine ⟨_, rfl, a, dx, fs, rfl, eo, fl.n3, _, rfl, a, d, kvs, n, rfl, vo, fun v e => (by rw [hv] at e; cases e), fun e1 => ⟨CNoPaper, rfl, ko.em, fun e he => ?_⟩⟩
  have s3 := same_new (o := exO e CNoPaper none false) (Same.refl H) he
  have ee : upd H e (exO e CNoPaper none false) e = some (exO e CNoPaper none false) := upd_same
  generalize upd H e (exO e CNoPaper none false) = H3 at s3 ee
  have ho : ∀ H' : Hp, ∀ d, (none : Option Addr) = some d → ∃ l, H' d = some (xdO d l) := fun H' d z => by cases z
  refine ⟨_, rfl, e, CNoPaper, none, false, _, true, rfl, ee, ko.kd, ho _, ⟨_, rfl, ifT rfl ?_⟩, .inr (.inl ⟨_, rfl, ko.k1⟩)⟩
  refine ⟨_, rfl, e, CNoPaper, none, false, _, true, rfl, ee, ko.kd, ho _, ?_, .inl ⟨_, rfl, ko.k2⟩⟩
  refine ⟨_, rfl, szl (show 9 ≤ 1000 by decide), fun p hp => ?_⟩
  generalize hts : [V.ref CBadThing, .ref CClash, .ref CNoColumn, .ref CNoCommand, .ref CNoName, .ref CNoPlan, .ref CNoQuestion, .ref CNoRow, .ref CNoState] = ts
  have et : upd H3 p (.tup ts) p = some (.tup ts) := upd_same
  have e2 : upd H3 p (.tup ts) e = some (exO e CNoPaper none false) := by rw [upd_ne (ne_of_none ee hp)]; exact ee
  have s4 : Same H (upd H3 p (.tup ts)) := same_new s3 hp
  generalize upd H3 p (.tup ts) = H4 at et e2 s4
  refine ⟨e, CNoPaper, none, false, _, false, rfl, e2, ko.kd, ho _, ?_, .inr (.inr ⟨p, ts, rfl, et, ?_, ?_⟩)⟩
  · refine ⟨_, rfl, _, rfl, ifF rfl ?_⟩
    refine ⟨_, rfl, szl (show 5 ≤ 1000 by decide), fun p' hp' => ?_⟩
    generalize hus : [V.ref CNoStep, .ref CNoTable, .ref CNoThing, .ref CNotOn, .ref CNotSo] = us
    have et' : upd H4 p' (.tup us) p' = some (.tup us) := upd_same
    have e3 : upd H4 p' (.tup us) e = some (exO e CNoPaper none false) := by rw [upd_ne (ne_of_none e2 hp')]; exact e2
    have s5 : Same H (upd H4 p' (.tup us)) := same_new s4 hp'
    generalize upd H4 p' (.tup us) = H5 at et' e3 s5
    refine ⟨e, CNoPaper, none, false, _, false, rfl, e3, ko.kd, ho _, ?_, .inr (.inr ⟨p', us, rfl, et', ?_, ?_⟩)⟩
    · exact ⟨_, rfl, _, rfl, ifT rfl ⟨_, rfl, _, rfl, q _ s5⟩⟩
    · intro v hv
      rw [← hus] at hv
      simp only [List.mem_cons, List.not_mem_nil, or_false] at hv
      rcases hv with rfl | rfl | rfl | rfl | rfl <;> exact .inr ⟨_, rfl⟩
    · rw [← hus]; exact ko.k4
  · intro v hv
    rw [← hts] at hv
    simp only [List.mem_cons, List.not_mem_nil, or_false] at hv
    rcases hv with rfl | rfl | rfl | rfl | rfl | rfl | rfl | rfl | rfl <;> exact .inr ⟨_, rfl⟩
  · rw [← hts]; exact ko.k3
end
end Pv
set_option Elab.async false
set_option linter.all false
set_option maxRecDepth 100000
set_option maxHeartbeats 4000000
namespace Pv
open PySem L2
abbrev s_law_new : Stmt := top 34
private theorem sc_law_new : FnScope ["jar", "new", "k"] ["jar"] (defScope s_law_new) := ⟨rfl, rfl, rfl, by decide +kernel, rfl, by decide +kernel, by decide +kernel⟩
def spNew : Sp := fun vs H Q _ => ∃ (row : Addr), vs = [.ref row] ∧ RowV H row ∧ ∀ (t : Th) (v : V) (H' : Hp), Good t → Frm [row] H H' → RowV H' row → Rep H' t v → Q v H'
section
variable {P : Program} {w : World} {K : PySem.W.Frag} {mg : Str → Option Value} {base : Heap}
private theorem ok_new (D : Dfn K mg "_law_new" s_law_new ["jar"]) (F_law_take : Fn P w K mg base "_law_take" 1 ["row", "many"] spTake) (F_law_thing : Fn P w K mg base "_law_thing" 6 ["row", "deep"] (spThing 4)) (m_range : mg "range" = none) : Fn P w K mg base "_law_new" 7 ["jar"] spNew := by
  refine D.ok (k := 6) sc_law_new (fun vs H Q E h => ?_) (fun f cdv A outer s H vs Q E hr h => ?_)
  · obtain ⟨row, rfl, _⟩ := h; rfl
  obtain ⟨row, rfl, R0, q⟩ := h
  refine ⟨_, (pss_cons (ps_set (i := 1) sc_law_new.nd rfl (Or.inl rfl) (pe_fn F_law_thing hr (by omega) (by rfl) (pa_cons (pv 0) (pa_cons pe_int pa_nil))))
 (pss_cons (ps_for PassesOwn.never rfl (pi_range1 rfl m_range (pa_cons (pe_fn F_law_take hr (by omega) (by rfl) (pa_cons (pv 0) (pa_cons pe_int pa_nil))) pa_nil)) (pg_name (i := 2) sc_law_new.nd rfl (Or.inl rfl))
  (pss_one (ps_set (i := 1) sc_law_new.nd rfl (Or.inl rfl) (pe_tup (pa_cons (pv 1) pa_nil)))))
 (pss_one (ps_ret (pv 1))))), ?_⟩
  refine ⟨_, rfl, row, 3, rfl, R0, by decide, by decide, fun t v H1 wt dt nt f1 R1 rt => ?_⟩
  have nt' : nodes t ≤ 40 := Nat.le_trans nt (many_le (by decide))
  refine ⟨_, rfl, row, _, rfl, R1, (show (0 : Int) < 3 by decide), (by decide +kernel), fun m H2 m0 m1 f2 R2 => ?_⟩
  have r2 : Rep H2 t v := rt.keep (Frm.tups f2 R1.noT)
  refine ⟨_, rfl, by omega, by omega, ?_⟩
  refine for_range (n := m.toNat) (fun i σ H' => ∃ (t : Th) (v : V) (k : Option V), σ = [some (.ref row), some v, k] ∧ Frm [row] H H' ∧ RowV H' row ∧ Rep H' t v ∧ Wf t ∧ dep t ≤ 3 + i ∧ nodes t ≤ 40 + i) ⟨t, v, _, rfl, f1.trans f2, R2, r2, wt, by omega, by omega⟩ ?_ ?_
  · rintro i σ H3 hi ⟨t, v, k, rfl, f3, R3, r3, wt, dt, nt⟩
    refine ⟨_, rfl, szl (show 1 ≤ 1000 by decide), fun p hp => ?_⟩
    refine ⟨.tup [t], _, _, rfl, frm_new f3 hp, R3.new hp, .tup upd_same rfl (fun j x u h1 h2 => ?_), ⟨show 1 ≤ 40 by decide, wt, trivial⟩, ?_, ?_⟩
    · cases j with
      | zero => cases h1; cases h2; exact r3.keep (Tups.new hp)
      | succ j => cases h1
    · show max (dep t) 0 + 1 ≤ 3 + (i + 1)
      omega
    · show 1 + (nodes t + 0) ≤ 40 + (i + 1)
      omega
  · rintro σ H3 ⟨t, v, k, rfl, f3, R3, r3, wt, dt, nt⟩
    exact ⟨_, rfl, q t v H3 ⟨wt, by omega, by omega⟩ f3 R3 r3⟩
end
end Pv
set_option Elab.async false
set_option linter.all false
set_option maxRecDepth 100000
set_option maxHeartbeats 4000000
namespace Pv
open PySem L2
abbrev s_law_laid : Stmt := top 32
private theorem sc_law_laid : FnScope ["vault", "laid", "new", "number", "k", "told"] ["vault", "laid", "new"] (defScope s_law_laid) := ⟨rfl, rfl, rfl, by decide +kernel, rfl, by decide +kernel, by decide +kernel⟩
def Fr2 (a b : Addr) (H H' : Hp) : Prop := ∀ c o, c ≠ a → c ≠ b → H c = some o → H' c = some o
structure VL (H : Hp) (W a d dl : Addr) (cs : List (Int × Th)) : Prop where
  vo : ∃ kv, VOk H W a d kv ∧ DRep H cs kv
  lo : ∃ kl, H dl = some (.dK kl) ∧ DRep H cs kl
  ne : d ≠ dl
  gc : GoodC cs
def spLaidL (Ws : List Addr) : Sp := fun vs H Q _ => ∃ (W a d dl : Addr) (cs : List (Int × Th)) (t : Th) (v : V), W ∈ Ws ∧ vs = [.ref a, .ref dl, v] ∧ VL H W a d dl cs ∧ cs.length ≤ 800 ∧ Rep H t v ∧ Good t ∧
  (¬ Fits cs (sealT t) t → ∀ H', Same H H' → Q (.bl true) H') ∧
  (Fits cs (sealT t) t → ∀ H', Fr2 d dl H H' → VL H' W a d dl (addT cs (sealT t) t) → Q (.bl true) H')
private theorem fits_alike {H H' : Hp} {cs : List (Int × Th)} {kv : List (Key × V)} {t : Th} (d : DRep H cs kv) (f : Fits cs (sealT t) t) (s : Tups H H') : ∀ t1 v1, valV kv (.inl (sealT t)) = some v1 → Rep H' t1 v1 → t1 = t := fun t1 v1 e r => by
  obtain ⟨u, eu, ru⟩ := d.back e
  rcases f with f | f
  · rw [f] at eu; cases eu
  · rw [f] at eu; cases eu
    exact Rep.inj r (ru.keep s)
private theorem addT_twice {cs : List (Int × Th)} {n : Int} {t : Th} (f : Fits cs n t) : addT (addT cs n t) n t = addT cs n t := addT_old (lookT_added f)
section
variable {P : Program} {w : World} {K : PySem.W.Frag} {mg : Str → Option Value} {base : Heap} {Ws : List Addr} {CC : Addr}
private theorem ok_laidL (D : Dfn K mg "_law_laid" s_law_laid ["vault", "laid", "new"]) (F_seal : Fn P w K mg base "seal" 13 ["thing"] spSeal) (F_law_same : Fn P w K mg base "_law_same" 12 ["told", "due"] (spSameE 10)) (M : ∀ W ∈ Ws, Mt P w K mg base (CX1 P w) W "lay" 14 ["self", "thing"] (spLay W CC)) (Cc : ∀ W ∈ Ws, Cls K W)
    (m_range : mg "range" = none) (m_isinstance : mg "isinstance" = none) (m_int : mg "int" = none) (m_bool : mg "bool" = none) : Fn P w K mg base "_law_laid" 15 ["vault", "laid", "new"] (spLaidL Ws) := by
  refine D.ok (k := 14) sc_law_laid (fun vs H Q E h => ?_) (fun f cdv A outer s H vs Q E hr h => ?_)
  · obtain ⟨W, a, d, dl, cs, t, v, _, rfl, _⟩ := h; rfl
  obtain ⟨W, a, d, dl, cs, t, v, hW, rfl, vl, hl8, rt, gt, qn, qf⟩ := h
  have M_layW := M W hW
  have c_W := Cc W hW
  refine ⟨_, (pss_cons (ps_set (i := 3) sc_law_laid.nd rfl (Or.inl rfl) (pe_fn F_seal hr (by omega) (by rfl) (pa_cons (pv 2) pa_nil)))
 (pss_cons (ps_if (pt_not (pt_val (pe_fn F_law_same hr (by omega) (by rfl) (pa_cons (pe_dget2 (hu_of hr) (pv 1) (pv 3) (pv 2) ⟨by rfl, by rfl, by rfl, by rfl⟩) (pa_cons (pv 2) pa_nil)))))
  (pss_one (ps_ret pe_bl))
  pss_nil)
 (pss_cons (ps_dput (hu_of hr) (pv 1) (pv 3) (pv 2) (by rfl))
 (pss_cons (ps_for PassesOwn.never rfl (pi_range1 rfl m_range (pa_cons pe_int pa_nil)) (pg_name (i := 4) sc_law_laid.nd rfl (Or.inl rfl))
  (pss_cons (ps_set (i := 5) sc_law_laid.nd rfl (Or.inl rfl) (pe_mt (pv 0) c_W M_layW hr (by omega) pass01 (pa_cons (pv 2) pa_nil)))
 (pss_one (ps_if (PW.pt (pw_or (pt_not (pt_val (pe_callB (call_isinst) (by rfl) m_isinstance (by rfl) (pa_cons (pv 5) (pa_cons (pe_bltn (v := .ty "int") (by rfl) m_int (by rfl) rfl) pa_nil))))) (pw_or (pt_val (pe_callB (call_isinst) (by rfl) m_isinstance (by rfl) (pa_cons (pv 5) (pa_cons (pe_bltn (v := .ty "bool") (by rfl) m_bool (by rfl) rfl) pa_nil)))) (pw_or1 (pt_cmpR op_ne (pv 5) (pv 3) (nomark _))))))
  (pss_one (ps_ret pe_bl))
  pss_nil))))
 (pss_one (ps_ret pe_bl)))))), ?_⟩
  have gd := gt.dp
  have gn := gt.nd
  refine ⟨_, rfl, t, v, rfl, rt, gt.wf, by omega, by omega, fun H1 s1 => ?_⟩
  obtain ⟨kl, ekl, drl⟩ := vl.lo
  have ekl1 := s1 _ _ ekl
  have drl1 := drl.keep (Same.tups s1)
  have rt1 := rt.keep (Same.tups s1)
  refine ⟨_, rfl, dl, rfl, ?_, _, rfl, _, rfl, _, DGet.k (k := Sum.inl (sealT t)) ekl1, ?_⟩
  · first | exact .inl ⟨kl, .inl ekl1⟩ | exact .inl ⟨kl, ekl1⟩ | exact ⟨kl, .inl (.inl ekl1)⟩
  have key : ∃ u y, (valV kl (Sum.inl (sealT t))).getD v = y ∧ Rep H1 u y ∧ dep u ≤ 8 ∧ (u = t ↔ Fits cs (sealT t) t) := by
    cases z : lookT cs (sealT t) with
    | none => exact ⟨t, v, by rw [drl1.none z]; rfl, rt1, gd, fun _ => .inl z, fun _ => rfl⟩
    | some u =>
      obtain ⟨y, ey, ry⟩ := drl1.some z
      refine ⟨u, y, by rw [ey]; rfl, ry, (vl.gc.dep z).1.dp, fun e => .inr (by rw [z, e]), fun f => ?_⟩
      rcases f with f | f
      · rw [z] at f; cases f
      · rw [z] at f; exact Option.some.inj f
  obtain ⟨u, y, ey, ry, hu, hf⟩ := key
  rw [ey]
  refine ⟨_, rfl, u, t, y, v, rfl, ry, rt1, by omega, by omega, by omega, fun H2 s2 => ⟨_, rfl, ?_⟩⟩
  have s02 : Same H H2 := fun b o h => s2 b o (s1 b o h)
  cases z : eqT u t with
  | false => exact ifT rfl (qn (fun f => by rw [(eqT_iff u t).mpr (hf.mpr f)] at z; cases z) H2 s02)
  | true =>
    have ft := hf.mp ((eqT_iff u t).mp z)
    refine ifF rfl ?_
    have ekl2 := s02 _ _ ekl
    have rt2 := rt.keep (Same.tups s02)
    have ll := drl.len
    refine ⟨_, rfl, _, rfl, _, rfl, dl, _, rfl, DPut.k (k := Sum.inl (sealT t)) ekl2 (Nat.lt_of_le_of_lt (show kl.length ≤ 900 by omega) (by decide)), ?_⟩
    have tk1 : Tups H2 (upd H2 dl (.dK (putK kl (.inl (sealT t)) v))) := Tups.upd fun xs z => by rw [ekl2] at z; cases z
    have f1 : ∀ b o, b ≠ dl → H b = some o → upd H2 dl (.dK (putK kl (.inl (sealT t)) v)) b = some o := fun b o nb e => by rw [upd_ne nb]; exact s02 _ _ e
    have el3 : upd H2 dl (.dK (putK kl (.inl (sealT t)) v)) dl = some (.dK (putK kl (.inl (sealT t)) v)) := upd_same
    have dl3 : DRep (upd H2 dl (.dK (putK kl (.inl (sealT t)) v))) (addT cs (sealT t) t) (putK kl (.inl (sealT t)) v) := ((drl.keep (Same.tups s02)).keep tk1).add (rt2.keep tk1) ft vl.gc.nd
    have rt3 := rt2.keep tk1
    generalize upd H2 dl (.dK (putK kl (.inl (sealT t)) v)) = H3 at tk1 f1 el3 dl3 rt3
    obtain ⟨kv, vo, drv⟩ := vl.vo
    obtain ⟨⟨dx, fs, eo, fl⟩, ed⟩ := id vo
    have vo3 : VOk H3 W a d kv := ⟨⟨dx, fs, f1 _ _ (ne_of eo ekl (by intro z; cases z)) eo, fl⟩, f1 _ _ vl.ne ed⟩
    have dv3 : DRep H3 cs kv := (drv.keep (Same.tups s02)).keep tk1
    refine ⟨_, rfl, by omega, by omega, ?_⟩
    refine for_range (n := 2) (fun i σ H' => ∃ (k4 k5 : Option V) (cs' : List (Int × Th)) (kv' : List (Key × V)), σ = [some (.ref a), some (.ref dl), some v, some (.int (sealT t)), k4, k5] ∧ Fr2 d dl H H' ∧ Rep H' t v ∧ H' dl = some (.dK (putK kl (.inl (sealT t)) v)) ∧ DRep H' (addT cs (sealT t) t) (putK kl (.inl (sealT t)) v) ∧ VOk H' W a d kv' ∧ DRep H' cs' kv' ∧ GoodC cs' ∧ Fits cs' (sealT t) t ∧ addT cs' (sealT t) t = addT cs (sealT t) t ∧ cs'.length ≤ 801 ∧ (0 < i → cs' = addT cs (sealT t) t)) ⟨_, _, cs, kv, rfl, fun b o n1 n2 e => f1 b o n2 e, rt3, el3, dl3, vo3, dv3, vl.gc, ft, rfl, by omega, fun z => absurd z (by omega)⟩ ?_ ?_
    · rintro i σ H4 hi ⟨k4, k5, cs', kv', rfl, fr, r4, el4, dl4, vo4, dv4, gc4, ft4, ad4, le4, _⟩
      obtain ⟨⟨dx, fs, eo, fl⟩, ed4⟩ := id vo4
      have lv := dv4.len
      refine ⟨_, rfl, a, dx, fs, rfl, eo, fl.n2, _, rfl, a, d, kv', t, v, rfl, vo4, dv4.laidOk gc4.gd, by omega, r4, gt, fun H5 s5 _ => ?_, fun t1 v1 H9 s9 ev r1 g1 sn ne => absurd (fits_alike dv4 ft4 (Same.tups s9) t1 v1 ev r1) ne⟩
      have ed5 := s5 _ _ ed4
      have tk5 : Tups H4 (upd H5 d (.dK (putK kv' (.inl (sealT t)) v))) := (Same.tups s5).trans (Tups.upd fun xs z => by rw [ed5] at z; cases z)
      have fr5 : ∀ b o, b ≠ d → H4 b = some o → upd H5 d (.dK (putK kv' (.inl (sealT t)) v)) b = some o := fun b o nb e => by rw [upd_ne nb]; exact s5 _ _ e
      have ed6 : upd H5 d (.dK (putK kv' (.inl (sealT t)) v)) d = some (.dK (putK kv' (.inl (sealT t)) v)) := upd_same
      generalize upd H5 d (.dK (putK kv' (.inl (sealT t)) v)) = H6 at tk5 fr5 ed6
      refine ⟨_, rfl, _, _, _, _, rfl, .int _, rfl, _, rfl, ifF rfl ?_⟩
      refine ⟨_, rfl, _, _, _, _, rfl, .int _, rfl, _, rfl, ifF rfl ?_⟩
      refine ⟨_, rfl, _, rfl, rfl, _, rfl, ?_⟩
      rw [decide_eq_true rfl]
      refine ifF rfl ?_
      have eo6 := fr5 _ _ (ne_of eo ed4 (by intro z; cases z)) eo
      have vo6 : VOk H6 W a d (putK kv' (.inl (sealT t)) v) := ⟨⟨dx, fs, eo6, fl⟩, ed6⟩
      have d6 : DRep H6 (addT cs (sealT t) t) (putK kv' (.inl (sealT t)) v) := by rw [← ad4]; exact (dv4.keep tk5).add (r4.keep tk5) ft4 gc4.nd
      exact ⟨_, _, addT cs (sealT t) t, _, rfl, fun b o n1 n2 e => fr5 b o n1 (fr b o n1 n2 e), r4.keep tk5, fr5 _ _ (Ne.symm vl.ne) el4, dl4.keep tk5, vo6, d6, vl.gc.add gt rfl, .inr (lookT_added ft), addT_twice ft, Nat.le_trans (addT_len _ _ _) (by omega), fun _ => rfl⟩
    · rintro σ H4 ⟨k4, k5, cs', kv', rfl, fr, r4, el4, dl4, vo4, dv4, gc4, ft4, ad4, le4, z⟩
      rw [z (by decide)] at dv4
      exact qf ft H4 fr ⟨⟨kv', vo4, dv4⟩, ⟨_, el4, dl4⟩, vl.ne, vl.gc.add gt rfl⟩
end
end Pv
set_option Elab.async false
set_option linter.all false
set_option maxRecDepth 100000
namespace L2
open PySem PySem.Spec PyProof.Rows
structure PEw (X : Cx) (e : Expr) (t : TE) : Prop where
  h : PE X e t
structure PAw (X : Cx) (es : List Expr) (t : TA) : Prop where
  h : PA X es t
structure PPw (X : Cx) (pos : Pos) (keys : List (Option Expr)) (values : List Expr) (trs : List (TE × TE)) : Prop where
  h : PPs X pos keys values trs
structure PSw (X : Cx) (st : Stmt) (t : TS) : Prop where
  h : PS X st t
structure PSq (X : Cx) (st : List Stmt) (t : TS) : Prop where
  h : PSs X st t
section
variable {X : Cx}
private theorem pq_cons {st : Stmt} {rest : List Stmt} {t u : TS} (h1 : PSw X st t) (h2 : PSq X rest u) : PSq X (st :: rest) (tSeq t u) := ⟨pss_cons h1.h h2.h⟩
private theorem pq_one {st : Stmt} {t : TS} (h1 : PSw X st t) : PSq X [st] t := ⟨pss_one h1.h⟩
end
end L2
set_option Elab.async false
set_option linter.all false
set_option maxRecDepth 100000
set_option maxHeartbeats 4000000
namespace L2
open PySem PySem.Spec PyProof.Rows
section
variable {X : Cx} {pins : List (Addr × Obj)} {σ : St} {H : Hp} {s : Shared} {d : Addr} {kvs : List (Key × V)} {o : Obj}
private theorem Inv.freeze (I : Inv X pins σ H s) (e : H d = some (.dK kvs)) (eo : s.heap.get? d = some o) : Inv X pins σ (upd H d (.frz o (.dK kvs))) s := by
  have q : ObjOk X.prog X.w H s.heap d (.dK kvs) := I.hok d _ e
  exact I.write (h' := s.heap) (t' := s.toks) (by rw [e]; exact True.intro) (.inl rfl) (fun b u _ h => h) ⟨o, eo⟩ ⟨eo, q⟩
private theorem Inv.thaw (I : Inv X pins σ H s) (e : H d = some (.frz o (.dK kvs))) (n0 : ∀ ob u, X.H₀ d ≠ some (.frz ob u)) : Inv X pins σ (upd H d (.dK kvs)) s := by
  have nd : ∀ b, H b = none → b ≠ d := fun b hb z => by rw [z, e] at hb; cases hb
  refine ⟨I.ok, I.os, I.bare, ⟨I.base.keep, I.base.slot, fun b ob h1 h2 h3 => ?_, I.base.there, fun b xs h => ?_, fun b ob u h => ?_, fun b ps h => ?_⟩, I.loc, I.cell, ?_, fun x c h => ?_, fun p hp => ?_, fun a u h => ?_, I.len⟩
  · have := I.base.free b ob h1 h2 h3
    rw [upd_ne (nd b this)]; exact this
  · have := I.base.tups b xs h
    rw [upd_ne (ne_of this e (by intro z; cases z))]; exact this
  · have := I.base.frzs b ob u h
    have bd : b ≠ d := fun z => n0 ob u (by rw [← z]; exact h)
    rw [upd_ne bd]; exact this
  · obtain ⟨more, this⟩ := I.base.tbls b ps h
    exact ⟨more, by rw [upd_ne (ne_of this e (by intro z; cases z))]; exact this⟩
  · rw [upd_ne (nd _ I.free)]; exact I.free
  · rw [upd_ne (nd _ (I.freeC x c h))]; exact I.freeC x c h
  · obtain ⟨a, b, c⟩ := I.pin p hp
    exact ⟨a, by rw [upd_ne (nd _ b)]; exact b, c⟩
  · by_cases z : a = d
    · subst z
      rw [upd_same] at h
      cases h
      obtain ⟨_, q⟩ := I.hok a _ e
      exact q
    · rw [upd_ne z] at h
      exact (I.hok a u h).stay (fun b v _ q => q) (fun b q => by rw [upd_ne (ne_of q e (by intro z; cases z))]; exact q) fun b xs q => by rw [upd_ne (ne_of q e (by intro z; cases z))]; exact q
end
def Itd (d : Addr) (o : Obj) (kvs : List (Key × V)) : It := ⟨fun i H => H d = some (.frz o (.dK kvs)) ∧ i < (keysI kvs).length, fun i H x H' => H' = H ∧ ∃ n, (keysI kvs)[i]? = some n ∧ x = .int n, fun i H => H d = some (.frz o (.dK kvs)) ∧ (keysI kvs).length ≤ i⟩
private theorem turn_dk {P : Program} {w : World} {K : PySem.W.Frag} {tg : Expr} {d it : Addr} {o : Obj} {kvs : List (Key × V)} {vs : List (Key × Value)} {ep : Nat} (rel : KV kvs vs) (ik : L2.IntKeys kvs) (at' : ∀ h : Heap, h.get? d = some o → h.DictAt (mixKind P w) d vs ep) :
    Turn P w K tg (Itd d o kvs) [it] it (fun i h => h.IsKeyIter it d i vs.length ep) where
  mem := by simp
  obj := fun i h st b hb => by
    have e : b = it := by simpa using hb
    subst e
    obtain ⟨o, e, c, dd⟩ := st
    exact ⟨o, e, fun v z => by rw [dd] at z; cases z⟩
  keep := fun i h h' st k => st.at fun o e => k it (by simp) o e
  item := by
    intro X hP hw hK hc i pins s σ H E I hf st hg
    subst hP hw hK
    obtain ⟨hd, hi⟩ := hg
    obtain ⟨eo, _⟩ := I.hok d _ hd
    have hl := rel.at.1
    have hkl := keysI_length ik
    have hiv : i < vs.length := by omega
    obtain ⟨f0, f1, f2, f3, f4, f5⟩ := hf it (by simp)
    refine wpAny_pyNext_dict_item st (at' _ eo) (k := vs[i].1) (v := vs[i].2) (List.getElem?_eq_getElem hiv) fun key h' hk st' sb => ?_
    have I1 : Inv X pins σ H { s with heap := h' } := I.turned (t' := s.toks) (fun b ob hb e => (sb.2 b hb).trans e) f0 f1 f3 f4 f5
    obtain ⟨ob, e, c, dd⟩ := id st'
    obtain ⟨t, ek, hlt⟩ := dk_ints rel ik (List.getElem?_eq_getElem hiv) hk
    subst ek
    exact ⟨_, rfl, go_of (s := { s with heap := h' }) e c dd (by decide) ⟨.int _, H, I1, ⟨t, rfl⟩, ⟨rfl, _, List.getElem?_eq_getElem hlt, by rw [List.getElem?_eq_getElem hlt]; rfl⟩, st', fun b hb => (hf b hb).1⟩⟩
  done := by
    intro X hP hw hK hc i pins s σ H E I hf st hg
    subst hP hw hK
    obtain ⟨hd, hi⟩ := hg
    obtain ⟨eo, _⟩ := I.hok d _ hd
    have hl := rel.at.1
    have hkl := keysI_length ik
    obtain ⟨f0, f1, f2, f3, f4, f5⟩ := hf it (by simp)
    exact wpAny_pyNext_dict_end (I.ok.hd hc) st (at' _ eo) (List.getElem?_eq_none (by omega)) fun h' eb => ⟨rfl, I.turned (t' := s.toks) (fun b ob hb e => eb b ob hb e) f0 f1 f3 f4 f5⟩
  self := fun _ _ _ _ _ st h => wpAny_pyIter_keyiter st h
section
variable {X : Cx} {tg : Expr}
def iDk (tl : TE) : TI := fun σ H R => tl σ H fun x H1 => ∃ d kvs, x = .ref d ∧ H1 d = some (.dK kvs) ∧ L2.IntKeys kvs ∧ ∀ o, R (Itd d o kvs) (upd H1 d (.frz o (.dK kvs)))
private theorem pi_dk {l : Expr} {tl : TE} (hl : PE X l tl) : PI X tg l (iDk tl) := by
  intro pins s σ H R I h
  refine thn (hl pins s σ H _ I h) fun v s1 ⟨x, H1, I1, r1, q1⟩ => ?_
  obtain ⟨d, kvs, e, ed, ik, q⟩ := q1
  subst e
  cases r1
  obtain ⟨hz, lo, vs, rel, hD⟩ := I1.hok d _ ed
  obtain ⟨ep, hat⟩ := hD.dictAt
  obtain ⟨o, es, eo, r⟩ := id hat
  refine wpAny_pyIter_dict lo hat ?_
  have I2 := I1.freeze ed eo
  have I3 := I2.kept (h' := s1.heap.push { cls := .type "dict_keyiterator", data := .fields #[.ref d, .int 0 0, .int vs.length 0, .int ep 0] }) (t' := s1.toks) fun b ob e => Heap.get?_push_of_some _ e
  refine ⟨s1.heap.objs.size, [s1.heap.objs.size], _, _, _, rfl, I3, turn_dk rel ik (fun h e => ⟨o, es, e, r⟩), ⟨_, Heap.get?_push_size _ rfl, rfl, rfl⟩, fun b hb => ?_, q o⟩
  have e : b = s1.heap.objs.size := by simpa using hb
  subst e
  exact I1.fpOk (Nat.le_refl _) (by rw [upd_ne (Nat.ne_of_gt (I1.hok.lt ed))]; exact I1.hok.fresh (Nat.le_refl _))
def Ends.thaw (D : Ends) (H : Hp) : Ends where
  nx := fun σ H' => ∃ d o kvs, H d = some (.dK kvs) ∧ H' d = some (.frz o (.dK kvs)) ∧ D.nx σ (upd H' d (.dK kvs))
  rt := fun v H' => ∃ d o kvs, H d = some (.dK kvs) ∧ H' d = some (.frz o (.dK kvs)) ∧ D.rt v (upd H' d (.dK kvs))
def tThaw (t : TS) : TS := fun D σ H => t (D.thaw H) σ H
private theorem ps_thaw {st : Stmt} {t : TS} (h : PS X st t) : PS X st (tThaw t) := by
  intro pins s σ H D I q
  refine thn (h pins s σ H _ I q) fun f s' sp => ?_
  have n0 : ∀ {d : Addr} {kvs : List (Key × V)}, H d = some (.dK kvs) → ∀ ob u, X.H₀ d ≠ some (.frz ob u) := fun e ob u z => by
    have := I.base.frzs _ ob u z
    rw [e] at this; cases this
  cases f with
  | next =>
    obtain ⟨σ', H', I', d, o, kvs, e, e', q'⟩ := sp
    exact ⟨σ', _, I'.thaw e' (n0 e), q'⟩
  | brk => obtain ⟨σ', H', I', q'⟩ := sp; exact q'.elim
  | cont => obtain ⟨σ', H', I', q'⟩ := sp; exact q'.elim
  | ret u =>
    obtain ⟨v, σ', H', I', r, d, o, kvs, e, e', q'⟩ := sp
    exact ⟨v, σ', _, I'.thaw e' (n0 e), r, q'⟩
private theorem for_dk {d : Addr} {o : Obj} {kvs : List (Key × V)} {g : TG} {tb : TS} {D : Ends} {σ : St} {H : Hp} (Pv : Nat → St → Hp → Prop) (h0 : Pv 0 σ H) (hl : ∀ i σ H, Pv i σ H → H d = some (.frz o (.dK kvs)))
    (hs : ∀ i n σ H, (keysI kvs)[i]? = some n → Pv i σ H → g (.int n) σ H fun σ2 H2 => tb { D with nx := Pv (i + 1), ct := Pv (i + 1), bk := D.nx } σ2 H2) (hd : ∀ σ H, Pv (keysI kvs).length σ H → D.nx σ H) :
    ∃ W : Nat → Nat → St → Hp → Prop, (∃ m, W 0 m σ H) ∧ ∀ i m σ H, W i m σ H →
      ((Itd d o kvs).stop i H ∧ D.nx σ H) ∨ ((Itd d o kvs).go i H ∧ ∃ N : St → Hp → Prop, (∀ σ' H', N σ' H' → ∃ m', m' < m ∧ W (i + 1) m' σ' H') ∧ ∀ x H', (Itd d o kvs).yld i H x H' → g x σ H' fun σ2 H2 => tb { D with nx := N, ct := N, bk := D.nx } σ2 H2) := by
  refine ⟨fun i m σ H => m = (keysI kvs).length - i ∧ i ≤ (keysI kvs).length ∧ Pv i σ H, ⟨_, rfl, Nat.zero_le _, h0⟩, ?_⟩
  rintro i m σ H ⟨rfl, hi, p⟩
  have q := hl i σ H p
  by_cases hlt : i < (keysI kvs).length
  · refine .inr ⟨⟨q, hlt⟩, Pv (i + 1), fun σ' H' p' => ⟨(keysI kvs).length - (i + 1), by omega, rfl, hlt, p'⟩, fun x H' y => ?_⟩
    obtain ⟨e, n, en, ex⟩ := y
    subst e; subst ex
    exact hs i n σ _ en p
  · have e : i = (keysI kvs).length := by omega
    subst e
    exact .inl ⟨⟨q, Nat.le_refl _⟩, hd σ H p⟩
end
end L2
set_option Elab.async false
set_option linter.all false
set_option maxRecDepth 100000
set_option maxHeartbeats 4000000
namespace Pv
open PySem L2
abbrev s_law_told : Stmt := top 33
private theorem sc_law_told : FnScope ["vault", "laid", "number"] ["vault", "laid"] (defScope s_law_told) := ⟨rfl, rfl, rfl, by decide +kernel, rfl, by decide +kernel, by decide +kernel⟩
def spToldL (Ws : List Addr) : Sp := fun vs H Q _ => ∃ (W a d dl : Addr) (cs : List (Int × Th)), W ∈ Ws ∧ vs = [.ref a, .ref dl] ∧ VL H W a d dl cs ∧ ∀ H', Same H H' → Q (.bl true) H'
section
variable {P : Program} {w : World} {K : PySem.W.Frag} {mg : Str → Option Value} {base : Heap} {Ws : List Addr} {CNoPaper : Addr}
private theorem ok_toldL (D : Dfn K mg "_law_told" s_law_told ["vault", "laid"]) (F_law_same : Fn P w K mg base "_law_same" 12 ["told", "due"] (spSameE 10)) (M : ∀ W ∈ Ws, Mt P w K mg base (CX1 P w) W "thing" 1 ["self", "number"] (spThingX W CNoPaper)) (Cc : ∀ W ∈ Ws, Cls K W) : Fn P w K mg base "_law_told" 13 ["vault", "laid"] (spToldL Ws) := by
  refine D.ok (k := 12) sc_law_told (fun vs H Q E h => ?_) (fun f cdv A outer s H vs Q E hr h => ?_)
  · obtain ⟨W, a, d, dl, cs, _, rfl, _⟩ := h; rfl
  obtain ⟨W, a, d, dl, cs, hW, rfl, vl, q⟩ := h
  have M_thing := M W hW
  have c_W := Cc W hW
  refine ⟨_, (pss_cons (ps_thaw (ps_for PassesOwn.never rfl (pi_dk (pv 1)) (pg_name (i := 2) sc_law_told.nd rfl (Or.inl rfl))
  (pss_one (ps_if (pt_not (pt_val (pe_fn F_law_same hr (by omega) (by rfl) (pa_cons (pe_mt (pv 0) c_W M_thing hr (by omega) pass01 (pa_cons (pv 2) pa_nil)) (pa_cons (pe_dget (hu_of hr) (pv 1) (pv 2) (fun _ _ => rfl)) pa_nil)))))
  (pss_one (ps_ret pe_bl))
  pss_nil))))
 (pss_one (ps_ret pe_bl))), ?_⟩
  obtain ⟨kvl, el, drl⟩ := vl.lo
  obtain ⟨kv, vo, drv⟩ := vl.vo
  obtain ⟨⟨dx, fs, eo, fl⟩, ed⟩ := id vo
  refine ⟨_, rfl, dl, kvl, rfl, el, drl.keys.2, fun o => ?_⟩
  refine for_dk (fun i σ H' => ∃ k2, σ = [some (.ref a), some (.ref dl), k2] ∧ H' dl = some (.frz o (.dK kvl)) ∧ ∀ b u, b ≠ dl → H b = some u → H' b = some u) ⟨_, rfl, upd_same, fun b u n e => by rw [upd_ne n]; exact e⟩ ?_ ?_ ?_
  · rintro i σ H' ⟨k2, rfl, ef, fr⟩
    exact ef
  · rintro i n σ H' hn ⟨k2, rfl, ef, fr⟩
    have xdl : a ≠ dl := ne_of eo el (by intro z; cases z)
    have vo' : VOk H' W a d kv := ⟨⟨dx, fs, fr _ _ xdl eo, fl⟩, fr _ _ vl.ne ed⟩
    have tk : Tups H H' := fun b xs e => fr b _ (ne_of e el (by intro z; cases z)) e
    obtain ⟨t, et⟩ := lookT_key (by rw [← drl.keys.1]; exact List.mem_of_getElem? hn)
    obtain ⟨y1, ey1, ry1⟩ := (drl.keep tk).some et
    obtain ⟨y2, ey2, ry2⟩ := (drv.keep tk).some et
    have gd := (vl.gc.dep et).1.dp
    have dg : DGet H' dl (.int n) (some y1) := .inl ⟨kvl, Sum.inl n, .inr ⟨o, ef⟩, rfl, ey1.symm⟩
    refine ⟨_, rfl, a, dx, fs, rfl, fr _ _ xdl eo, fl.n3, _, rfl, a, d, kv, n, rfl, vo', fun y3 ey3 => ?_, fun z => by rw [ey2] at z; cases z⟩
    have : y3 = y2 := Option.some.inj (ey3.symm.trans ey2)
    subst this
    refine ⟨_, rfl, _, rfl, dl, y1, rfl, dg, t, t, y3, y1, rfl, ry2, ry1, by omega, by omega, by omega, fun H2 s2 => ?_⟩
    exact ⟨true, congrArg V.bl (eqT_refl t), ifF rfl ⟨_, rfl, s2 _ _ ef, fun b u nb e => s2 _ _ (fr b u nb e)⟩⟩
  rintro σ H1 ⟨k2, rfl, ef, fr⟩
  refine ⟨dl, o, kvl, el, ef, q _ fun b u e => ?_⟩
  by_cases z : b = dl
  · rw [z, el] at e; cases e; rw [z]; exact upd_same
  · rw [upd_ne z]; exact fr b u z e
end
end Pv
set_option Elab.async false
set_option linter.all false
set_option maxRecDepth 100000
set_option maxHeartbeats 4000000
namespace Pv
open PySem L2
abbrev s_law_kept : Stmt := top 35
private theorem sc_law_kept : FnScope ["keeper", "laid", "told", "due", "again", "number"] ["keeper", "laid"] (defScope s_law_kept) := ⟨rfl, rfl, rfl, by decide +kernel, rfl, by decide +kernel, by decide +kernel⟩
private theorem risen_comp {K : PySem.W.Frag} {cs : List (Int × Th)} {kvs : List (Key × V)} {H1 : Hp} {l p : Addr} {ns : List Int} {σ : L2.St} {js : List Nat} {te : TE} {Q : VK} (r : DRep H1 cs kvs) (e1 : H1 l = some (.lst (ns.map V.int))) (hp : ns.Perm (cs.map (·.1))) (h64 : ns.length ≤ 64) (hp1 : H1 p = none)
    (te_ok : ∀ (n : Int) (v : V) (H' : Hp) (Z : VK), valV kvs (.inl n) = some v → Same H1 H' → Z v H' → te (some (.int n) :: frees σ js) H' Z) (q : ∀ acc H', Same H1 H' → H' p = some (.lst acc) → RepL H' (worths cs ns) acc → Q (.ref p) H') : CompW (Itl K l) p σ js tNoTest te H1 Q := by
  refine comp_it (n := ns.length) (fun i acc H' => Same H1 H' ∧ H' p = some (.lst acc) ∧ acc.length = i ∧ RepL H' (worths cs (ns.take i)) acc) ⟨same_new (Same.refl H1) hp1, upd_same, rfl, .nil⟩ ?_ ?_ ?_ ?_
  · rintro i acc H' hi ⟨sm, ep, la, rr⟩
    exact ⟨ns.map V.int, .int ns[i], SqL.of (sm _ _ e1), by rw [List.getElem?_map, List.getElem?_eq_getElem hi]; rfl⟩
  · rintro acc H' ⟨sm, ep, la, rr⟩
    exact ⟨ns.map V.int, SqL.of (sm _ _ e1), by rw [List.length_map]; exact Nat.le_refl _⟩
  · rintro i acc H' y H'' hi ⟨sm, ep, la, rr⟩ ⟨z1, z2⟩
    subst z1
    have ey := z2 (ns.map V.int) (SqL.of (sm _ _ e1))
    have ey2 : y = V.int ns[i] := by
      rw [List.getElem?_map, List.getElem?_eq_getElem hi] at ey
      exact (Option.some.inj ey).symm
    subst ey2
    obtain ⟨t, lt⟩ := lookT_key (hp.subset (List.getElem_mem hi))
    obtain ⟨v, lv, rv⟩ := r.some lt
    refine tt1 (te_ok ns[i] v H'' _ lv sm ⟨ep, Nat.lt_of_lt_of_le (show acc.length < 1000 by omega) (szl (Nat.le_refl _)), nxt hi ⟨same_upd sm hp1, upd_same, by rw [List.length_append, la]; rfl, ?_⟩⟩)
    have tk : Tups H'' (upd H'' p (.lst (acc ++ [v]))) := Tups.upd fun xs z => by rw [ep] at z; cases z
    have ew : worths cs (ns.take (i + 1)) = worths cs (ns.take i) ++ [t] := by
      unfold worths
      rw [List.take_add_one, List.getElem?_eq_getElem hi, List.map_append]
      show _ ++ [(lookT cs ns[i]).getD .non] = _
      rw [lt]; rfl
    rw [ew]
    exact RepL.snoc ((rv.keep (Same.tups sm)).keep tk) (rr.keep tk)
  · rintro acc H' ⟨sm, ep, la, rr⟩
    rw [List.take_length] at rr
    exact q acc H' sm ep rr
private theorem worths_dep {cs : List (Int × Th)} (g : GoodC cs) (ns : List Int) : ∀ t ∈ worths cs ns, dep t ≤ 8 := fun t ht => by
  obtain ⟨n, _, e⟩ := List.mem_map.mp ht
  cases z : lookT cs n with
  | none => rw [z] at e; subst e; exact Nat.zero_le _
  | some u => rw [z] at e; subst e; exact (g.dep z).1.dp
private theorem depL_le {n : Nat} : ∀ {ts : List Th}, (∀ t ∈ ts, dep t ≤ n) → depL ts ≤ n
  | [], _ => Nat.zero_le _
  | t :: r, h => Nat.max_le.mpr ⟨h t List.mem_cons_self, depL_le fun u hu => h u (List.mem_cons_of_mem _ hu)⟩
private theorem VL.same {H H' : Hp} {W a d dl : Addr} {cs : List (Int × Th)} (v : VL H W a d dl cs) (s : Same H H') : VL H' W a d dl cs := by
  obtain ⟨kv, vo, dr⟩ := v.vo
  obtain ⟨kl, e, dl'⟩ := v.lo
  exact ⟨⟨kv, vo.keep s, dr.keep (Same.tups s)⟩, ⟨kl, s _ _ e, dl'.keep (Same.tups s)⟩, v.ne, v.gc⟩
private theorem eqL_refl (ts : List Th) : eqL ts ts = true := (eqL_iff ts ts).mpr rfl
private theorem joinSeq {t u : TS} {D : Ends} {σ : L2.St} {H : Hp} (Pq : L2.St → Hp → Prop) (a : ∀ N : L2.St → Hp → Prop, (∀ σ H, Pq σ H → N σ H) → t { D with nx := N } σ H) (rest : ∀ σ H, Pq σ H → u D σ H) : tSeq t u D σ H := a (u D) rest
def More : Th := .tup [.str ("one" : Str), .str ("more" : Str)]
private theorem more_good : Good More := ⟨⟨by decide, ⟨by decide +kernel, by decide +kernel⟩, ⟨by decide +kernel, by decide +kernel⟩, trivial⟩, by decide, by decide⟩
private theorem more_new {H : Hp} {p : Addr} (h : H p = none) : Rep (upd H p (.tup [.str ("one" : Str), .str ("more" : Str)])) More (.ref p) := RepL.new (RepL.cons (.str _) (RepL.cons (.str _) .nil)) h
def spKept (C : Addr) : Sp := fun vs H Q _ => ∃ (a d dl : Addr) (cs : List (Int × Th)), vs = [.ref a, .ref dl] ∧ VL H C a d dl cs ∧ cs.length < 64 ∧ ∀ cs' H', Fr2 d dl H H' → VL H' C a d dl cs' → Q (.bl true) H'
section
variable {P : Program} {w : World} {K : PySem.W.Frag} {mg : Str → Option Value} {base : Heap} {C CC : Addr}
private theorem ok_kept (D : Dfn K mg "_law_kept" s_law_kept ["keeper", "laid"]) (M_things : Mt P w K mg base CX0 C "things" 2 ["self"] (spThings C)) (M_lay : Mt P w K mg base (CX1 P w) C "lay" 14 ["self", "thing"] (spLay C CC)) (F_law_same : Fn P w K mg base "_law_same" 12 ["told", "due"] (spSameE 10)) (F_seal : Fn P w K mg base "seal" 13 ["thing"] spSeal)
    (c_C : Cls K C) (m_sorted : mg "sorted" = none) (m_isinstance : mg "isinstance" = none) (m_list : mg "list" = none) (m_tuple : mg "tuple" = none) : Fn P w K mg base "_law_kept" 15 ["keeper", "laid"] (spKept C) := by
  refine D.ok (k := 14) sc_law_kept (fun vs H Q E h => ?_) (fun f cdv A outer s H vs Q E hr h => ?_)
  · obtain ⟨a, d, dl, cs, rfl, _⟩ := h; rfl
  obtain ⟨a, d, dl, cs, rfl, vl, h64, q⟩ := h
  refine ⟨_, (pss_cons (ps_set (i := 2) sc_law_kept.nd rfl (Or.inl rfl) (pe_mt0 (pv 0) c_C M_things hr (by omega) pass0))
 (pss_cons (ps_lcomp (i := 3) (CompScope.one (y := "laid") (j := 1) (c := s.heap.objs.size + 1) (by rfl) (by rfl) (by decide +kernel) (by decide +kernel) (by rfl) (by decide +kernel) (by rfl) (by decide +kernel) (by rfl) (by first | exact Or.inl rfl | exact Or.inr rfl) (by first | exact Or.inl rfl | exact Or.inr rfl)) rfl (pi_list (pe_callB (call_sortedD64 rfl) (by rfl) m_sorted (by rfl) (pa_cons (pv 1) pa_nil))) (fun _ _ _ => pts_nil) (fun _ _ _ => (pe_dget (hu_of hr) (pv 1) (pv 0) (fun _ _ => rfl))) sc_law_kept.nd rfl (Or.inl rfl) (by rfl))
 (pss_cons (ps_if (PW.pt (pw_or (pt_not (pt_val (pe_callB (call_isinst) (by rfl) m_isinstance (by rfl) (pa_cons (pv 2) (pa_cons (pe_bltn (v := .ty "list") (by rfl) m_list (by rfl) rfl) pa_nil))))) (pw_or1 (pt_not (pt_val (pe_fn F_law_same hr (by omega) (by rfl) (pa_cons (pe_callTy call_tuple_of (by rfl) m_tuple (by rfl) (pa_cons (pv 2) pa_nil)) (pa_cons (pe_callTy call_tuple_of (by rfl) m_tuple (by rfl) (pa_cons (pv 3) pa_nil)) pa_nil))))))))
  (pss_one (ps_ret pe_bl))
  pss_nil)
 (pss_cons (ps_set (i := 4) sc_law_kept.nd rfl (Or.inl rfl) (pe_mt0 (pv 0) c_C M_things hr (by omega) pass0))
 (pss_cons (ps_expr (pe_bm0 PySem.F.plainAttrs_list PySem.F.slot_list_clear PySem.F.type_list_clear mt_clear (pv 2)))
 (pss_cons (ps_if (PW.pt (pw_or (pt_cmpR (op_neLs hr) (pv 4) (pv 3) (nomark _)) (pw_or1 (pt_cmpR (op_neLs hr) (pe_mt0 (pv 0) c_C M_things hr (by omega) pass0) (pv 3) (nomark _)))))
  (pss_one (ps_ret pe_bl))
  pss_nil)
 (pss_cons (ps_if (pt_cmp (pc_dnotin (hu_of hr) (pe_fn F_seal hr (by omega) (by rfl) (pa_cons (pe_tup (pa_cons pe_str (pa_cons pe_str pa_nil))) pa_nil)) (pv 1)))
  (pss_cons (ps_set (i := 5) sc_law_kept.nd rfl (Or.inl rfl) (pe_mt (pv 0) c_C M_lay hr (by omega) pass01 (pa_cons (pe_tup (pa_cons pe_str (pa_cons pe_str pa_nil))) pa_nil)))
 (pss_one (ps_dput (hu_of hr) (pv 1) (pv 5) (pe_tup (pa_cons pe_str (pa_cons pe_str pa_nil))) (by rfl))))
  pss_nil)
 (pss_one (ps_ret (pe_and (pe_cmpR (op_eqLs hr) (pv 4) (pv 3) (nomark _)) (pe_one (pe_cmpR (op_eqLs hr) (pe_mt0 (pv 0) c_C M_things hr (by omega) pass0) (pe_lcomp (CompScope.one (y := "laid") (j := 1) (c := s.heap.objs.size + 1) (by rfl) (by rfl) (by decide +kernel) (by decide +kernel) (by rfl) (by decide +kernel) (by rfl) (by decide +kernel) (by rfl) (by first | exact Or.inl rfl | exact Or.inr rfl) (by first | exact Or.inl rfl | exact Or.inr rfl)) rfl (pi_list (pe_callB (call_sortedD64 rfl) (by rfl) m_sorted (by rfl) (pa_cons (pv 1) pa_nil))) (fun _ _ _ => pts_nil) (fun _ _ _ => (pe_dget (hu_of hr) (pv 1) (pv 0) (fun _ _ => rfl)))) (nomark _))))))))))))), ?_⟩
  obtain ⟨kl, el, drl⟩ := vl.lo
  obtain ⟨kv, vo, drv⟩ := vl.vo
  obtain ⟨⟨dx, fs, eo, fl⟩, ed⟩ := id vo
  refine ⟨_, rfl, a, dx, fs, rfl, eo, fl.n4, a, d, kv, cs, rfl, vo, drv, by omega, fun lt ns tv H1 s1 hlt hpm hs et rt => ?_⟩
  have el1 := s1 _ _ el
  have drl1 := drl.keep (Same.tups s1)
  refine ⟨_, rfl, dl, kl, rfl, el1, drl1.keys.2, by rw [drl1.len]; omega, fun l ns' hl hpm' hs' => ?_⟩
  rw [drl1.keys.1] at hpm'
  have en : ns' = ns := rise_uniq (hpm'.trans hpm.symm) hs' hs
  subst en
  have e2 : upd H1 l (.lst (ns'.map V.int)) l = some (.lst (ns'.map V.int)) := upd_same
  have s2 : Same H1 (upd H1 l (.lst (ns'.map V.int))) := same_new (Same.refl H1) hl
  generalize upd H1 l (.lst (ns'.map V.int)) = H2 at e2 s2
  have nl : ns'.length ≤ 64 := by rw [hpm.length_eq, List.length_map]; omega
  refine ⟨l, rfl, ⟨_, SqL.of e2⟩, fun pd hpd => ?_⟩
  refine risen_comp (drl1.keep (Same.tups s2)) e2 hpm nl hpd (fun n v H' Z ev sm z => ?_) fun dv H3 s3 edv rd => ?_
  · exact ⟨_, rfl, _, rfl, dl, v, rfl, by rw [← ev]; exact DGet.k (k := Sum.inl n) (sm _ _ (s2 _ _ el1)), z⟩
  have s13 : Same H1 H3 := fun b o e => s3 b o (s2 b o e)
  have s03 : Same H H3 := fun b o e => s13 b o (s1 b o e)
  have et3 := s13 _ _ et
  have rt3 := rt.keep (Same.tups s13)
  have ltd : lt ≠ pd := ne_of_none (s2 _ _ et) hpd
  have wd := worths_dep vl.gc ns'
  have hlt0 := hlt
  have hpd0 : H pd = none := by
    cases z : H pd with
    | none => rfl
    | some o => rw [s2 _ _ (s1 _ _ z)] at hpd; cases hpd
  have dL := depL_le wd
  have dT : dep (.tup (worths cs ns')) = depL (worths cs ns') + 1 := rfl
  refine ⟨_, rfl, _, _, _, _, rfl, .lst et3, rfl, _, rfl, ifF rfl ?_⟩
  refine ⟨_, rfl, lt, tv, rfl, .inl ⟨SqL.of et3, fun p1 hp1 => ⟨_, rfl, pd, dv, rfl, .inl ⟨SqL.of (by rw [upd_ne (ne_of_none edv hp1)]; exact edv), fun p2 hp2 => ?_⟩⟩⟩⟩
  have r1 : Rep (upd (upd H3 p1 (.tup tv)) p2 (.tup dv)) (.tup (worths cs ns')) (.ref p1) := (rt3.new hp1).keep (Tups.new hp2)
  have r2 : Rep (upd (upd H3 p1 (.tup tv)) p2 (.tup dv)) (.tup (worths cs ns')) (.ref p2) := (rd.keep (Tups.new hp1)).new hp2
  have s34 : Same H3 (upd (upd H3 p1 (.tup tv)) p2 (.tup dv)) := same_new (same_new (Same.refl H3) hp1) hp2
  generalize upd (upd H3 p1 (.tup tv)) p2 (.tup dv) = H4 at r1 r2 s34
  refine ⟨.tup _, .tup _, _, _, rfl, r1, r2, by omega, by omega, by omega, fun H5 s5 => ⟨_, rfl, ?_⟩⟩
  rw [eqT_refl]
  refine ifF rfl ?_
  have s35 : Same H3 H5 := fun b o e => s5 b o (s34 b o e)
  have s05 : Same H H5 := fun b o e => s35 b o (s03 b o e)
  have vl5 := vl.same s05
  obtain ⟨kv5, vo5, drv5⟩ := vl5.vo
  obtain ⟨⟨dx5, fs5, eo5, fl5⟩, ed5⟩ := id vo5
  refine ⟨_, rfl, a, dx5, fs5, rfl, eo5, fl5.n4, a, d, kv5, cs, rfl, vo5, drv5, by omega, fun la ns2 av H6 s6 hla hpm2 hs2 ea ra => ?_⟩
  have en2 : ns2 = ns' := rise_uniq (hpm2.trans hpm.symm) hs2 hs
  subst en2
  have s36 : Same H3 H6 := fun b o e => s6 b o (s35 b o e)
  have s06 : Same H H6 := fun b o e => s6 b o (s05 b o e)
  have et6 := s36 _ _ et3
  have ed6 := s36 _ _ edv
  have rd6 := rd.keep (Same.tups s36)
  have lal : la ≠ lt := (ne_of_none (s35 _ _ et3) hla).symm
  refine ⟨_, rfl, .inl ⟨rfl, _, SqL.of et6⟩, lt, tv, rfl, rfl, et6, ?_⟩
  have s07 : Same H (upd H6 lt (.lst [])) := same_upd s06 hlt0
  have ea7 : upd H6 lt (.lst []) la = some (.lst av) := by rw [upd_ne lal]; exact ea
  have ed7 : upd H6 lt (.lst []) pd = some (.lst dv) := by rw [upd_ne (Ne.symm ltd)]; exact ed6
  have tk7 : Tups H6 (upd H6 lt (.lst [])) := Tups.upd fun xs z => by rw [et6] at z; cases z
  have ra7 := ra.keep tk7
  have rd7 := rd6.keep tk7
  have hla0 : H la = none := by
    cases z : H la with
    | none => rfl
    | some o => rw [s05 _ _ z] at hla; cases hla
  generalize upd H6 lt (.lst []) = H7 at s07 ea7 ed7 tk7 ra7 rd7
  have wd50 : ∀ t ∈ worths cs ns2, dep t ≤ 50 := fun t ht => Nat.le_trans (wd t ht) (by decide)
  refine ⟨_, rfl, _, rfl, la, pd, av, dv, _, _, rfl, rfl, SqL.of ea7, SqL.of ed7, ra7, rd7, wd50, _, rfl, ?_⟩
  rw [eqL_refl]
  refine ifF rfl ?_
  have vl7 := vl.same s07
  obtain ⟨kv7, vo7, drv7⟩ := vl7.vo
  obtain ⟨⟨dx7, fs7, eo7, fl7⟩, edd7⟩ := id vo7
  refine ⟨_, rfl, a, dx7, fs7, rfl, eo7, fl7.n4, a, d, kv7, cs, rfl, vo7, drv7, by omega, fun lb ns3 bv H8 s8 hlb hpm3 hs3 eb rb => ?_⟩
  have en3 : ns3 = ns2 := rise_uniq (hpm3.trans hpm.symm) hs3 hs
  subst en3
  have ed8 := s8 _ _ ed7
  have rd8 := rd7.keep (Same.tups s8)
  refine ⟨_, rfl, lb, pd, bv, dv, _, _, rfl, rfl, SqL.of eb, SqL.of ed8, rb, rd8, wd50, _, rfl, ?_⟩
  rw [eqL_refl]
  refine ifF rfl ?_
  have s08 : Same H H8 := fun b o e => s8 b o (s07 b o e)
  have ea8 := s8 _ _ ea7
  have ra8 := ra7.keep (Same.tups s8)
  dsimp only [tNext]
  refine joinSeq (fun σ H' => ∃ (k5 : Option V) (cs' : List (Int × Th)), σ = [some (.ref a), some (.ref dl), some (.ref lt), some (.ref pd), some (.ref la), k5] ∧ Fr2 d dl H H' ∧ VL H' C a d dl cs' ∧ cs'.length ≤ 64 ∧ H' la = some (.lst av) ∧ H' pd = some (.lst dv) ∧ RepL H' (worths cs ns3) av ∧ RepL H' (worths cs ns3) dv) (fun N k => ?_) ?_
  · refine ⟨szl (show 2 ≤ 1000 by decide), fun p hp => ?_⟩
    have rm := more_new hp
    have s8p := same_new (o := .tup [.str ("one" : Str), .str ("more" : Str)]) (Same.refl H8) hp
    generalize upd H8 p (.tup [.str ("one" : Str), .str ("more" : Str)]) = H8' at rm s8p
    refine ⟨More, _, rfl, rm, more_good.wf, by decide, by decide, fun H9 s9 => ?_⟩
    have s89 : Same H8 H9 := fun b o e => s9 b o (s8p b o e)
    have s09 : Same H H9 := fun b o e => s89 b o (s08 b o e)
    have vl9 := vl.same s09
    obtain ⟨kl9, el9, drl9⟩ := vl9.lo
    obtain ⟨kv9, vo9, drv9⟩ := vl9.vo
    obtain ⟨⟨dx9, fs9, eo9, fl9⟩, edd9⟩ := id vo9
    have ea9 := s89 _ _ ea8
    have ed9 := s89 _ _ ed8
    have ra9 := ra8.keep (Same.tups s89)
    have rd9 := rd8.keep (Same.tups s89)
    refine ⟨_, rfl, dl, _, rfl, DGet.k (k := Sum.inl (sealT More)) el9, _, rfl, ?_⟩
    cases z : lookT cs (sealT More) with
    | some u =>
      obtain ⟨y, ey, ry⟩ := drl9.some z
      rw [ey]
      exact ifF rfl (k _ _ ⟨_, cs, rfl, fun b o n1 n2 e => s09 b o e, vl9, by omega, ea9, ed9, ra9, rd9⟩)
    | none =>
      rw [drl9.none z]
      refine ifT rfl ?_
      refine ⟨_, rfl, a, dx9, fs9, rfl, eo9, fl9.n2, szl (show 2 ≤ 1000 by decide), fun p2 hp2 => ?_⟩
      have rm2 := more_new hp2
      have s910 := same_new (o := .tup [.str ("one" : Str), .str ("more" : Str)]) (Same.refl H9) hp2
      generalize upd H9 p2 (.tup [.str ("one" : Str), .str ("more" : Str)]) = H10 at rm2 s910
      have vl10 := vl9.same s910
      have vo10 := vo9.keep s910
      have drv10 := drv9.keep (Same.tups s910)
      have lv := drv9.len
      have ll := drl9.len
      have ft : Fits cs (sealT More) More := .inl z
      refine ⟨a, d, kv9, More, _, rfl, vo10, drv10.laidOk vl.gc.gd, by omega, rm2, more_good, fun H11 s11 _ => ?_, fun t1 v1 Hx sx ev r1 g1 sn ne => absurd (fits_alike drv10 ft (Same.tups sx) t1 v1 ev r1) ne⟩
      have s911 : Same H9 H11 := fun b o e => s11 b o (s910 b o e)
      have edd11 := s911 _ _ edd9
      have eo11 := s911 _ _ eo9
      have nad : a ≠ d := ne_of eo9 edd9 (by intro z; cases z)
      have tk12 : Tups H11 (upd H11 d (.dK (putK kv9 (.inl (sealT More)) (.ref p2)))) := Tups.upd fun xs z => by rw [edd11] at z; cases z
      have f12 : ∀ b o, b ≠ d → H9 b = some o → upd H11 d (.dK (putK kv9 (.inl (sealT More)) (.ref p2))) b = some o := fun b o nb e => by rw [upd_ne nb]; exact s911 _ _ e
      have ed12 : upd H11 d (.dK (putK kv9 (.inl (sealT More)) (.ref p2))) d = some (.dK (putK kv9 (.inl (sealT More)) (.ref p2))) := upd_same
      have tk912 : Tups H9 (upd H11 d (.dK (putK kv9 (.inl (sealT More)) (.ref p2)))) := (Same.tups s911).trans tk12
      have dv12 : DRep (upd H11 d (.dK (putK kv9 (.inl (sealT More)) (.ref p2)))) (addT cs (sealT More) More) (putK kv9 (.inl (sealT More)) (.ref p2)) := (drv9.keep tk912).add ((rm2.keep (Same.tups s11)).keep tk12) ft vl.gc.nd
      generalize upd H11 d (.dK (putK kv9 (.inl (sealT More)) (.ref p2))) = H12 at tk12 f12 ed12 tk912 dv12
      refine ⟨szl (show 2 ≤ 1000 by decide), fun p3 hp3 => ?_⟩
      have rm3 := more_new hp3
      have s13' := same_new (o := .tup [.str ("one" : Str), .str ("more" : Str)]) (Same.refl H12) hp3
      generalize upd H12 p3 (.tup [.str ("one" : Str), .str ("more" : Str)]) = H13 at rm3 s13'
      have el13 := s13' _ _ (f12 _ _ (Ne.symm vl.ne) el9)
      refine ⟨_, rfl, _, rfl, dl, _, rfl, DPut.k (k := Sum.inl (sealT More)) el13 (Nat.lt_of_le_of_lt (show kl9.length ≤ 900 by omega) (by decide)), ?_⟩
      have tk14 : Tups H13 (upd H13 dl (.dK (putK kl9 (.inl (sealT More)) (.ref p3)))) := Tups.upd fun xs z => by rw [el13] at z; cases z
      have tk914 : Tups H9 (upd H13 dl (.dK (putK kl9 (.inl (sealT More)) (.ref p3)))) := (tk912.trans (Same.tups s13')).trans tk14
      have f14 : ∀ b o, b ≠ dl → H12 b = some o → upd H13 dl (.dK (putK kl9 (.inl (sealT More)) (.ref p3))) b = some o := fun b o nb e => by rw [upd_ne nb]; exact s13' _ _ e
      have el14 : upd H13 dl (.dK (putK kl9 (.inl (sealT More)) (.ref p3))) dl = some (.dK (putK kl9 (.inl (sealT More)) (.ref p3))) := upd_same
      have dl14 : DRep (upd H13 dl (.dK (putK kl9 (.inl (sealT More)) (.ref p3)))) (addT cs (sealT More) More) (putK kl9 (.inl (sealT More)) (.ref p3)) := (drl9.keep tk914).add (rm3.keep tk14) ft vl.gc.nd
      have dv14 := dv12.keep ((Same.tups s13').trans tk14)
      generalize upd H13 dl (.dK (putK kl9 (.inl (sealT More)) (.ref p3))) = H14 at tk14 tk914 f14 el14 dl14 dv14
      have f914 : ∀ b o, b ≠ d → b ≠ dl → H9 b = some o → H14 b = some o := fun b o n1 n2 e => f14 b o n2 (f12 b o n1 e)
      have nal : a ≠ dl := ne_of eo9 el9 (by intro z; cases z)
      have vo14 : VOk H14 C a d (putK kv9 (.inl (sealT More)) (.ref p2)) := ⟨⟨dx9, fs9, f914 _ _ nad nal eo9, fl9⟩, f14 _ _ vl.ne ed12⟩
      refine k _ _ ⟨_, addT cs (sealT More) More, rfl, fun b o n1 n2 e => f914 b o n1 n2 (s09 b o e), ⟨⟨_, vo14, dv14⟩, ⟨_, el14, dl14⟩, vl.ne, vl.gc.add more_good rfl⟩, Nat.le_trans (addT_len _ _ _) (by omega), f914 _ _ (ne_of ea9 edd9 (by intro z; cases z)) (ne_of ea9 el9 (by intro z; cases z)) ea9, f914 _ _ (ne_of ed9 edd9 (by intro z; cases z)) (ne_of ed9 el9 (by intro z; cases z)) ed9, ra9.keep tk914, rd9.keep tk914⟩
  rintro σ H9 ⟨k5, cs', rfl, fr9, vl9, le9, ea9, ed9, ra9, rd9⟩
  refine ⟨_, rfl, _, rfl, la, pd, av, dv, _, _, rfl, rfl, SqL.of ea9, SqL.of ed9, ra9, rd9, wd50, true, congrArg V.bl (eqL_refl _), ifT rfl ?_⟩
  obtain ⟨kv9, vo9, drv9⟩ := vl9.vo
  obtain ⟨kl9, el9, drl9⟩ := vl9.lo
  obtain ⟨⟨dx9, fs9, eo9, fl9⟩, _⟩ := id vo9
  refine ⟨_, rfl, a, dx9, fs9, rfl, eo9, fl9.n4, a, d, kv9, cs', rfl, vo9, drv9, le9, fun lc ns4 cv H10 s10 hlc hpm4 hs4 ec rc => ?_⟩
  have el10 := s10 _ _ el9
  have drl10 := drl9.keep (Same.tups s10)
  refine ⟨_, rfl, dl, kl9, rfl, el10, drl10.keys.2, by rw [drl10.len]; exact le9, fun l ns5 hl hpm5 hs5 => ?_⟩
  rw [drl10.keys.1] at hpm5
  have en5 : ns5 = ns4 := rise_uniq (hpm5.trans hpm4.symm) hs5 hs4
  subst en5
  have e11 : upd H10 l (.lst (ns5.map V.int)) l = some (.lst (ns5.map V.int)) := upd_same
  have s11 : Same H10 (upd H10 l (.lst (ns5.map V.int))) := same_new (Same.refl H10) hl
  generalize upd H10 l (.lst (ns5.map V.int)) = H11 at e11 s11
  refine ⟨l, rfl, ⟨_, SqL.of e11⟩, fun pe hpe => ?_⟩
  refine risen_comp (drl10.keep (Same.tups s11)) e11 hpm4 (by rw [hpm4.length_eq, List.length_map]; exact le9) hpe (fun n v H' Z ev sm z => ?_) fun ev H12 s12 ee re => ?_
  · exact ⟨_, rfl, _, rfl, dl, v, rfl, by rw [← ev]; exact DGet.k (k := Sum.inl n) (sm _ _ (s11 _ _ el10)), z⟩
  have s1012 : Same H10 H12 := fun b o e => s12 b o (s11 b o e)
  have s912 : Same H9 H12 := fun b o e => s1012 b o (s10 b o e)
  refine ⟨lc, pe, cv, ev, _, _, rfl, rfl, SqL.of (s1012 _ _ ec), SqL.of ee, rc.keep (Same.tups s1012), re, fun t ht => Nat.le_trans (worths_dep vl9.gc ns5 t ht) (by decide), ?_⟩
  rw [eqL_refl]
  exact q cs' H12 (fun b o n1 n2 e => s912 b o (fr9 b o n1 n2 e)) (vl9.same s912)
end
end Pv
set_option Elab.async false
set_option linter.all false
set_option maxRecDepth 100000
set_option maxHeartbeats 4000000
namespace L2
open PySem PySem.Spec PyProof.Rows
private theorem pe_any {X : Cx} {e : Expr} {Ws : List Addr} {t : Addr → TE} (h : ∀ W, W ∈ Ws → PE X e (t W)) : PE X e (fun σ H Q => ∃ W, W ∈ Ws ∧ t W σ H Q) := by
  intro pins s σ H Q I q
  obtain ⟨W, hW, q⟩ := q
  exact h W hW pins s σ H Q I q
end L2
namespace Pv
open PySem L2
abbrev slaw : Stmt := top 36
private theorem sclaw : FnScope ["script", "vaults", "laid", "cell", "row", "at", "new", "own", "number", "k"] ["script"] (defScope slaw) := ⟨rfl, rfl, rfl, by decide +kernel, rfl, by decide +kernel, by decide +kernel⟩
def spLaw (K : PySem.W.Frag) : Sp := fun vs H Q _ => ∃ (a : Addr) (ns : List Int), vs = [.ref a] ∧ SqL K H a (ns.map V.int) ∧ ns.length ≤ 63 ∧ ∀ H', Q (.bl true) H'
def jI (j : Bool) : Int := if j then 1 else 0
private theorem j_of {r : Int} (h0 : 0 ≤ r) (h1 : r < 2) : ∃ j, r = jI j := by
  rcases (show r = 0 ∨ r = 1 by omega) with rfl | rfl
  · exact ⟨false, rfl⟩
  · exact ⟨true, rfl⟩
private theorem VL.fr {H H' : Hp} {W a d dl d' l' : Addr} {cs : List (Int × Th)} {k1 k2 : List (Key × V)} (v : VL H W a d dl cs) (f : Fr2 d' l' H H') (e1 : H d' = some (.dK k1)) (e2 : H l' = some (.dK k2)) (n1 : d ≠ d') (n2 : d ≠ l') (n3 : dl ≠ d') (n4 : dl ≠ l') : VL H' W a d dl cs := by
  obtain ⟨⟨kv, ⟨⟨dx, fs, eo, fl⟩, ed⟩, dr⟩, ⟨kl, el, drl⟩, ne, gc⟩ := v
  have tk : Tups H H' := fun b xs e => f b _ (ne_of e e1 (by intro z; cases z)) (ne_of e e2 (by intro z; cases z)) e
  exact ⟨⟨kv, ⟨⟨dx, fs, f _ _ (ne_of eo e1 (by intro z; cases z)) (ne_of eo e2 (by intro z; cases z)) eo, fl⟩, f _ _ n1 n2 ed⟩, dr.keep tk⟩, ⟨kl, f _ _ n3 n4 el, drl.keep tk⟩, ne, gc⟩
structure LS (H : Hp) (W a d l : Bool → Addr) (pv pl : Addr) (cs : Bool → List (Int × Th)) : Prop where
  ev : H pv = some (.lst [.ref (a false), .ref (a true)])
  el : H pl = some (.lst [.ref (l false), .ref (l true)])
  vl : ∀ j, VL H (W j) (a j) (d j) (l j) (cs j)
  ne : ∀ i j, i ≠ j → d i ≠ d j ∧ d i ≠ l j ∧ l i ≠ l j
private theorem LS.same {H H' : Hp} {W a d l : Bool → Addr} {pv pl : Addr} {cs : Bool → List (Int × Th)} (v : LS H W a d l pv pl cs) (s : Same H H') : LS H' W a d l pv pl cs := ⟨s _ _ v.ev, s _ _ v.el, fun j => (v.vl j).same s, v.ne⟩
def setB (cs : Bool → List (Int × Th)) (j : Bool) (c : List (Int × Th)) : Bool → List (Int × Th) := fun i => if i = j then c else cs i
private theorem LS.step {H H' : Hp} {W a d l : Bool → Addr} {pv pl : Addr} {cs : Bool → List (Int × Th)} {j : Bool} {c : List (Int × Th)} (v : LS H W a d l pv pl cs) (f : Fr2 (d j) (l j) H H') (vj : VL H' (W j) (a j) (d j) (l j) c) : LS H' W a d l pv pl (setB cs j c) := by
  obtain ⟨kv, vo, _⟩ := (v.vl j).vo
  obtain ⟨kl, el, _⟩ := (v.vl j).lo
  have ed := vo.di
  refine ⟨f _ _ (ne_of v.ev ed (by intro z; cases z)) (ne_of v.ev el (by intro z; cases z)) v.ev, f _ _ (ne_of v.el ed (by intro z; cases z)) (ne_of v.el el (by intro z; cases z)) v.el, fun i => ?_, v.ne⟩
  by_cases z : i = j
  · subst z
    show VL H' (W i) (a i) (d i) (l i) (if i = i then c else cs i)
    rw [if_pos rfl]; exact vj
  · show VL H' (W i) (a i) (d i) (l i) (if i = j then c else cs i)
    rw [if_neg z]
    obtain ⟨n1, n2, n3⟩ := v.ne i j z
    obtain ⟨m1, m2, m3⟩ := v.ne j i (Ne.symm z)
    exact (v.vl i).fr f ed el n1 n2 (Ne.symm m2) n3
private theorem new_vault {C x dx : Addr} {H : Hp} {Z : Hp → Prop} {E : XK} (hx : H x = none) (hdx : H dx = none) (n : dx ≠ x) (q : ∀ d H', Same H H' → H d = none → H' x = some (.ins C dx [("laid", .ref d)]) → H' d = some (.dK []) → Z H') :
    spVInit C [.ref x] (upd (upd H dx (.own x)) x (.ins C dx [])) (fun v H2 => v = .non ∧ Z H2) E := by
  refine ⟨x, dx, rfl, upd_same, fun d hd => ⟨rfl, ?_⟩⟩
  have xd : x ≠ d := fun z => by rw [← z, upd_same] at hd; cases hd
  have dd : dx ≠ d := fun z => by rw [← z, upd_ne n, upd_same] at hd; cases hd
  have hd0 : H d = none := by rw [upd_ne (Ne.symm xd), upd_ne (Ne.symm dd)] at hd; exact hd
  refine q d _ (fun b o e => ?_) hd0 upd_same (by rw [upd_ne (Ne.symm xd)]; exact upd_same)
  have n1 := ne_of_none e hx
  rw [upd_ne n1, upd_ne (ne_of_none e hd0), upd_ne n1, upd_ne (ne_of_none e hdx)]; exact e
private theorem cut_front (ns : List Int) (k : Int) (h : 0 ≤ k) : ∃ ms : List Int, cutV (ns.map V.int) none (some k) = ms.map V.int ∧ (ms.length : Int) ≤ k ∧ ms.length ≤ ns.length := by
  refine ⟨ns.take (min k.toNat ns.length), ?_, ?_, ?_⟩
  · have e : k = ((k.toNat : Nat) : Int) := by omega
    unfold cutV
    rw [HT.sIx_none, e, HT.sIx_nat, List.length_map, List.map_take]
    rfl
  · rw [List.length_take]; omega
  · rw [List.length_take]; omega
private theorem SqL.keepS {K : PySem.W.Frag} {H H' : Hp} {a : Addr} {xs : List V} (h : SqL K H a xs) (s : Same H H') : SqL K H' a xs := by
  rcases h with h | h
  · rcases h with h | ⟨o, h⟩
    · exact .inl (.inl (s _ _ h))
    · exact .inl (.inr ⟨o, s _ _ h⟩)
  · exact .inr h
def spLaid2 (Ws : List Addr) : Sp := fun vs H Q _ => ∃ (W a d dl : Addr) (cs : List (Int × Th)) (t : Th) (v : V), W ∈ Ws ∧ vs = [.ref a, .ref dl, v] ∧ VL H W a d dl cs ∧ cs.length ≤ 800 ∧ Rep H t v ∧ Good t ∧
  ∀ cs' H', Fr2 d dl H H' → VL H' W a d dl cs' → (∃ u, lookT cs' (sealT t) = some u) → cs'.length ≤ cs.length + 1 → Q (.bl true) H'
private theorem ok_laid2 {P : Program} {w : World} {K : PySem.W.Frag} {mg : Str → Option Value} {base : Heap} {Ws : List Addr} (F : Fn P w K mg base "_law_laid" 15 ["vault", "laid", "new"] (spLaidL Ws)) : Fn P w K mg base "_law_laid" 15 ["vault", "laid", "new"] (spLaid2 Ws) := F.imp fun vs H Q E h => by
  obtain ⟨W, a, d, dl, cs, t, v, hW, rfl, vl, hl, rt, gt, k⟩ := h
  refine ⟨W, a, d, dl, cs, t, v, hW, rfl, vl, hl, rt, gt, fun nf H' s => ?_, fun f H' fr vl' => ?_⟩
  · refine k cs H' (fun b o _ _ e => s b o e) (vl.same s) ?_ (by omega)
    cases z : lookT cs (sealT t) with
    | none => exact absurd (.inl z) nf
    | some u => exact ⟨u, rfl⟩
  · exact k _ H' fr vl' ⟨t, lookT_added f⟩ (addT_len _ _ _)
private theorem seven {a b c d e f g : Int} : ∀ y ∈ [V.int a, V.int b, V.int c, V.int d, V.int e, V.int f, V.int g], ∃ n, y = V.int n := by
  intro y hy
  simp only [List.mem_cons, List.not_mem_nil, or_false] at hy
  rcases hy with h | h | h | h | h | h | h <;> exact ⟨_, h⟩
private theorem at2 (f : Bool → Addr) (j : Bool) : atI [V.ref (f false), V.ref (f true)] (jI j) = some (.ref (f j)) := by cases j <;> rfl
section
variable {P : Program} {w : World} {K : PySem.W.Frag} {mg : Str → Option Value} {base : Heap} {CV CK CC CNoPaper : Addr}
private theorem ok_law {f : Addr} {fd : FuncData} (F : Fun K "law" "law" slaw f fd) (F_law_row : Fn P w K mg base "_law_row" 1 ["cell"] spRow) (F_law_take : Fn P w K mg base "_law_take" 1 ["row", "many"] spTake) (F_law_new : Fn P w K mg base "_law_new" 7 ["jar"] spNew) (F_seal : Fn P w K mg base "seal" 13 ["thing"] spSeal)
    (F_law_same : Fn P w K mg base "_law_same" 12 ["told", "due"] (spSameE 10)) (F_law_laid : Fn P w K mg base "_law_laid" 15 ["vault", "laid", "new"] (spLaid2 [CV, CK])) (F_law_refused : Fn P w K mg base "_law_refused" 3 ["vault", "number"] (spRfs [CV, CK])) (F_law_kept : Fn P w K mg base "_law_kept" 15 ["keeper", "laid"] (spKept CK)) (F_law_told : Fn P w K mg base "_law_told" 13 ["vault", "laid"] (spToldL [CV, CK]))
    (K_Vault : Mkr P w K mg base "Vault" CV 1 ["self"] (spVInit CV)) (K_Keeper : Mkr P w K mg base "Keeper" CK 1 ["self"] (spVInit CK)) (M : ∀ W ∈ [CV, CK], Mt P w K mg base (CX1 P w) W "thing" 1 ["self", "number"] (spThingX W CNoPaper)) (Cc : ∀ W ∈ [CV, CK], Cls K W) (m_range : mg "range" = none) : FnOk P w K mg base CX0 65 f fd ["script"] (spLaw K) := by
  refine F.ok (k := 64) sclaw (fun vs H Q E h => ?_) (fun cdv A outer s H vs Q E hr h => ?_)
  · obtain ⟨a, ns, rfl, _⟩ := h; rfl
  obtain ⟨a, ns, rfl, hS, h63, q⟩ := h
  refine ⟨_, (PSq.h (pq_cons (PSw.mk (ps_set (i := 1) sclaw.nd rfl (Or.inl rfl) (pe_lst (pa_cons (pe_mkr0 K_Vault hr (by omega) (by rfl)) (pa_cons (pe_mkr0 K_Keeper hr (by omega) (by rfl)) pa_nil)))))
 (pq_cons (PSw.mk (ps_set (i := 2) sclaw.nd rfl (Or.inl rfl) (pe_lst (pa_cons pe_dnewK (pa_cons pe_dnewK pa_nil)))))
 (pq_cons (PSw.mk (ps_for PassesOwn.never rfl (pi_list (pe_slice sl_list (pv 0) po_none (po_some pe_int))) (pg_name (i := 3) sclaw.nd rfl (Or.inl rfl))
  (pss_cons (ps_set (i := 4) sclaw.nd rfl (Or.inl rfl) (pe_fn F_law_row hr (by omega) (by rfl) (pa_cons (pv 3) pa_nil)))
 (pss_cons (ps_set (i := 5) sclaw.nd rfl (Or.inl rfl) (pe_fn F_law_take hr (by omega) (by rfl) (pa_cons (pv 4) (pa_cons pe_int pa_nil))))
 (pss_cons (ps_set (i := 6) sclaw.nd rfl (Or.inl rfl) (pe_fn F_law_new hr (by omega) (by rfl) (pa_cons (pv 4) pa_nil)))
 (pss_cons (ps_set (i := 7) sclaw.nd rfl (Or.inl rfl) (pe_fn F_seal hr (by omega) (by rfl) (pa_cons (pv 6) pa_nil)))
 (pss_cons (ps_if (PW.pt (pw_or (pt_not (pt_val (pe_fn F_law_laid hr (by omega) (by rfl) (pa_cons (pe_ix ix_list (pv 1) (pv 5) (fun _ _ => rfl)) (pa_cons (pe_ix ix_list (pv 2) (pv 5) (fun _ _ => rfl)) (pa_cons (pv 6) pa_nil)))))) (pw_or1 (pt_not (pt_val (pe_fn F_law_same hr (by omega) (by rfl) (pa_cons (pe_any fun W hW => pe_mt (pe_ix ix_list (pv 1) (pv 5) (fun _ _ => rfl)) (Cc W hW) (M W hW) hr (by omega) pass01 (pa_cons (pv 7) pa_nil)) (pa_cons (pe_dget (hu_of hr) (pe_ix ix_list (pv 2) (pv 5) (fun _ _ => rfl)) (pv 7) (fun _ _ => rfl)) pa_nil))))))))
  (pss_one (ps_ret pe_bl))
  pss_nil)
 (pss_one (ps_for PassesOwn.never rfl (pi_list (pe_lst (pa_cons pe_int (pa_cons (pe_un un_neg pe_int) (pa_cons (pe_op op_add (pv 7) pe_int) (pa_cons (pe_op op_add (pv 7) (pe_op op_pow pe_int pe_int)) (pa_cons (pe_op op_sub pe_int (pv 7)) (pa_cons (pe_op op_pow pe_int pe_int) (pa_cons (pe_op op_mod (pv 3) (pe_op op_pow pe_int pe_int)) pa_nil))))))))) (pg_name (i := 8) sclaw.nd rfl (Or.inl rfl))
  (pss_one (ps_for PassesOwn.never rfl (pi_range1 rfl m_range (pa_cons pe_int pa_nil)) (pg_name (i := 9) sclaw.nd rfl (Or.inl rfl))
  (pss_one (ps_if (PW.pt (pw_and (pt_cmp (pc_dnotin (hu_of hr) (pv 8) (pe_ix ix_list (pv 2) (pv 9) (fun _ _ => rfl)))) (pw_and1 (pt_not (pt_val (pe_fn F_law_refused hr (by omega) (by rfl) (pa_cons (pe_ix ix_list (pv 1) (pv 9) (fun _ _ => rfl)) (pa_cons (pv 8) pa_nil))))))))
  (pss_one (ps_ret pe_bl))
  pss_nil)))))))))))))
 (pq_cons (PSw.mk (ps_if (pt_not (pt_val (pe_fn F_law_kept hr (by omega) (by rfl) (pa_cons (pe_ix ix_list (pv 1) pe_int (fun _ _ => rfl)) (pa_cons (pe_ix ix_list (pv 2) pe_int (fun _ _ => rfl)) pa_nil)))))
  (pss_one (ps_ret pe_bl))
  pss_nil))
 (pq_one (PSw.mk (ps_ret (pe_and (pe_fn F_law_told hr (by omega) (by rfl) (pa_cons (pe_ix ix_list (pv 1) pe_int (fun _ _ => rfl)) (pa_cons (pe_ix ix_list (pv 2) pe_int (fun _ _ => rfl)) pa_nil))) (pe_one (pe_fn F_law_told hr (by omega) (by rfl) (pa_cons (pe_ix ix_list (pv 1) pe_int (fun _ _ => rfl)) (pa_cons (pe_ix ix_list (pv 2) pe_int (fun _ _ => rfl)) pa_nil))))))))))))), ?_⟩
  intro x0 dx0 hx0 hdx0 nd0
  refine new_vault hx0 hdx0 nd0 fun d0 H1 s1 hd0 ex0 ed0 => ?_
  intro x1 dx1 hx1 hdx1 nd1
  refine new_vault hx1 hdx1 nd1 fun d1 H2 s2 hd1 ex1 ed1 => ?_
  refine ⟨szl (show 2 ≤ 1000 by decide), fun pv hpv => ?_⟩
  have n01 : d0 ≠ d1 := ne_of_none ed0 hd1
  have e2x0 := s2 _ _ ex0
  have e2d0 := s2 _ _ ed0
  have s3 := same_new (o := .lst [.ref x0, .ref x1]) (Same.refl H2) hpv
  have epv : upd H2 pv (.lst [.ref x0, .ref x1]) pv = some (.lst [.ref x0, .ref x1]) := upd_same
  generalize upd H2 pv (.lst [.ref x0, .ref x1]) = H3 at s3 epv
  intro l0 hl0
  have s4 := same_new (o := .dK []) (Same.refl H3) hl0
  have el0 : upd H3 l0 (.dK []) l0 = some (.dK []) := upd_same
  have a0 : d0 ≠ l0 := ne_of_none (s3 _ _ e2d0) hl0
  have a1 : d1 ≠ l0 := ne_of_none (s3 _ _ ed1) hl0
  generalize upd H3 l0 (.dK []) = H4 at s4 el0
  intro l1 hl1
  have s5 := same_new (o := .dK []) (Same.refl H4) hl1
  have el1 : upd H4 l1 (.dK []) l1 = some (.dK []) := upd_same
  have b0 : d0 ≠ l1 := ne_of_none (s4 _ _ (s3 _ _ e2d0)) hl1
  have b1 : d1 ≠ l1 := ne_of_none (s4 _ _ (s3 _ _ ed1)) hl1
  have b2 : l0 ≠ l1 := ne_of_none el0 hl1
  generalize upd H4 l1 (.dK []) = H5 at s5 el1
  refine ⟨szl (show 2 ≤ 1000 by decide), fun pl hpl => ?_⟩
  have s6 := same_new (o := .lst [.ref l0, .ref l1]) (Same.refl H5) hpl
  have epl : upd H5 pl (.lst [.ref l0, .ref l1]) pl = some (.lst [.ref l0, .ref l1]) := upd_same
  generalize upd H5 pl (.lst [.ref l0, .ref l1]) = H6 at s6 epl
  have s36 : Same H3 H6 := fun b o e => s6 b o (s5 b o (s4 b o e))
  have s06 : Same H H6 := fun b o e => s36 b o (s3 b o (s2 b o (s1 b o e)))
  have s26 : Same H2 H6 := fun b o e => s36 b o (s3 b o e)
  have ls6 : LS H6 (fun j => cond j CK CV) (fun j => cond j x1 x0) (fun j => cond j d1 d0) (fun j => cond j l1 l0) pv pl (fun _ => []) := by
    refine ⟨s36 _ _ epv, epl, fun j => ?_, fun i j z => ?_⟩
    · cases j
      · exact ⟨⟨[], ⟨⟨dx0, _, s26 _ _ e2x0, flds1 d0⟩, s26 _ _ e2d0⟩, .nil⟩, ⟨[], s6 _ _ (s5 _ _ el0), .nil⟩, a0, GoodC.nil⟩
      · exact ⟨⟨[], ⟨⟨dx1, _, s26 _ _ ex1, flds1 d1⟩, s26 _ _ ed1⟩, .nil⟩, ⟨[], s6 _ _ el1, .nil⟩, b1, GoodC.nil⟩
    · cases i <;> cases j
      · exact absurd rfl z
      · exact ⟨n01, b0, b2⟩
      · exact ⟨n01.symm, a1, b2.symm⟩
      · exact absurd rfl z
  have hW : ∀ j : Bool, (fun j => cond j CK CV : Bool → Addr) j ∈ [CV, CK] := fun j => by cases j <;> simp
  have hK : (fun j => cond j CK CV : Bool → Addr) true = CK := rfl
  generalize (fun j => cond j CK CV : Bool → Addr) = W at ls6 hW hK
  generalize (fun j => cond j x1 x0 : Bool → Addr) = va at ls6
  generalize (fun j => cond j d1 d0 : Bool → Addr) = vd at ls6
  generalize (fun j => cond j l1 l0 : Bool → Addr) = vl at ls6
  obtain ⟨ms, ems, _, hms⟩ := cut_front ns 120 (by decide)
  refine ⟨_, rfl, _, rfl, a, _, rfl, Pv.SqL.keepS hS s06, fun pc hpc => ?_⟩
  rw [ems]
  have s7 := same_new (o := .lst (ms.map V.int)) (Same.refl H6) hpc
  have epc : upd H6 pc (.lst (ms.map V.int)) pc = some (.lst (ms.map V.int)) := upd_same
  generalize upd H6 pc (.lst (ms.map V.int)) = H7 at s7 epc
  have ls7 := ls6.same s7
  refine ⟨pc, rfl, ⟨_, SqL.of epc⟩, ?_⟩
  clear s6 epl s36 s06 s26 el1 s5 hl1 b0 b1 b2 hpl a0 a1 hl0 el0 s4 s3 epv n01 e2x0 e2d0 hpv ex1 ed1 hd1 s2 hx1 hdx1 nd1 ex0 ed0 hd0 s1 hx0 hdx0 nd0 ls6 s7 hpc hS
  refine for_list (xs := ms.map V.int) (fun i σ H' => ∃ (k3 k4 k5 k6 k7 k8 k9 : Option V) (cs : Bool → List (Int × Th)), σ = [some (.ref a), some (.ref pv), some (.ref pl), k3, k4, k5, k6, k7, k8, k9] ∧ LS H' W va vd vl pv pl cs ∧ (∀ j, (cs j).length ≤ i) ∧ H' pc = some (.lst (ms.map V.int))) ⟨_, _, _, _, _, _, _, fun _ => [], rfl, ls7, fun _ => Nat.le_refl _, epc⟩ ?_ ?_ ?_
  · rintro i σ H' _ ⟨k3, k4, k5, k6, k7, k8, k9, cs, rfl, ls, hl, ep⟩
    exact SqL.of ep
  · rintro i y σ H' hy ⟨k3, k4, k5, k6, k7, k8, k9, cs, rfl, ls, hl, ep⟩
    have hil : i < ms.length := by have := (List.getElem?_eq_some_iff.mp hy).1; rwa [List.length_map] at this
    have ey : y = .int ms[i] := by rw [List.getElem?_map, List.getElem?_eq_getElem hil] at hy; exact (Option.some.inj hy).symm
    subst ey
    refine ⟨_, rfl, _, rfl, fun row Ha sa rv hrow => ?_⟩
    refine ⟨_, rfl, row, _, rfl, rv, by decide, by decide, fun r Hb h0 h1 fb rvb => ?_⟩
    obtain ⟨j, rfl⟩ := j_of h0 h1
    refine ⟨_, rfl, row, rfl, rvb, fun t v Hc gt fc rvc rt => ?_⟩
    have sc : Same H' Hc := fun b o e => fc b o (not1 (ne_of_none e hrow)) (fb b o (not1 (ne_of_none e hrow)) (sa b o e))
    have gd := gt.dp
    have gn := gt.nd
    refine ⟨_, rfl, t, v, rfl, rt, gt.wf, by omega, by omega, fun Hd sd => ?_⟩
    have s'd : Same H' Hd := fun b o e => sd b o (sc b o e)
    have lsd := ls.same s'd
    have rtd := rt.keep (Same.tups sd)
    have hlj := hl j
    refine ⟨_, rfl, _, rfl, pv, _, _, _, rfl, rfl, SqL.of lsd.ev, at2 va j, _, rfl, _, rfl, pl, _, _, _, rfl, rfl, SqL.of lsd.el, at2 vl j, _, rfl, W j, va j, vd j, vl j, cs j, t, v, hW j, rfl, lsd.vl j, by omega, rtd, gt, fun cs' He fr vl' ⟨u, eu⟩ hle => ⟨_, rfl, ifF rfl ?_⟩⟩
    obtain ⟨kdv, vod, _⟩ := (lsd.vl j).vo
    obtain ⟨kdl, eld, _⟩ := (lsd.vl j).lo
    have epe : He pc = some (.lst (ms.map V.int)) := fr _ _ (ne_of (s'd _ _ ep) vod.di (by intro z; cases z)) (ne_of (s'd _ _ ep) eld (by intro z; cases z)) (s'd _ _ ep)
    have lse := lsd.step fr vl'
    have hle' : ∀ k, (setB cs j cs' k).length ≤ i + 1 := fun k => by
      show (if k = j then cs' else cs k).length ≤ i + 1
      have := hl k
      by_cases z : k = j
      · rw [if_pos z]; omega
      · rw [if_neg z]; omega
    have euj : lookT (setB cs j cs' j) (sealT t) = some u := by
      show lookT (if j = j then cs' else cs j) (sealT t) = some u
      rw [if_pos rfl]; exact eu
    generalize setB cs j cs' = ce at lse hle' euj
    obtain ⟨kv, vo, drv⟩ := (lse.vl j).vo
    obtain ⟨kl, el, drl⟩ := (lse.vl j).lo
    obtain ⟨⟨dx, fs, eo, fl⟩, ed⟩ := id vo
    obtain ⟨y1, ey1, ry1⟩ := drl.some euj
    obtain ⟨y2, ey2, ry2⟩ := drv.some euj
    have gu := ((lse.vl j).gc.dep euj).1.dp
    have dg : DGet He (vl j) (.int (sealT t)) (some y1) := by rw [← ey1]; exact DGet.k (k := Sum.inl (sealT t)) el
    refine ⟨W j, hW j, _, rfl, _, rfl, pv, _, _, _, rfl, rfl, SqL.of lse.ev, at2 va j, va j, dx, fs, rfl, eo, fl.n3, _, rfl, va j, vd j, kv, sealT t, rfl, vo, fun y3 ey3 => ?_, fun z => by rw [ey2] at z; cases z⟩
    have : y3 = y2 := Option.some.inj (ey3.symm.trans ey2)
    subst this
    refine ⟨_, rfl, _, rfl, pl, _, _, _, rfl, rfl, SqL.of lse.el, at2 vl j, _, rfl, vl j, y1, rfl, dg, u, u, y3, y1, rfl, ry2, ry1, by omega, by omega, by omega, fun Hf sf => ⟨true, congrArg V.bl (eqT_refl u), ifF rfl ?_⟩⟩
    have lsf := lse.same sf
    have epf := sf _ _ epe
    refine ⟨_, rfl, _, rfl, _, _, rfl, rfl, _, rfl, _, _, rfl, rfl, ⟨by decide, by decide, by decide⟩, _, _, rfl, rfl, _, rfl, _, _, rfl, rfl, _, _, rfl, rfl, ⟨by decide, by decide, by decide⟩, _, rfl, _, _, rfl, rfl, ⟨by decide, by decide, by decide⟩, _, _, rfl, rfl, (show (0 : Int) < 2 ^ (61 : Int).toNat by decide +kernel), szl (show 7 ≤ 1000 by decide), fun pn hpn => ?_⟩
    obtain ⟨xs, hxs⟩ : ∃ xs, xs = [V.int 0, V.int (-1), V.int (sealT t + 1), V.int (sealT t + (2 : Int) ^ (61 : Int).toNat), V.int (0 - sealT t), V.int ((10 : Int) ^ (30 : Int).toNat), V.int (ms[i] % (2 : Int) ^ (61 : Int).toNat)] := ⟨_, rfl⟩
    have seven' : ∀ y ∈ xs, ∃ n, y = V.int n := hxs ▸ seven
    have epn : upd Hf pn (.lst [V.int 0, V.int (-1), V.int (sealT t + 1), V.int (sealT t + (2 : Int) ^ (61 : Int).toNat), V.int (0 - sealT t), V.int ((10 : Int) ^ (30 : Int).toNat), V.int (ms[i] % (2 : Int) ^ (61 : Int).toNat)]) pn = some (.lst xs) := by rw [hxs]; exact upd_same
    refine ⟨pn, rfl, ⟨_, SqL.of epn⟩, ?_⟩
    refine for_list (xs := xs) (fun m σ Hg => ∃ (k8 k9 : Option V), σ = [some (.ref a), some (.ref pv), some (.ref pl), some (.int ms[i]), some (.ref row), some (.int (jI j)), some v, some (.int (sealT t)), k8, k9] ∧ LS Hg W va vd vl pv pl ce ∧ Hg pc = some (.lst (ms.map V.int)) ∧ Hg pn = some (.lst xs)) ⟨_, _, rfl, lsf.same (same_new (Same.refl Hf) hpn), same_new (Same.refl Hf) hpn _ _ epf, epn⟩ ?_ ?_ ?_
    · rintro m σ Hg _ ⟨k8, k9, rfl, lg, eg, en⟩
      exact SqL.of en
    · rintro m y σ Hg hm ⟨k8, k9, rfl, lg, eg, en⟩
      obtain ⟨n, rfl⟩ := seven' y (List.mem_of_getElem? hm)
      refine ⟨2, rfl, by decide, by decide, ?_⟩
      refine for_range (n := 2) (fun z σ Hh => ∃ (k9 : Option V), σ = [some (.ref a), some (.ref pv), some (.ref pl), some (.int ms[i]), some (.ref row), some (.int (jI j)), some v, some (.int (sealT t)), some (.int n), k9] ∧ Same Hg Hh) ⟨_, rfl, Same.refl _⟩ ?_ ?_
      · rintro z σ Hh hz ⟨k9, rfl, sh⟩
        have lh := lg.same sh
        obtain ⟨j', ej⟩ : ∃ j' : Bool, (0 : Int) + (z : Int) = jI j' := by
          rcases (show z = 0 ∨ z = 1 by omega) with rfl | rfl
          · exact ⟨false, rfl⟩
          · exact ⟨true, rfl⟩
        rw [ej]
        obtain ⟨kl', el', drl'⟩ := (lh.vl j').lo
        obtain ⟨kv', vo', drv'⟩ := (lh.vl j').vo
        refine ⟨_, rfl, _, rfl, _, rfl, pl, _, _, _, rfl, rfl, SqL.of lh.el, at2 vl j', vl j', _, rfl, DGet.k (k := Sum.inl n) el', _, rfl, ?_⟩
        cases ez : lookT (ce j') n with
        | some u' =>
          obtain ⟨y', ey', _⟩ := drl'.some ez
          rw [ey']
          exact ifF rfl ⟨_, rfl, sh⟩
        | none =>
          rw [drl'.none ez]
          refine ifT rfl ?_
          exact ⟨_, rfl, _, rfl, pv, _, _, _, rfl, rfl, SqL.of lh.ev, at2 va j', _, rfl, W j', va j', vd j', kv', n, hW j', rfl, vo', drv'.none ez, fun Hi si => ⟨_, rfl, ifF rfl ⟨_, rfl, sh.trans si⟩⟩⟩
      · rintro σ Hh ⟨k9, rfl, sh⟩
        exact ⟨_, _, rfl, lg.same sh, sh _ _ eg, sh _ _ en⟩
    · rintro σ Hg ⟨k8, k9, rfl, lg, eg, en⟩
      exact ⟨_, _, _, _, _, _, _, ce, rfl, lg, hle', eg⟩
  · rintro σ Hx ⟨k3, k4, k5, k6, k7, k8, k9, cs, rfl, ls, hl, ep⟩
    rw [List.length_map] at hl
    have hl1 := hl true
    have e1 : atI [V.ref (va false), V.ref (va true)] 1 = some (.ref (va true)) := rfl
    refine ⟨_, rfl, pv, _, _, _, rfl, rfl, SqL.of ls.ev, at2 va true, _, rfl, pl, _, _, _, rfl, rfl, SqL.of ls.el, at2 vl true, va true, vd true, vl true, cs true, rfl, hK ▸ ls.vl true, by omega, fun cs' Hy fr vl' => ⟨_, rfl, ifF rfl ?_⟩⟩
    have ly := ls.step fr (hK.symm ▸ vl')
    refine ⟨_, rfl, pv, _, _, _, rfl, rfl, SqL.of ly.ev, at2 va false, _, rfl, pl, _, _, _, rfl, rfl, SqL.of ly.el, at2 vl false, W false, va false, vd false, vl false, _, hW false, rfl, ly.vl false, fun Hz sz => ⟨_, rfl, ifT rfl ?_⟩⟩
    have lz := ly.same sz
    exact ⟨_, rfl, pv, _, _, _, rfl, rfl, SqL.of lz.ev, at2 va true, _, rfl, pl, _, _, _, rfl, rfl, SqL.of lz.el, at2 vl true, W true, va true, vd true, vl true, _, hW true, rfl, lz.vl true, fun Hz2 _ => q Hz2⟩
end
end Pv
set_option Elab.async false
set_option linter.all false
set_option maxRecDepth 100000
set_option maxHeartbeats 4000000
namespace Pv
open PySem L2
private theorem len0 {us : List Value} (h : us.length = 0) : us = [] := List.length_eq_zero_iff.mp h
private theorem len1 {us : List Value} (h : us.length = 1) : ∃ a, us = [a] := List.length_eq_one_iff.mp h
private theorem len2 {us : List Value} (h : us.length = 2) : ∃ a b, us = [a, b] := by
  cases us with
  | nil => cases h
  | cons a r =>
    obtain ⟨b, rfl⟩ := len1 (Nat.succ.inj h)
    exact ⟨a, b, rfl⟩
private theorem len3 {us : List Value} (h : us.length = 3) : ∃ a b c, us = [a, b, c] := by
  cases us with
  | nil => cases h
  | cons a r =>
    obtain ⟨b, c, rfl⟩ := len2 (Nat.succ.inj h)
    exact ⟨a, b, c, rfl⟩
private theorem len4 {us : List Value} (h : us.length = 4) : ∃ a b c d, us = [a, b, c, d] := by
  cases us with
  | nil => cases h
  | cons a r =>
    obtain ⟨b, c, d, rfl⟩ := len3 (Nat.succ.inj h)
    exact ⟨a, b, c, d, rfl⟩
private theorem dfn_mk {K : PySem.W.Frag} {h : Heap} {mg : Str → Option Value} (x : Str) (st : Stmt) (ps : List Str) {f : Addr} {od an : Option Addr} {sl : Array (Option Value)} {oc kV dc pm cd ct : Value} (X : K.In h) (G : h.Ns mainGlobals mg)
    (a : PySem.W.nsIn K mainGlobals x = some (some (.ref f))) (l : K.lookup f = some ⟨oc, od, .func (PySem.W.fnOf x x (defArgs st) (defBody st) (defScope st) .none kV dc pm an cd ct), sl⟩) (c : PySem.W.codeIn K cd x = true) (k : PySem.W.keepIn K (.ref f) = true)
    (b : ∀ (kV doc pm : Value) (an : Option Addr) (cdv ct : Value) (us : List Value), us.length = ps.length → bindArgs (PySem.W.fnOf x x (defArgs st) (defBody st) (defScope st) .none kV doc pm an cdv ct) ⟨us, []⟩ = pure (ps.zip us)) : Dfn K mg x st ps :=
  ⟨_, _, fun_mk l c k, (fun_mk l c k).binds b, PySem.W.mg_of X G a⟩
private theorem glob_mk {K : PySem.W.Frag} {h : Heap} {mg : Str → Option Value} {x : Str} {i : Int} {t : Tok} (X : K.In h) (G : h.Ns mainGlobals mg) (a : PySem.W.nsIn K mainGlobals x = some (some (.int i t))) : ∃ t, mg x = some (.int i t) := ⟨t, PySem.W.mg_of X G a⟩
private theorem law_mk {l : PySem.W.OpenLaw} {w : World} {K : PySem.W.Frag} {h : Heap} {mg : Str → Option Value} {fa f : Addr} {od an : Option Addr} {sl : Array (Option Value)} {oc kV dc pm cd ct : Value} (X : K.In h) (G : h.Ns mainGlobals mg) (hfa : mg "law" = some (.ref fa))
    (a : PySem.W.nsIn K mainGlobals "law" = some (some (.ref f))) (lk : K.lookup f = some ⟨oc, od, .func (PySem.W.fnOf "law" "law" (defArgs slaw) (defBody slaw) (defScope slaw) .none kV dc pm an cd ct), sl⟩) (c : PySem.W.codeIn K cd "law" = true) (k : PySem.W.keepIn K (.ref f) = true)
    (ok : ∀ (base : Heap) (fd : FuncData), Fun K "law" "law" slaw f fd → FnOk l.prog w K mg base CX0 65 f fd ["script"] (spLaw K)) :
    ∃ fd : FuncData, (∀ (s : Shared) (v : Value), BindsTo s fd ⟨[v], []⟩ [("script", v)]) ∧ ∀ base : Heap, K.In base → base.Ns mainGlobals mg → FnOk l.prog w K mg base CX0 65 fa fd ["script"] (spLaw K) := by
  have e := hfa.symm.trans (PySem.W.mg_of X G a)
  cases e
  exact ⟨PySem.W.fnOf "law" "law" (defArgs slaw) (defBody slaw) (defScope slaw) .none kV dc pm an cd ct, fun s v => .of_eq rfl, fun base _ _ => ok base _ (fun_mk lk c k)⟩
private theorem walk {l : PySem.W.OpenLaw} {q : Program} {loose : List Str} {XP : (Str → Option Value) → Heap → Prop} {YP : World → Heap → Prop} {d : DefRec} {K : Params → PySem.W.Frag} (hn : l.most = some 63) (hdf : d.params.defaults = [])
    (hY : ∀ (w : World) (h : Heap), YP w h → (K w.params).In h)
    (F : ∀ (w : World) (mg : Str → Option Value) (fa : Addr) (h : Heap), (K w.params).In h → h.Ns mainGlobals mg → mg d.name = some (.ref fa) →
      ∃ fd : FuncData, (∀ (s : Shared) (u : Value), BindsTo s fd ⟨[u], []⟩ [("script", u)]) ∧ ∀ base : Heap, (K w.params).In base → base.Ns mainGlobals mg → FnOk l.prog w (K w.params) mg base CX0 65 fa fd ["script"] (spLaw (K w.params))) :
    PySem.W.WalkO q loose XP YP l.row.toRowW d [] (fun f vs => PySem.call f vs) :=
  L2.walk_of (n := 63) (k := 65) (x := "script") (CX := fun _ => CX0) (sp := fun w => spLaw (K w.params)) hn (by decide) hdf ⟨rfl, by decide, by decide⟩ hY F (fun _ _ a ns hl _ hS => ⟨a, ns, rfl, hS, hl, fun _ => rfl⟩) fun _ _ _ _ _ z => z
end Pv
open PySem PySem.W PyProof.Rows
set_option maxRecDepth 100000 in
set_option maxHeartbeats 0 in
theorem PySem.Challenge.cw_papervault_k21_laid_and_told_holds : PySem.Challenge.rw_papervault_k21_laid_and_told.Holds := by
  refine holds_law Pv.said fun said => ?_
  refine holds_open (q := Pv.VQ) (loose := []) (XP := XL Pv.VQ []) (YP := InK Pv.KK) Pv.left (InK.of Pv.addrs) InK.keeps (fun s e => xl_of s (Bool.and_eq_true_iff.mp e).1) XL.keeps (by rfl) (by rfl) (by rfl) (fun s e => recFacts_of (Bool.and_eq_true_iff.mp e).2) (by rfl) said (by decide +kernel) ⟨rfl, rfl, rfl, rfl, rfl, by decide +kernel⟩ ?hw ?hc
  (case hw => w_witness2)
  k_fill
  refine Pv.walk (l := PySem.Challenge.rw_papervault_k21_laid_and_told) rfl rfl (fun w h Y => Y) ?F
  case F =>
    intro w mg fa h KX G hmg
    have D_seal : L2.Dfn (L2.KOf KX) mg "seal" Pv.sseal ["thing"] := by
      dsimp only [L2.KOf]
      refine' Pv.dfn_mk "seal" Pv.sseal ["thing"] KX G ?a ?l ?c ?k ?b
      (case a => k_is); (case l => k_is); (case c => k_is); (case k => k_is)
      (case b => intro _ _ _ _ _ _ us hl; obtain ⟨_, rfl⟩ := Pv.len1 hl; rfl)
    have D_codes : L2.Dfn (L2.KOf KX) mg "codes" Pv.scodes ["thing"] := by
      dsimp only [L2.KOf]
      refine' Pv.dfn_mk "codes" Pv.scodes ["thing"] KX G ?a ?l ?c ?k ?b
      (case a => k_is); (case l => k_is); (case c => k_is); (case k => k_is)
      (case b => intro _ _ _ _ _ _ us hl; obtain ⟨_, rfl⟩ := Pv.len1 hl; rfl)
    have D_number_of : L2.Dfn (L2.KOf KX) mg "number_of" Pv.snumber_of ["signs"] := by
      dsimp only [L2.KOf]
      refine' Pv.dfn_mk "number_of" Pv.snumber_of ["signs"] KX G ?a ?l ?c ?k ?b
      (case a => k_is); (case l => k_is); (case c => k_is); (case k => k_is)
      (case b => intro _ _ _ _ _ _ us hl; obtain ⟨_, rfl⟩ := Pv.len1 hl; rfl)
    have D_rising : L2.Dfn (L2.KOf KX) mg "rising" Pv.srising ["laid"] := by
      dsimp only [L2.KOf]
      refine' Pv.dfn_mk "rising" Pv.srising ["laid"] KX G ?a ?l ?c ?k ?b
      (case a => k_is); (case l => k_is); (case c => k_is); (case k => k_is)
      (case b => intro _ _ _ _ _ _ us hl; obtain ⟨_, rfl⟩ := Pv.len1 hl; rfl)
    have D__law_row : L2.Dfn (L2.KOf KX) mg "_law_row" Pv.s_law_row ["cell"] := by
      dsimp only [L2.KOf]
      refine' Pv.dfn_mk "_law_row" Pv.s_law_row ["cell"] KX G ?a ?l ?c ?k ?b
      (case a => k_is); (case l => k_is); (case c => k_is); (case k => k_is)
      (case b => intro _ _ _ _ _ _ us hl; obtain ⟨_, rfl⟩ := Pv.len1 hl; rfl)
    have D__law_take : L2.Dfn (L2.KOf KX) mg "_law_take" Pv.s_law_take ["row", "many"] := by
      dsimp only [L2.KOf]
      refine' Pv.dfn_mk "_law_take" Pv.s_law_take ["row", "many"] KX G ?a ?l ?c ?k ?b
      (case a => k_is); (case l => k_is); (case c => k_is); (case k => k_is)
      (case b => intro _ _ _ _ _ _ us hl; obtain ⟨_, _, rfl⟩ := Pv.len2 hl; rfl)
    have D__law_text : L2.Dfn (L2.KOf KX) mg "_law_text" Pv.s_law_text ["row"] := by
      dsimp only [L2.KOf]
      refine' Pv.dfn_mk "_law_text" Pv.s_law_text ["row"] KX G ?a ?l ?c ?k ?b
      (case a => k_is); (case l => k_is); (case c => k_is); (case k => k_is)
      (case b => intro _ _ _ _ _ _ us hl; obtain ⟨_, rfl⟩ := Pv.len1 hl; rfl)
    have D__law_thing : L2.Dfn (L2.KOf KX) mg "_law_thing" Pv.s_law_thing ["row", "deep"] := by
      dsimp only [L2.KOf]
      refine' Pv.dfn_mk "_law_thing" Pv.s_law_thing ["row", "deep"] KX G ?a ?l ?c ?k ?b
      (case a => k_is); (case l => k_is); (case c => k_is); (case k => k_is)
      (case b => intro _ _ _ _ _ _ us hl; obtain ⟨_, _, rfl⟩ := Pv.len2 hl; rfl)
    have D__law_same : L2.Dfn (L2.KOf KX) mg "_law_same" Pv.s_law_same ["told", "due"] := by
      dsimp only [L2.KOf]
      refine' Pv.dfn_mk "_law_same" Pv.s_law_same ["told", "due"] KX G ?a ?l ?c ?k ?b
      (case a => k_is); (case l => k_is); (case c => k_is); (case k => k_is)
      (case b => intro _ _ _ _ _ _ us hl; obtain ⟨_, _, rfl⟩ := Pv.len2 hl; rfl)
    have D__law_refused : L2.Dfn (L2.KOf KX) mg "_law_refused" Pv.s_law_refused ["vault", "number"] := by
      dsimp only [L2.KOf]
      refine' Pv.dfn_mk "_law_refused" Pv.s_law_refused ["vault", "number"] KX G ?a ?l ?c ?k ?b
      (case a => k_is); (case l => k_is); (case c => k_is); (case k => k_is)
      (case b => intro _ _ _ _ _ _ us hl; obtain ⟨_, _, rfl⟩ := Pv.len2 hl; rfl)
    have D__law_laid : L2.Dfn (L2.KOf KX) mg "_law_laid" Pv.s_law_laid ["vault", "laid", "new"] := by
      dsimp only [L2.KOf]
      refine' Pv.dfn_mk "_law_laid" Pv.s_law_laid ["vault", "laid", "new"] KX G ?a ?l ?c ?k ?b
      (case a => k_is); (case l => k_is); (case c => k_is); (case k => k_is)
      (case b => intro _ _ _ _ _ _ us hl; obtain ⟨_, _, _, rfl⟩ := Pv.len3 hl; rfl)
    have D__law_told : L2.Dfn (L2.KOf KX) mg "_law_told" Pv.s_law_told ["vault", "laid"] := by
      dsimp only [L2.KOf]
      refine' Pv.dfn_mk "_law_told" Pv.s_law_told ["vault", "laid"] KX G ?a ?l ?c ?k ?b
      (case a => k_is); (case l => k_is); (case c => k_is); (case k => k_is)
      (case b => intro _ _ _ _ _ _ us hl; obtain ⟨_, _, rfl⟩ := Pv.len2 hl; rfl)
    have D__law_new : L2.Dfn (L2.KOf KX) mg "_law_new" Pv.s_law_new ["jar"] := by
      dsimp only [L2.KOf]
      refine' Pv.dfn_mk "_law_new" Pv.s_law_new ["jar"] KX G ?a ?l ?c ?k ?b
      (case a => k_is); (case l => k_is); (case c => k_is); (case k => k_is)
      (case b => intro _ _ _ _ _ _ us hl; obtain ⟨_, rfl⟩ := Pv.len1 hl; rfl)
    have D__law_kept : L2.Dfn (L2.KOf KX) mg "_law_kept" Pv.s_law_kept ["keeper", "laid"] := by
      dsimp only [L2.KOf]
      refine' Pv.dfn_mk "_law_kept" Pv.s_law_kept ["keeper", "laid"] KX G ?a ?l ?c ?k ?b
      (case a => k_is); (case l => k_is); (case c => k_is); (case k => k_is)
      (case b => intro _ _ _ _ _ _ us hl; obtain ⟨_, _, rfl⟩ := Pv.len2 hl; rfl)
    have m_ValueError : mg "ValueError" = none := by
      refine' PySem.W.mg_none_of KX G ?z
      (case z => k_is)
    have m_bool : mg "bool" = none := by
      refine' PySem.W.mg_none_of KX G ?z
      (case z => k_is)
    have m_int : mg "int" = none := by
      refine' PySem.W.mg_none_of KX G ?z
      (case z => k_is)
    have m_isinstance : mg "isinstance" = none := by
      refine' PySem.W.mg_none_of KX G ?z
      (case z => k_is)
    have m_len : mg "len" = none := by
      refine' PySem.W.mg_none_of KX G ?z
      (case z => k_is)
    have m_list : mg "list" = none := by
      refine' PySem.W.mg_none_of KX G ?z
      (case z => k_is)
    have m_ord : mg "ord" = none := by
      refine' PySem.W.mg_none_of KX G ?z
      (case z => k_is)
    have m_range : mg "range" = none := by
      refine' PySem.W.mg_none_of KX G ?z
      (case z => k_is)
    have m_sorted : mg "sorted" = none := by
      refine' PySem.W.mg_none_of KX G ?z
      (case z => k_is)
    have m_str : mg "str" = none := by
      refine' PySem.W.mg_none_of KX G ?z
      (case z => k_is)
    have m_tuple : mg "tuple" = none := by
      refine' PySem.W.mg_none_of KX G ?z
      (case z => k_is)
    have m_zip : mg "zip" = none := by
      refine' PySem.W.mg_none_of KX G ?z
      (case z => k_is)
    obtain ⟨CV, cV, nLV, dVI, dVR, dVL, dVT⟩ : ∃ C, L2.Cls (L2.KOf KX) C ∧ L2.NoAttr (L2.KOf KX) C "laid" ∧ L2.Mkd (L2.KOf KX) mg "Vault" C "Vault.__init__" Pv.sVault___init__ ["self"] ∧ L2.Mdf (L2.KOf KX) C "refuse_clash" "Vault.refuse_clash" Pv.sVault_refuse_clash ["self", "number", "thing"] ∧ L2.Mdf (L2.KOf KX) C "lay" "Vault.lay" Pv.sVault_lay ["self", "thing"] ∧ L2.Mdf (L2.KOf KX) C "thing" "Vault.thing" Pv.sVault_thing ["self", "number"] := by
      dsimp only [L2.KOf]
      refine' L2.by_name KX (x := "Vault") ?n ⟨?c0, ?c1, ?c2, ?c3, ?c4, ?c5⟩
      (case n => k_is)
      (case c0 => refine' L2.cls_mk ?a ?b ?c ?d; (case a => k_is); (case b => k_is); (case c => k_is); (case d => k_is))
      (case c1 => unfold L2.NoAttr; k_is)
      (case c2 => refine' L2.mkd_mk (qual := "Vault.__init__") (st := Pv.sVault___init__) (ps := ["self"]) KX G ?n ?mk ?a ?fn ?l ?c ?k ?kc ?b; (case n => k_is); (case mk => k_is); (case a => k_is); (case fn => k_is); (case l => k_is); (case c => k_is); (case k => k_is); (case kc => k_is); (case b => intro _ _ _ _ _ _ us hl; obtain ⟨_, rfl⟩ := Pv.len1 hl; rfl))
      (case c3 => refine' L2.mdf_mk (m := "refuse_clash") (qual := "Vault.refuse_clash") (st := Pv.sVault_refuse_clash) (ps := ["self", "number", "thing"]) ?a ?fn ?l ?c ?k ?b; (case a => k_is); (case fn => k_is); (case l => k_is); (case c => k_is); (case k => k_is); (case b => intro _ _ _ _ _ _ us hl; obtain ⟨_, _, _, rfl⟩ := Pv.len3 hl; rfl))
      (case c4 => refine' L2.mdf_mk (m := "lay") (qual := "Vault.lay") (st := Pv.sVault_lay) (ps := ["self", "thing"]) ?a ?fn ?l ?c ?k ?b; (case a => k_is); (case fn => k_is); (case l => k_is); (case c => k_is); (case k => k_is); (case b => intro _ _ _ _ _ _ us hl; obtain ⟨_, _, rfl⟩ := Pv.len2 hl; rfl))
      (case c5 => refine' L2.mdf_mk (m := "thing") (qual := "Vault.thing") (st := Pv.sVault_thing) (ps := ["self", "number"]) ?a ?fn ?l ?c ?k ?b; (case a => k_is); (case fn => k_is); (case l => k_is); (case c => k_is); (case k => k_is); (case b => intro _ _ _ _ _ _ us hl; obtain ⟨_, _, rfl⟩ := Pv.len2 hl; rfl))
    obtain ⟨CK, cK, nLK, dKI, dKR, dKL, dKT, dKS⟩ : ∃ C, L2.Cls (L2.KOf KX) C ∧ L2.NoAttr (L2.KOf KX) C "laid" ∧ L2.Mkd (L2.KOf KX) mg "Keeper" C "Vault.__init__" Pv.sVault___init__ ["self"] ∧ L2.Mdf (L2.KOf KX) C "refuse_clash" "Vault.refuse_clash" Pv.sVault_refuse_clash ["self", "number", "thing"] ∧ L2.Mdf (L2.KOf KX) C "lay" "Vault.lay" Pv.sVault_lay ["self", "thing"] ∧ L2.Mdf (L2.KOf KX) C "thing" "Vault.thing" Pv.sVault_thing ["self", "number"] ∧ L2.Mdf (L2.KOf KX) C "things" "Keeper.things" Pv.sKeeper_things ["self"] := by
      dsimp only [L2.KOf]
      refine' L2.by_name KX (x := "Keeper") ?n ⟨?c0, ?c1, ?c2, ?c3, ?c4, ?c5, ?c6⟩
      (case n => k_is)
      (case c0 => refine' L2.cls_mk ?a ?b ?c ?d; (case a => k_is); (case b => k_is); (case c => k_is); (case d => k_is))
      (case c1 => unfold L2.NoAttr; k_is)
      (case c2 => refine' L2.mkd_mk (qual := "Vault.__init__") (st := Pv.sVault___init__) (ps := ["self"]) KX G ?n ?mk ?a ?fn ?l ?c ?k ?kc ?b; (case n => k_is); (case mk => k_is); (case a => k_is); (case fn => k_is); (case l => k_is); (case c => k_is); (case k => k_is); (case kc => k_is); (case b => intro _ _ _ _ _ _ us hl; obtain ⟨_, rfl⟩ := Pv.len1 hl; rfl))
      (case c3 => refine' L2.mdf_mk (m := "refuse_clash") (qual := "Vault.refuse_clash") (st := Pv.sVault_refuse_clash) (ps := ["self", "number", "thing"]) ?a ?fn ?l ?c ?k ?b; (case a => k_is); (case fn => k_is); (case l => k_is); (case c => k_is); (case k => k_is); (case b => intro _ _ _ _ _ _ us hl; obtain ⟨_, _, _, rfl⟩ := Pv.len3 hl; rfl))
      (case c4 => refine' L2.mdf_mk (m := "lay") (qual := "Vault.lay") (st := Pv.sVault_lay) (ps := ["self", "thing"]) ?a ?fn ?l ?c ?k ?b; (case a => k_is); (case fn => k_is); (case l => k_is); (case c => k_is); (case k => k_is); (case b => intro _ _ _ _ _ _ us hl; obtain ⟨_, _, rfl⟩ := Pv.len2 hl; rfl))
      (case c5 => refine' L2.mdf_mk (m := "thing") (qual := "Vault.thing") (st := Pv.sVault_thing) (ps := ["self", "number"]) ?a ?fn ?l ?c ?k ?b; (case a => k_is); (case fn => k_is); (case l => k_is); (case c => k_is); (case k => k_is); (case b => intro _ _ _ _ _ _ us hl; obtain ⟨_, _, rfl⟩ := Pv.len2 hl; rfl))
      (case c6 => refine' L2.mdf_mk (m := "things") (qual := "Keeper.things") (st := Pv.sKeeper_things) (ps := ["self"]) ?a ?fn ?l ?c ?k ?b; (case a => k_is); (case fn => k_is); (case l => k_is); (case c => k_is); (case k => k_is); (case b => intro _ _ _ _ _ _ us hl; obtain ⟨_, rfl⟩ := Pv.len1 hl; rfl))
    obtain ⟨CVaultError, CNoPaper, CBadThing, CClash, CNoColumn, CNoCommand, CNoName, CNoPlan, CNoQuestion, CNoRow, CNoState, CNoStep, CNoTable, CNoThing, CNotOn, CNotSo, c_VaultError, c_NoPaper, c_BadThing, c_Clash, c_NoColumn, c_NoCommand, c_NoName, c_NoPlan, c_NoQuestion, c_NoRow, c_NoState, c_NoStep, c_NoTable, c_NoThing, c_NotOn, c_NotSo, ko, xN, xC, n1, n2⟩ : ∃ CVaultError CNoPaper CBadThing CClash CNoColumn CNoCommand CNoName CNoPlan CNoQuestion CNoRow CNoState CNoStep CNoTable CNoThing CNotOn CNotSo, mg "VaultError" = some (.ref CVaultError) ∧ mg "NoPaper" = some (.ref CNoPaper) ∧ mg "BadThing" = some (.ref CBadThing) ∧ mg "Clash" = some (.ref CClash) ∧ mg "NoColumn" = some (.ref CNoColumn) ∧ mg "NoCommand" = some (.ref CNoCommand) ∧ mg "NoName" = some (.ref CNoName) ∧ mg "NoPlan" = some (.ref CNoPlan) ∧ mg "NoQuestion" = some (.ref CNoQuestion) ∧ mg "NoRow" = some (.ref CNoRow) ∧ mg "NoState" = some (.ref CNoState) ∧ mg "NoStep" = some (.ref CNoStep) ∧ mg "NoTable" = some (.ref CNoTable) ∧ mg "NoThing" = some (.ref CNoThing) ∧ mg "NotOn" = some (.ref CNotOn) ∧ mg "NotSo" = some (.ref CNotSo) ∧ Pv.RfsOk (L2.KOf KX) CVaultError CNoPaper CBadThing CClash CNoColumn CNoCommand CNoName CNoPlan CNoQuestion CNoRow CNoState CNoStep CNoTable CNoThing CNotOn CNotSo ∧ L2.XP (L2.KOf KX) mg "NoPaper" CNoPaper ∧ L2.XId (L2.KOf KX) mg "Clash" CClash "Clash.__init__" Pv.sClash___init__ ["self", "one", "other"] ∧ L2.NoAttr (L2.KOf KX) CClash "one" ∧ L2.NoAttr (L2.KOf KX) CClash "other" := by
      dsimp only [L2.KOf]
      refine' L2.by_name KX (x := "VaultError") ?n0 (L2.by_name KX (x := "NoPaper") ?n1 (L2.by_name KX (x := "BadThing") ?n2 (L2.by_name KX (x := "Clash") ?n3 (L2.by_name KX (x := "NoColumn") ?n4 (L2.by_name KX (x := "NoCommand") ?n5 (L2.by_name KX (x := "NoName") ?n6 (L2.by_name KX (x := "NoPlan") ?n7 (L2.by_name KX (x := "NoQuestion") ?n8 (L2.by_name KX (x := "NoRow") ?n9 (L2.by_name KX (x := "NoState") ?n10 (L2.by_name KX (x := "NoStep") ?n11 (L2.by_name KX (x := "NoTable") ?n12 (L2.by_name KX (x := "NoThing") ?n13 (L2.by_name KX (x := "NotOn") ?n14 (L2.by_name KX (x := "NotSo") ?n15 (⟨?c0, ?c1, ?c2, ?c3, ?c4, ?c5, ?c6, ?c7, ?c8, ?c9, ?c10, ?c11, ?c12, ?c13, ?c14, ?c15, ?c16, ?c17, ?c18, ?c19, ?c20⟩))))))))))))))))
      (case n0 => k_is)
      (case n1 => k_is)
      (case n2 => k_is)
      (case n3 => k_is)
      (case n4 => k_is)
      (case n5 => k_is)
      (case n6 => k_is)
      (case n7 => k_is)
      (case n8 => k_is)
      (case n9 => k_is)
      (case n10 => k_is)
      (case n11 => k_is)
      (case n12 => k_is)
      (case n13 => k_is)
      (case n14 => k_is)
      (case n15 => k_is)
      (case c0 => refine' PySem.W.mg_of KX G ?z; (case z => k_is))
      (case c1 => refine' PySem.W.mg_of KX G ?z; (case z => k_is))
      (case c2 => refine' PySem.W.mg_of KX G ?z; (case z => k_is))
      (case c3 => refine' PySem.W.mg_of KX G ?z; (case z => k_is))
      (case c4 => refine' PySem.W.mg_of KX G ?z; (case z => k_is))
      (case c5 => refine' PySem.W.mg_of KX G ?z; (case z => k_is))
      (case c6 => refine' PySem.W.mg_of KX G ?z; (case z => k_is))
      (case c7 => refine' PySem.W.mg_of KX G ?z; (case z => k_is))
      (case c8 => refine' PySem.W.mg_of KX G ?z; (case z => k_is))
      (case c9 => refine' PySem.W.mg_of KX G ?z; (case z => k_is))
      (case c10 => refine' PySem.W.mg_of KX G ?z; (case z => k_is))
      (case c11 => refine' PySem.W.mg_of KX G ?z; (case z => k_is))
      (case c12 => refine' PySem.W.mg_of KX G ?z; (case z => k_is))
      (case c13 => refine' PySem.W.mg_of KX G ?z; (case z => k_is))
      (case c14 => refine' PySem.W.mg_of KX G ?z; (case z => k_is))
      (case c15 => refine' PySem.W.mg_of KX G ?z; (case z => k_is))
      (case c16 => refine' ⟨?kd, ?em, ?k1, ?k2, ?k3, ?k4⟩; (case kd => refine' ⟨?cl, ?ha, ?hn, ?ht, ?hm⟩; (case cl => refine' L2.xcls_mk ?xq ?xo ?xs ?xg ?xh ?xk; (case xq => kernel_rfl); (case xo => kernel_rfl); (case xs => k_is); (case xg => k_is); (case xh => k_is); (case xk => k_is)); (case ha => k_is); (case hn => first | k_is | kernel_rfl); (case ht => first | k_is | kernel_rfl); (case hm => first | k_is | kernel_rfl)); (case em => kernel_rfl); (case k1 => kernel_rfl); (case k2 => kernel_rfl); (case k3 => kernel_rfl); (case k4 => kernel_rfl))
      (case c17 => refine' ⟨?cl, ?ei, ?m⟩; (case cl => refine' L2.xcls_mk ?xq ?xo ?xs ?xg ?xh ?xk; (case xq => kernel_rfl); (case xo => kernel_rfl); (case xs => k_is); (case xg => k_is); (case xh => k_is); (case xk => k_is)); (case ei => kernel_rfl); (case m => refine' PySem.W.mg_of KX G ?z; (case z => k_is)))
      (case c18 => refine' L2.xid_mk (qual := "Clash.__init__") (st := Pv.sClash___init__) (ps := ["self", "one", "other"]) KX G ?n ?cl ?a ?fn ?l ?c ?k ?b; (case n => k_is); (case cl => refine' L2.xcls_mk ?xq ?xo ?xs ?xg ?xh ?xk; (case xq => kernel_rfl); (case xo => kernel_rfl); (case xs => k_is); (case xg => k_is); (case xh => k_is); (case xk => k_is)); (case a => k_is); (case fn => k_is); (case l => k_is); (case c => k_is); (case k => k_is); (case b => intro _ _ _ _ _ _ us hl; obtain ⟨_, _, _, rfl⟩ := Pv.len3 hl; rfl))
      (case c19 => unfold L2.NoAttr; k_is)
      (case c20 => unfold L2.NoAttr; k_is)
    refine' Pv.law_mk KX G hmg ?a ?l ?c ?k ?ok
    (case a => k_is); (case l => k_is); (case c => k_is); (case k => k_is)
    case ok =>
      intro base fd F
      have f_row := Pv.ok_row (P := PySem.Challenge.rw_papervault_k21_laid_and_told.prog) (w := w) (base := base) D__law_row
      have f_take := Pv.ok_take (P := PySem.Challenge.rw_papervault_k21_laid_and_told.prog) (w := w) (base := base) D__law_take
      have f_text := Pv.ok_text D__law_text f_take m_range
      have f_thing := Pv.ok_thing D__law_thing f_take f_text m_range m_tuple 4
      have f_new := Pv.ok_new D__law_new f_take f_thing m_range
      have f_same := Pv.ok_sameE (P := PySem.Challenge.rw_papervault_k21_laid_and_told.prog) (w := w) (base := base) D__law_same m_isinstance m_tuple m_int m_bool m_str m_len m_zip 10
      have f_num := Pv.ok_number_of (P := PySem.Challenge.rw_papervault_k21_laid_and_told.prog) (w := w) (base := base) D_number_of m_ord
      have f_codes := Pv.ok_codes D_codes f_num m_isinstance m_int m_str m_range m_len 10
      have f_seal := Pv.ok_seal D_seal f_codes
      have k_V := Pv.ok_vinit (P := PySem.Challenge.rw_papervault_k21_laid_and_told.prog) (w := w) (base := base) dVI cV nLV
      have k_K := Pv.ok_vinit (P := PySem.Challenge.rw_papervault_k21_laid_and_told.prog) (w := w) (base := base) dKI cK nLK
      have x_clash := Pv.ok_cinit (P := PySem.Challenge.rw_papervault_k21_laid_and_told.prog) (w := w) (base := base) xC n1 n2
      have m_refV := Pv.ok_refuse dVR x_clash cV nLV
      have m_refK := Pv.ok_refuse dKR x_clash cK nLK
      have m_layV := Pv.ok_lay dVL m_refV f_seal cV nLV
      have m_layK := Pv.ok_lay dKL m_refK f_seal cK nLK
      have m_thV := Pv.ok_thingX (P := PySem.Challenge.rw_papervault_k21_laid_and_told.prog) (w := w) (base := base) dVT xN cV nLV
      have m_thK := Pv.ok_thingX (P := PySem.Challenge.rw_papervault_k21_laid_and_told.prog) (w := w) (base := base) dKT xN cK nLK
      have f_rising := Pv.ok_rising (P := PySem.Challenge.rw_papervault_k21_laid_and_told.prog) (w := w) (base := base) D_rising m_sorted
      have m_things := Pv.ok_things dKS f_rising cK nLK
      have MT : ∀ W ∈ [CV, CK], L2.Mt PySem.Challenge.rw_papervault_k21_laid_and_told.prog w (L2.KOf KX) mg base (L2.CX1 PySem.Challenge.rw_papervault_k21_laid_and_told.prog w) W "thing" 1 ["self", "number"] (Pv.spThingX W CNoPaper) := (fun W h => by rcases List.mem_cons.mp h with rfl | h; exact m_thV; cases List.mem_singleton.mp h; exact m_thK)
      have ML : ∀ W ∈ [CV, CK], L2.Mt PySem.Challenge.rw_papervault_k21_laid_and_told.prog w (L2.KOf KX) mg base (L2.CX1 PySem.Challenge.rw_papervault_k21_laid_and_told.prog w) W "lay" 14 ["self", "thing"] (Pv.spLay W CClash) := (fun W h => by rcases List.mem_cons.mp h with rfl | h; exact m_layV; cases List.mem_singleton.mp h; exact m_layK)
      have MC : ∀ W ∈ [CV, CK], L2.Cls (L2.KOf KX) W := (fun W h => by rcases List.mem_cons.mp h with rfl | h; exact cV; cases List.mem_singleton.mp h; exact cK)
      have f_rfs := Pv.ok_rfs D__law_refused MT MC ko c_VaultError c_NoPaper c_BadThing c_Clash c_NoColumn c_NoCommand c_NoName c_NoPlan c_NoQuestion c_NoRow c_NoState c_NoStep c_NoTable c_NoThing c_NotOn c_NotSo m_isinstance m_ValueError
      have f_laid := Pv.ok_laid2 (Pv.ok_laidL D__law_laid f_seal f_same ML MC m_range m_isinstance m_int m_bool)
      have f_told := Pv.ok_toldL D__law_told f_same MT MC
      have f_kept := Pv.ok_kept D__law_kept m_things m_layK f_same f_seal cK m_sorted m_isinstance m_list m_tuple
      exact Pv.ok_law F f_row f_take f_new f_seal f_same f_laid f_rfs f_kept f_told k_V k_K MT MC m_range
#print axioms PySem.Challenge.cw_papervault_k21_laid_and_told_holds
