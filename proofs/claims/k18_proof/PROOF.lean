import PyProof.Rows.All
import KE.KIsAll
import OpenK.KLine
import KE.KItem
import OpenK.KRaise
import OpenK.KOwn
import KE.LcSums
import KE.KSortAsk
import KE.KTryMore
import KE.KItemsList
import KE.KSortTup
import Lean
import PyProof.EqAt
import PyProof.EqKinds
import PyProof.TupleCall
import PySem.Challenge.RW_atonce_k18_many_helpers
set_option Elab.async false
set_option linter.all false
set_option maxRecDepth 100000
set_option maxHeartbeats 4000000
namespace L2
open PySem
def Ym (s:Stmt) (j:Nat):Stmt:=match s with
 |.ClassDef _ _ _ body _ _ _ _ _ _ _=>body.getD j (.Pass ⟨0,0,0,0⟩)
 |_=>.Pass ⟨0,0,0,0⟩
def Zz (s:Stmt):Arguments:=match s with
 |.FunctionDef _ a _ _ _ _ _ _ _ _=>a
 |_=>{ posonlyargs:=[],args:=[],vararg:=none,kwonlyargs:=[],kw_defaults:=[],kwarg:=none,defaults:=[] }
def Zv (s:Stmt):List Stmt:=match s with
 |.FunctionDef _ _ b _ _ _ _ _ _ _=>b
 |_=>[]
def Zg (s:Stmt):Scope:=match s with
 |.FunctionDef _ _ _ _ _ _ sc _ _ _=>sc
 |_=>{ kind:=.function,names:=[],isGenerator:=false,isCoroutine:=false }
def tyL:Value->Bool
 |.type s=>s == "list"
 |_=>false
def notL (K:PySem.W.Frag):Bool:=K.all fun p=>!tyL p.2.cls
def Qg:List String:=["NoneType","bool","int","str","list","tuple","dict"]
end L2
namespace MP
noncomputable section
open PySem L2
def top (i:Nat):Stmt:=PySem.Challenge.pw_atonce_k18_many_helpers.main.body.getD i (.Pass ⟨0,0,0,0⟩)
abbrev st_0:Stmt:=top 39
abbrev st_1:Stmt:=Ym (top 21) 0
abbrev st_2:Stmt:=Ym (top 21) 1
abbrev st_3:Stmt:=Ym (top 21) 2
abbrev st_4:Stmt:=top 41
abbrev st_5:Stmt:=Ym (top 19) 0
abbrev st_6:Stmt:=Ym (top 19) 1
abbrev st_7:Stmt:=Ym (top 24) 0
abbrev st_8:Stmt:=Ym (top 19) 2
abbrev st_9:Stmt:=Ym (top 19) 3
abbrev S4:Stmt:=Ym (top 24) 7
abbrev Rx:Stmt:=Ym (top 21) 3
abbrev RE:Stmt:=Ym (top 24) 8
abbrev Ru:Stmt:=Ym (top 24) 2
abbrev SW:Stmt:=Ym (top 24) 3
abbrev RO:Stmt:=Ym (top 24) 6
abbrev Rp:Stmt:=Ym (top 19) 5
abbrev Rc:Stmt:=Ym (top 24) 4
abbrev SN:Stmt:=Ym (top 24) 5
abbrev SQ:Stmt:=top 2
abbrev SV:Stmt:=top 3
abbrev RT:Stmt:=top 4
abbrev SR:Stmt:=top 5
abbrev RF:Stmt:=top 6
abbrev Rz:Stmt:=top 8
abbrev Rb:Stmt:=top 7
abbrev S6:Stmt:=top 9
abbrev SX:Stmt:=top 40
abbrev Rh:Stmt:=top 30
abbrev RA:Stmt:=top 31
abbrev Ro:Stmt:=top 32
abbrev Ra:Stmt:=top 33
abbrev SK:Stmt:=top 34
abbrev RG:Stmt:=top 35
abbrev SO:Stmt:=top 36
abbrev Rw:Stmt:=top 37
abbrev Rg:Stmt:=top 42
def WQ (as:List Addr) (h:Heap):PySem.W.Frag:=as.filterMap fun a=>(h.get? a).map fun o=>(a,o)
theorem RU (h:Heap):∀as:List Addr,(WQ as h).In h
 |[],_,_,e=>by simp[WQ]at e
 |a::as,b,o,e=>by
  have ih:=RU h as b o
  unfold WQ at e ih
  cases hg:h.get? a with
  |none=>simp only[List.filterMap_cons,hg,Option.map_none]at e; exact ih e
  |some v =>
   simp only[List.filterMap_cons,hg,Option.map_some,List.lookup_cons]at e
   by_cases hb:b=a
   ·subst hb; simp at e; rw[hg,e]
   ·have:(b == a)=false:=by simpa using hb
    rw[this]at e; exact ih e
def nth {α:Type}:List α->Nat->Option α
 |[],_=>none
 |a::_,0=>some a
 |_::l,n+1=>nth l n
theorem WR {α:Type} {l r:List α} (h:l=r) (i:Nat) {x y:α} (h1:nth l i=some x) (h2:nth r i=some y):x=y:=by
 subst h; rw[h1]at h2; exact Option.some.inj h2
def nrm (f:FuncData):FuncData:={ f with kwdefaults:=.none,doc:=.none,pyModule:=.none,annotations:=none,code:=.none,closureTuple:=.none }
def fnV (K:PySem.W.Frag) (f:Addr) (q:Str):Option (FuncData × Bool):=match K.lookup f with
 |some ⟨_,_,.func d,_⟩=>some (nrm d,PySem.W.codeIn K d.code q)
 |_=>none
def obK (K:PySem.W.Frag) (f:Addr):Obj:=(K.lookup f).getD default
def fdK (K:PySem.W.Frag) (f:Addr):FuncData:=match (obK K f).data with|.func d=>d|_=>default
theorem fn_both {K : PySem.W.Frag} {f : Addr} {q n q' : Str} {a : Arguments} {b : List Stmt} {s : Scope} (h : fnV K f q = some (nrm (PySem.W.fnOf n q' a b s .none .none .none .none none .none .none),true)) :
    K.lookup f=some ⟨(obK K f).cls,(obK K f).dict,.func (PySem.W.fnOf n q' a b s .none (fdK K f).kwdefaults (fdK K f).doc (fdK K f).pyModule (fdK K f).annotations (fdK K f).code (fdK K f).closureTuple),(obK K f).slots⟩∧PySem.W.codeIn K (fdK K f).code q=true:=by
  unfold fnV at h
  cases hl:K.lookup f with
  |none=>rw[hl]at h; cases h
  |some v =>
    obtain ⟨c,d,dt,sl⟩:=v
    rw[hl]at h
    cases dt with
    |func fd =>
      obtain ⟨h1,h2⟩:=Prod.mk.inj (Option.some.inj h)
      have e1:obK K f=⟨c,d,.func fd,sl⟩:=by simp[obK,hl]
      have e2:fdK K f=fd:=by simp[fdK,e1]
      rw[e2,e1]
      refine ⟨?_,h2⟩
      obtain ⟨x1,x2,x3,x4,x5,x6,x7,x8,x9,x10,x11,x12,x13,x14,x15⟩:=fd
      unfold nrm at h1
      injection h1 with y1 y2 y3 y4 y5 y6 y7 y8 _ _ _ _ _ _ y15
      dsimp only at y1 y2 y3 y4 y5 y6 y7 y8 y15
      subst y1 y2 y3 y4 y5 y6 y7 y8 y15
      rfl
    |_=>cases h
theorem YD {K : PySem.W.Frag} {f : Addr} {q n q' : Str} {a : Arguments} {b : List Stmt} {s : Scope} (h : fnV K f q = some (nrm (PySem.W.fnOf n q' a b s .none .none .none .none none .none .none),true)) :
    K.lookup f=some ⟨(obK K f).cls,(obK K f).dict,.func (PySem.W.fnOf n q' a b s .none (fdK K f).kwdefaults (fdK K f).doc (fdK K f).pyModule (fdK K f).annotations (fdK K f).code (fdK K f).closureTuple),(obK K f).slots⟩:=(fn_both h).1
theorem YC {K:PySem.W.Frag} {f:Addr} {q n q':Str} {a:Arguments} {b:List Stmt} {s:Scope} (h:fnV K f q=some (nrm (PySem.W.fnOf n q' a b s .none .none .none .none none .none .none),true)):PySem.W.codeIn K (fdK K f).code q=true:=(fn_both h).2
def intV (x:Option (Option Value)):Option Int:=match x with|some (some (.int i _))=>some i|_=>none
theorem int_l {x:Option (Option Value)} {i:Int} (h:intV x=some i):∃t,x=some (some (.int i t)):=by
 unfold intV at h; split at h
 ·cases h; exact ⟨_,rfl⟩
 ·cases h
def tupV (K:PySem.W.Frag) (a:Addr):Option (String × Str):=match K.lookup a with
 |some ⟨.type t,_,.seq vs _,_⟩=>(match vs.toList with|[.str x _]=>some (t,x)|_=>none)
 |_=>none
theorem tup_l {K:PySem.W.Frag} {a:Addr} {t:String} {x:Str} (h:tupV K a=some (t,x)):∃od n tk sl,K.lookup a=some ⟨.type t,od,.seq #[.str x tk] n,sl⟩:=by
 unfold tupV at h; split at h
 ·rename_i od vs n sl hl
  split at h
  ·rename_i y tk hv
   cases h
   have:vs=#[.str x tk]:=Array.toList_inj.mp (by rw[hv])
   subst this
   exact ⟨_,_,_,_,hl⟩
  ·cases h
 ·cases h
def obsR (K:PySem.W.Frag):List (Option (Option Value)):=[PySem.W.nsIn K mainGlobals "Map",
 PySem.W.nsIn K mainGlobals "Board",
 PySem.W.nsIn K mainGlobals "Orders",
 PySem.W.nsIn K mainGlobals "OrderError",
 PySem.W.nsIn K mainGlobals "NoPlace",
 PySem.W.nsIn K mainGlobals "NoSide",
 PySem.W.nsIn K mainGlobals "Crowded",
 PySem.W.nsIn K mainGlobals "NoUnit",
 PySem.W.nsIn K mainGlobals "OutOfReach",
 PySem.W.nsIn K mainGlobals "STAND",
 PySem.W.nsIn K mainGlobals "_law_cell_at",
 PySem.W.findIn K (.ref 245) "__init__",
 PySem.W.findIn K (.ref 245) "need_place",
 PySem.W.findIn K (.ref 245) "link",
 PySem.W.nsIn K mainGlobals "_law_star",
 PySem.W.findIn K (.ref 196) "__init__",
 PySem.W.findIn K (.ref 196) "post",
 PySem.W.findIn K (.ref 321) "__init__",
 PySem.W.findIn K (.ref 196) "side_at",
 PySem.W.findIn K (.ref 196) "need_unit",
 PySem.W.findIn K (.ref 321) "need_all",
 PySem.W.findIn K (.ref 245) "beside",
 PySem.W.findIn K (.ref 321) "need_beside",
 PySem.W.findIn K (.ref 321) "move",
 PySem.W.findIn K (.ref 321) "aid",
 PySem.W.findIn K (.ref 321) "goal_of",
 PySem.W.findIn K (.ref 196) "roll",
 PySem.W.findIn K (.ref 321) "told",
 PySem.W.findIn K (.ref 321) "movers",
 PySem.W.nsIn K mainGlobals "is_cut",
 PySem.W.nsIn K mainGlobals "fits",
 PySem.W.nsIn K mainGlobals "counts",
 PySem.W.nsIn K mainGlobals "backs",
 PySem.W.nsIn K mainGlobals "backing",
 PySem.W.nsIn K mainGlobals "force_against",
 PySem.W.nsIn K mainGlobals "force",
 PySem.W.nsIn K mainGlobals "firmness",
 PySem.W.nsIn K mainGlobals "_law_whole",
 PySem.W.nsIn K mainGlobals "weigh_movers",
 PySem.W.nsIn K mainGlobals "is_outdone",
 PySem.W.nsIn K mainGlobals "overcomes",
 PySem.W.nsIn K mainGlobals "hindrance",
 PySem.W.nsIn K mainGlobals "hindrances",
 PySem.W.nsIn K mainGlobals "fault",
 PySem.W.nsIn K mainGlobals "strikes",
 PySem.W.nsIn K mainGlobals "settled",
 PySem.W.nsIn K mainGlobals "law",
 PySem.W.findIn K (.ref 196) "__setattr__",
 PySem.W.findIn K (.ref 245) "__setattr__",
 PySem.W.findIn K (.ref 321) "__setattr__",
 PySem.W.findIn K (.ref 196) "chart",
 PySem.W.findIn K (.ref 196) "units",
 PySem.W.findIn K (.ref 245) "links",
 PySem.W.findIn K (.ref 245) "size",
 PySem.W.findIn K (.ref 321) "board",
 PySem.W.findIn K (.ref 321) "given",
 PySem.W.nsIn K mainGlobals "any",
 PySem.W.nsIn K mainGlobals "bool",
 PySem.W.nsIn K mainGlobals "int",
 PySem.W.nsIn K mainGlobals "isinstance",
 PySem.W.nsIn K mainGlobals "len",
 PySem.W.nsIn K mainGlobals "max",
 PySem.W.nsIn K mainGlobals "min",
 PySem.W.nsIn K mainGlobals "range",
 PySem.W.nsIn K mainGlobals "sorted"]
def expR:List (Option (Option Value)):=[some (some (.ref 245)),
 some (some (.ref 196)),
 some (some (.ref 321)),
 some (some (.ref 81)),
 some (some (.ref 94)),
 some (some (.ref 106)),
 some (some (.ref 118)),
 some (some (.ref 130)),
 some (some (.ref 142)),
 some (some (.ref 250)),
 some (some (.ref 382)),
 some (some (.ref 214)),
 some (some (.ref 221)),
 some (some (.ref 228)),
 some (some (.ref 396)),
 some (some (.ref 158)),
 some (some (.ref 165)),
 some (some (.ref 264)),
 some (some (.ref 172)),
 some (some (.ref 179)),
 some (some (.ref 311)),
 some (some (.ref 235)),
 some (some (.ref 318)),
 some (some (.ref 278)),
 some (some (.ref 285)),
 some (some (.ref 304)),
 some (some (.ref 193)),
 some (some (.ref 292)),
 some (some (.ref 297)),
 some (some (.ref 26)),
 some (some (.ref 33)),
 some (some (.ref 40)),
 some (some (.ref 47)),
 some (some (.ref 52)),
 some (some (.ref 64)),
 some (some (.ref 59)),
 some (some (.ref 71)),
 some (some (.ref 389)),
 some (some (.ref 332)),
 some (some (.ref 337)),
 some (some (.ref 344)),
 some (some (.ref 351)),
 some (some (.ref 358)),
 some (some (.ref 365)),
 some (some (.ref 370)),
 some (some (.ref 375)),
 some (some (.ref 401)),
 some (some (.builtin "object.__setattr__")),
 some (some (.builtin "object.__setattr__")),
 some (some (.builtin "object.__setattr__")),
 some none,
 some none,
 some none,
 some none,
 some none,
 some none,
 some none,
 some none,
 some none,
 some none,
 some none,
 some none,
 some none,
 some none,
 some none]
def obsB (K:PySem.W.Frag):List Bool:=[PySem.W.keepIn K (.ref 382),
 PySem.W.isFn K (.ref 214),
 PySem.W.keepIn K (.ref 214),
 PySem.W.isFn K (.ref 221),
 PySem.W.keepIn K (.ref 221),
 PySem.W.isFn K (.ref 228),
 PySem.W.keepIn K (.ref 228),
 PySem.W.keepIn K (.ref 396),
 PySem.W.isFn K (.ref 158),
 PySem.W.keepIn K (.ref 158),
 PySem.W.isFn K (.ref 165),
 PySem.W.keepIn K (.ref 165),
 PySem.W.isFn K (.ref 264),
 PySem.W.keepIn K (.ref 264),
 PySem.W.isFn K (.ref 172),
 PySem.W.keepIn K (.ref 172),
 PySem.W.isFn K (.ref 179),
 PySem.W.keepIn K (.ref 179),
 PySem.W.isFn K (.ref 311),
 PySem.W.keepIn K (.ref 311),
 PySem.W.isFn K (.ref 235),
 PySem.W.keepIn K (.ref 235),
 PySem.W.isFn K (.ref 318),
 PySem.W.keepIn K (.ref 318),
 PySem.W.isFn K (.ref 278),
 PySem.W.keepIn K (.ref 278),
 PySem.W.isFn K (.ref 285),
 PySem.W.keepIn K (.ref 285),
 PySem.W.isFn K (.ref 304),
 PySem.W.keepIn K (.ref 304),
 PySem.W.isFn K (.ref 193),
 PySem.W.keepIn K (.ref 193),
 PySem.W.isFn K (.ref 292),
 PySem.W.keepIn K (.ref 292),
 PySem.W.isFn K (.ref 297),
 PySem.W.keepIn K (.ref 297),
 PySem.W.keepIn K (.ref 26),
 PySem.W.keepIn K (.ref 33),
 PySem.W.keepIn K (.ref 40),
 PySem.W.keepIn K (.ref 47),
 PySem.W.keepIn K (.ref 52),
 PySem.W.keepIn K (.ref 64),
 PySem.W.keepIn K (.ref 59),
 PySem.W.keepIn K (.ref 71),
 PySem.W.keepIn K (.ref 389),
 PySem.W.keepIn K (.ref 332),
 PySem.W.keepIn K (.ref 337),
 PySem.W.keepIn K (.ref 344),
 PySem.W.keepIn K (.ref 351),
 PySem.W.keepIn K (.ref 358),
 PySem.W.keepIn K (.ref 365),
 PySem.W.keepIn K (.ref 370),
 PySem.W.keepIn K (.ref 375),
 PySem.W.keepIn K (.ref 401),
 PySem.W.plainGet K 196 Str.empty,
 PySem.W.hasDictIn K 196,
 PySem.W.plainOver K 196,
 PySem.W.plainGet K 245 Str.empty,
 PySem.W.hasDictIn K 245,
 PySem.W.plainOver K 245,
 PySem.W.plainGet K 321 Str.empty,
 PySem.W.hasDictIn K 321,
 PySem.W.plainOver K 321,
 PySem.W.makesIn K 196,
 PySem.W.keepIn K (.ref 196),
 PySem.W.makesIn K 245,
 PySem.W.keepIn K (.ref 245),
 PySem.W.makesIn K 321,
 PySem.W.keepIn K (.ref 321),
 PySem.W.excIn K 118 [.type "ValueError",.type "Exception",.type "BaseException",.type "object"] "ValueError.__new__",
 PySem.W.excIn K 94 [.type "ValueError",.type "Exception",.type "BaseException",.type "object"] "ValueError.__new__",
 PySem.W.excIn K 106 [.type "ValueError",.type "Exception",.type "BaseException",.type "object"] "ValueError.__new__",
 PySem.W.excIn K 130 [.type "ValueError",.type "Exception",.type "BaseException",.type "object"] "ValueError.__new__",
 PySem.W.excIn K 142 [.type "ValueError",.type "Exception",.type "BaseException",.type "object"] "ValueError.__new__",
 notL K]
def expB:List Bool:=[true,true,true,true,true,true,true,true,true,true,true,true,true,true,true,true,true,true,true,true,true,true,true,true,true,true,true,true,true,true,true,true,true,true,true,true,true,true,true,true,true,true,true,true,true,true,true,true,true,true,true,true,true,true,true,true,true,true,true,true,true,true,true,true,true,true,true,true,true,true,true,true,true,true,true]
def obsF (K:PySem.W.Frag):List (Option (FuncData × Bool)):=[fnV K 382 "_law_cell_at",
 fnV K 214 "Map.__init__",
 fnV K 221 "Map.need_place",
 fnV K 228 "Map.link",
 fnV K 396 "_law_star",
 fnV K 158 "Board.__init__",
 fnV K 165 "Board.post",
 fnV K 264 "Orders.__init__",
 fnV K 172 "Board.side_at",
 fnV K 179 "Board.need_unit",
 fnV K 311 "Orders.need_all",
 fnV K 235 "Map.beside",
 fnV K 318 "Orders.need_beside",
 fnV K 278 "Orders.move",
 fnV K 285 "Orders.aid",
 fnV K 304 "Orders.goal_of",
 fnV K 193 "Board.roll",
 fnV K 292 "Orders.told",
 fnV K 297 "Orders.movers",
 fnV K 26 "is_cut",
 fnV K 33 "fits",
 fnV K 40 "counts",
 fnV K 47 "backs",
 fnV K 52 "backing",
 fnV K 64 "force_against",
 fnV K 59 "force",
 fnV K 71 "firmness",
 fnV K 389 "_law_whole",
 fnV K 332 "weigh_movers",
 fnV K 337 "is_outdone",
 fnV K 344 "overcomes",
 fnV K 351 "hindrance",
 fnV K 358 "hindrances",
 fnV K 365 "fault",
 fnV K 370 "strikes",
 fnV K 375 "settled",
 fnV K 401 "law"]
def expF:List (Option (FuncData × Bool)):=[some (nrm (PySem.W.fnOf "_law_cell_at" "_law_cell_at" (Zz st_0) (Zv st_0) (Zg st_0) .none .none .none .none none .none .none),true),
 some (nrm (PySem.W.fnOf "__init__" "Map.__init__" (Zz st_1) (Zv st_1) (Zg st_1) .none .none .none .none none .none .none),true),
 some (nrm (PySem.W.fnOf "need_place" "Map.need_place" (Zz st_2) (Zv st_2) (Zg st_2) .none .none .none .none none .none .none),true),
 some (nrm (PySem.W.fnOf "link" "Map.link" (Zz st_3) (Zv st_3) (Zg st_3) .none .none .none .none none .none .none),true),
 some (nrm (PySem.W.fnOf "_law_star" "_law_star" (Zz st_4) (Zv st_4) (Zg st_4) .none .none .none .none none .none .none),true),
 some (nrm (PySem.W.fnOf "__init__" "Board.__init__" (Zz st_5) (Zv st_5) (Zg st_5) .none .none .none .none none .none .none),true),
 some (nrm (PySem.W.fnOf "post" "Board.post" (Zz st_6) (Zv st_6) (Zg st_6) .none .none .none .none none .none .none),true),
 some (nrm (PySem.W.fnOf "__init__" "Orders.__init__" (Zz st_7) (Zv st_7) (Zg st_7) .none .none .none .none none .none .none),true),
 some (nrm (PySem.W.fnOf "side_at" "Board.side_at" (Zz st_8) (Zv st_8) (Zg st_8) .none .none .none .none none .none .none),true),
 some (nrm (PySem.W.fnOf "need_unit" "Board.need_unit" (Zz st_9) (Zv st_9) (Zg st_9) .none .none .none .none none .none .none),true),
 some (nrm (PySem.W.fnOf "need_all" "Orders.need_all" (Zz S4) (Zv S4) (Zg S4) .none .none .none .none none .none .none),true),
 some (nrm (PySem.W.fnOf "beside" "Map.beside" (Zz Rx) (Zv Rx) (Zg Rx) .none .none .none .none none .none .none),true),
 some (nrm (PySem.W.fnOf "need_beside" "Orders.need_beside" (Zz RE) (Zv RE) (Zg RE) .none .none .none .none none .none .none),true),
 some (nrm (PySem.W.fnOf "move" "Orders.move" (Zz Ru) (Zv Ru) (Zg Ru) .none .none .none .none none .none .none),true),
 some (nrm (PySem.W.fnOf "aid" "Orders.aid" (Zz SW) (Zv SW) (Zg SW) .none .none .none .none none .none .none),true),
 some (nrm (PySem.W.fnOf "goal_of" "Orders.goal_of" (Zz RO) (Zv RO) (Zg RO) .none .none .none .none none .none .none),true),
 some (nrm (PySem.W.fnOf "roll" "Board.roll" (Zz Rp) (Zv Rp) (Zg Rp) .none .none .none .none none .none .none),true),
 some (nrm (PySem.W.fnOf "told" "Orders.told" (Zz Rc) (Zv Rc) (Zg Rc) .none .none .none .none none .none .none),true),
 some (nrm (PySem.W.fnOf "movers" "Orders.movers" (Zz SN) (Zv SN) (Zg SN) .none .none .none .none none .none .none),true),
 some (nrm (PySem.W.fnOf "is_cut" "is_cut" (Zz SQ) (Zv SQ) (Zg SQ) .none .none .none .none none .none .none),true),
 some (nrm (PySem.W.fnOf "fits" "fits" (Zz SV) (Zv SV) (Zg SV) .none .none .none .none none .none .none),true),
 some (nrm (PySem.W.fnOf "counts" "counts" (Zz RT) (Zv RT) (Zg RT) .none .none .none .none none .none .none),true),
 some (nrm (PySem.W.fnOf "backs" "backs" (Zz SR) (Zv SR) (Zg SR) .none .none .none .none none .none .none),true),
 some (nrm (PySem.W.fnOf "backing" "backing" (Zz RF) (Zv RF) (Zg RF) .none .none .none .none none .none .none),true),
 some (nrm (PySem.W.fnOf "force_against" "force_against" (Zz Rz) (Zv Rz) (Zg Rz) .none .none .none .none none .none .none),true),
 some (nrm (PySem.W.fnOf "force" "force" (Zz Rb) (Zv Rb) (Zg Rb) .none .none .none .none none .none .none),true),
 some (nrm (PySem.W.fnOf "firmness" "firmness" (Zz S6) (Zv S6) (Zg S6) .none .none .none .none none .none .none),true),
 some (nrm (PySem.W.fnOf "_law_whole" "_law_whole" (Zz SX) (Zv SX) (Zg SX) .none .none .none .none none .none .none),true),
 some (nrm (PySem.W.fnOf "weigh_movers" "weigh_movers" (Zz Rh) (Zv Rh) (Zg Rh) .none .none .none .none none .none .none),true),
 some (nrm (PySem.W.fnOf "is_outdone" "is_outdone" (Zz RA) (Zv RA) (Zg RA) .none .none .none .none none .none .none),true),
 some (nrm (PySem.W.fnOf "overcomes" "overcomes" (Zz Ro) (Zv Ro) (Zg Ro) .none .none .none .none none .none .none),true),
 some (nrm (PySem.W.fnOf "hindrance" "hindrance" (Zz Ra) (Zv Ra) (Zg Ra) .none .none .none .none none .none .none),true),
 some (nrm (PySem.W.fnOf "hindrances" "hindrances" (Zz SK) (Zv SK) (Zg SK) .none .none .none .none none .none .none),true),
 some (nrm (PySem.W.fnOf "fault" "fault" (Zz RG) (Zv RG) (Zg RG) .none .none .none .none none .none .none),true),
 some (nrm (PySem.W.fnOf "strikes" "strikes" (Zz SO) (Zv SO) (Zg SO) .none .none .none .none none .none .none),true),
 some (nrm (PySem.W.fnOf "settled" "settled" (Zz Rw) (Zv Rw) (Zg Rw) .none .none .none .none none .none .none),true),
 some (nrm (PySem.W.fnOf "law" "law" (Zz Rg) (Zv Rg) (Zg Rg) .none .none .none .none none .none .none),true)]
def obsI (K:PySem.W.Frag):List (Option Int):=[intV (PySem.W.nsIn K mainGlobals "FACED"),
 intV (PySem.W.nsIn K mainGlobals "FREE"),
 intV (PySem.W.nsIn K mainGlobals "HELD"),
 intV (PySem.W.nsIn K mainGlobals "LAST_SIDE"),
 intV (PySem.W.nsIn K mainGlobals "RIVAL")]
def expI:List (Option Int):=[some 2,
 some 0,
 some 3,
 some 7,
 some 1]
def obsT (K:PySem.W.Frag):List (Option (String × Str)):=[tupV K 250]
def expT:List (Option (String × Str)):=[some ("tuple","stand")]
def obsL (K:PySem.W.Frag):List (List (Option Bool)):=[Qg.map (fun s=>PySem.W.kitOne K (.type s) (.type "bool")),
 Qg.map (fun s=>PySem.W.kitOne K (.type s) (.type "int"))]
def expL:List (List (Option Bool)):=[[some false,some true,some false,some false,some false,some false,some false],
 [some false,some true,some true,some false,some false,some false,some false]]
def obsO (K:PySem.W.Frag):List (Option Bool):=[]
def expO:List (Option Bool):=[]
abbrev OT:Type:=List (Option (Option Value)) × List Bool × List (Option (FuncData × Bool)) × List (Option Int) × List (Option (String × Str)) × List (List (Option Bool)) × List (Option Bool)
def obsA (K:PySem.W.Frag):OT:=(obsR K,obsB K,obsF K,obsI K,obsT K,obsL K,obsO K)
def expA:OT:=(expR,expB,expF,expI,expT,expL,expO)
def GK (K:PySem.W.Frag):Prop:=obsR K=expR∧obsB K=expB∧obsF K=expF∧obsI K=expI∧obsT K=expT∧obsL K=expL∧obsO K=expO
theorem gk_of {K:PySem.W.Frag} (h:obsA K=expA):GK K:=by
 unfold obsA expA at h
 simp only[Prod.mk.injEq]at h
 exact h
def asK:List Addr:=[2,3,15,17,18,20,21,22,25,26,27,29,30,32,33,34,36,37,39,40,41,43,44,46,47,48,51,52,53,55,56,58,59,60,63,64,65,67,68,70,71,72,79,80,81,82,85,92,93,94,97,104,105,106,109,116,117,118,121,128,129,130,133,140,141,142,152,154,155,157,158,159,161,162,164,165,166,168,169,171,172,173,175,176,178,179,180,182,183,185,186,187,189,190,192,193,194,195,196,197,198,208,210,211,213,214,215,217,218,220,221,222,224,225,227,228,229,231,232,234,235,236,238,239,241,242,243,244,245,246,247,250,258,260,261,263,264,265,267,268,270,271,272,274,275,277,278,279,281,282,284,285,286,288,289,291,292,293,296,297,298,300,301,303,304,305,307,308,310,311,312,314,315,317,318,319,320,321,322,323,326,328,329,331,332,333,336,337,338,340,341,343,344,345,347,348,350,351,352,354,355,357,358,359,361,362,364,365,366,369,370,371,374,375,376,378,379,381,382,383,385,386,388,389,390,392,393,395,396,397,400,401]
def hook:PySem.W.Hook:=⟨OT,fun s=>obsA (WQ asK s.heap),fun _=>expA,fun _ h=>∃K:PySem.W.Frag,K.In h∧GK K,fun _ s e=>⟨_,RU s.heap asK,gk_of e⟩,fun _ _ _ ⟨K,x,g⟩ k=>⟨K,PySem.W.Frag.In.keeps x k,g⟩⟩
def view:Program:={ PySem.Challenge.pw_atonce_k18_many_helpers with main:={ PySem.Challenge.pw_atonce_k18_many_helpers.main with body:=[top 0,top 2,top 3,top 4,top 5,top 6,top 7,top 8,top 9,top 11,top 12,top 13,top 14,top 15,top 16,top 18,top 19,top 21,top 23,top 24,top 26,top 27,top 28,top 29,top 30,top 31,top 32,top 33,top 34,top 35,top 36,top 37,top 39,top 40,top 41,top 42] } }
theorem Sa {α β γ:Type} {x:Option α} {f:α->β} {g:α->γ} {a:β} {b:γ} (h1:x.map f=some a) (h2:x.map g=some b):x.map (fun s=>(f s,g s))=some (a,b):=by
 cases x with
 |none=>cases h1
 |some v=>simp only[Option.map_some,Option.some.injEq]at h1 h2 ⊢; rw[h1,h2]
def Xt (s:Shared):Bool:=PySem.W.xlAt view [] s&&PySem.W.recOk (PySem.W.RowW.records PySem.Challenge.rw_atonce_k18_many_helpers.row.toRowW) s
def rT (tb:String->Option Builtin) (q:Program) (v:World) (m:Nat) (an:Option Value):Nat->PySem.W.SharedT->Thread->Option PySem.W.SharedT
 |0,_,_=>none
 |i+1,x,y=>match PySem.W.through y with
  |true=>some x
  |false=>match PySem.W.stepOk m an y with
   |false=>none
   |true=>match PySem.W.stepT (denote tb) q v x y with
    |some (x',y')=>rT tb q v m an i x' y'
    |none=>none
theorem rT_of {tb:String->Option Builtin} {q:Program} {v:World} {m:Nat} {an:Option Value}:∀{i:Nat} {x x':PySem.W.SharedT} {y:Thread},rT tb q v m an i x y=some x'->PySem.W.topRun tb q v m an i x.abs y=some x'.abs
 |0,_,_,_,h=>by cases h
 |i+1,x,x',y,h=>by
  unfold rT at h
  unfold PySem.W.topRun
  cases ht:PySem.W.through y with
  |true=>rw[ht]at h; cases h; rfl
  |false =>
   rw[ht]at h
   cases hk:PySem.W.stepOk m an y with
   |false=>rw[hk]at h; cases h
   |true =>
    rw[hk]at h
    cases hs:PySem.W.stepT (denote tb) q v x y with
    |none=>rw[hs]at h; cases h
    |some r=>obtain ⟨x2,y2⟩:=r; rw[hs]at h; rw[PySem.W.stepT_spec hs]; exact rT_of h
def plant:List Obj->Nat->PySem.W.BT->Option PySem.W.BT
 |[],_,t=>some t
 |o::l,n,t=>match ((t.ins n o).get n).isSome with
  |true=>plant l (n+1) (t.ins n o)
  |false=>none
theorem plant_of {lf:Life}:∀{l:List Obj} {n:Nat} {t t':PySem.W.BT},plant l n t=some t'->(PySem.W.absHeap t' (n+l.length) lf).objs.toList=(PySem.W.absHeap t n lf).objs.toList++l
 |[],n,t,t',h=>by cases h; simp
 |o::l,n,t,t',h=>by
  unfold plant at h
  split at h
  ·rename_i e
   have ih:=plant_of (lf:=lf) h
   rw[PySem.W.absHeap_ins e]at ih
   have:n+(o::l).length=n+1+l.length:=by simp; omega
   rw[this,ih]
   show ((PySem.W.absHeap t n lf).objs.push o).toList++l=_
   simp
  ·cases h
def goT (q:Program) (v:World) (m:Nat) (an:Option Value) (i:Nat) (os:OsState):Option PySem.W.SharedT :=
 (plant (PySem.W.boot_heap v.params).objs.toList 0 .nil).bind fun t=>rT treeTable q v m an i ⟨t,m,(PySem.W.boot_heap v.params).life,Array.mk [],PySem.W.boot_drawn,PySem.W.boot_toks,os⟩ (PySem.W.topStub q)
def okT (q:Program) (v:World) (s:Shared):Bool:=PySem.W.staticsOk (PySem.importedModules q.main.body) (PySem.W.boot_heap v.params) s.heap&&PySem.W.namesBound q s.heap&&PySem.W.gensDone s&&PySem.W.laidKept (PySem.W.boot_heap v.params) s.heap
theorem leftT {p q : Program} {loose : List Str} {Xt : Shared -> Bool} {α : Type} {Yf : Shared -> α} {Ya : World -> α} {N m : Nat} {an : Option Value}
    (e:PySem.W.opening p=PySem.W.plainProg p.main.scope.names) (hN:Nat.ble 600 N=true) (f:∀s,fenceModules? p s=some s)
    (z:∀w:World,((PySem.W.boot_heap w.params).isNs mainGlobals,(PySem.W.boot_heap w.params).objs.toList.length,(PySem.W.boot_heap w.params).nsMap mainGlobals "__annotations__")=(true,m,an))
    (run:∀(w:World) (os:OsState),(goT p w m an N os).map (fun x=>(okT p w x.abs,PySem.W.openSeen q loose (PySem.importedModules p.main.body) Xt true x.abs,Yf x.abs))=some (true,PySem.W.openGood q loose,Ya w)) :
    PySem.W.LeftO p q loose Xt Yf Ya N:=fun w=>by
  obtain ⟨⟨h,gs,d,k,os⟩,o,o'⟩:=Option.map_eq_some_iff.mp (PySem.W.boot_open e hN f w)
  obtain ⟨rfl,rfl,rfl,rfl⟩:h=PySem.W.boot_heap w.params∧gs=Array.mk []∧d=PySem.W.boot_drawn∧k=PySem.W.boot_toks:=by simpa using o'
  obtain ⟨z1,z2,z3⟩:_∧_∧_:=by simpa only [Prod.mk.injEq] using z w
  obtain ⟨x,hx,hv⟩:=Option.map_eq_some_iff.mp (run w os)
  obtain ⟨l1,l2,l3⟩:_∧_∧_:=by simpa only [Prod.mk.injEq] using hv
  obtain ⟨t,ht,hr⟩:=Option.bind_eq_some_iff.mp hx
  have r:=rT_of hr
  have hp:=plant_of (lf:=(PySem.W.boot_heap w.params).life) ht
  rw[z2,Nat.zero_add]at hp
  have ha:PySem.W.absHeap t m (PySem.W.boot_heap w.params).life=PySem.W.boot_heap w.params:=by
    have:(PySem.W.absHeap t m (PySem.W.boot_heap w.params).life).objs=(PySem.W.boot_heap w.params).objs:=Array.toList_inj.mp (by rw[hp]; simp[PySem.W.absHeap,PySem.W.BT.list])
    exact congrArg (fun o=>Heap.mk o (PySem.W.boot_heap w.params).life) this
  have hs:(PySem.W.boot_heap w.params).objs.size=m:=by rw[← z2]; simp
  unfold PySem.W.SharedT.abs at r
  dsimp only at r
  rw[ha]at r
  have tt:PySem.W.topFrom treeTable p w N ⟨PySem.W.boot_heap w.params,Array.mk [],PySem.W.boot_drawn,PySem.W.boot_toks,os⟩=some x.abs:=by
    unfold PySem.W.topFrom
    dsimp only
    rw[z1,z3,hs,r]
    show (match okT p w x.abs with|true=>some x.abs|false=>none)=_
    rw[l1]
  unfold PySem.W.openEnds
  rw[o]
  show (PySem.W.topFrom treeTable p w N _).map _=_
  rw[tt]
  exact congrArg some (Prod.ext l2 l3)
def getT (t:PySem.W.BT) (n a:Nat):Option Obj:=match Nat.blt a n with
 |true=>PySem.W.alive ((t.get a).getD default)
 |false=>none
theorem getT_abs (t:PySem.W.BT) (n:Nat) (lf:Life) (a:Nat):(PySem.W.absHeap t n lf).get? a=getT t n a:=by
  unfold getT
  by_cases h:a < n
  · have:Nat.blt a n=true:=by simpa [Nat.blt_eq] using h
    rw[this]
    unfold Heap.get?
    rw[PySem.W.absHeap_at,if_pos h]
    generalize (t.get a).getD default=o
    show (match some o with|some ⟨_,_,.freed,_⟩=>none|o=>o)=PySem.W.alive o
    obtain ⟨c,d,dt,sl⟩:=o
    cases dt <;> rfl
  · have : Nat.blt a n = false:=by
      cases hb:Nat.blt a n with
      |false=>rfl
      |true=>exact absurd (by simpa [Nat.blt_eq] using hb) h
    rw[this,PySem.W.abs_get_none h]
def fragT (as:List Addr) (t:PySem.W.BT) (n:Nat):PySem.W.Frag:=as.filterMap fun a=>(getT t n a).map fun o=>(a,o)
theorem fragT_abs (as:List Addr) (t:PySem.W.BT) (n:Nat) (lf:Life):WQ as (PySem.W.absHeap t n lf)=fragT as t n:=by
 unfold WQ fragT
 simp only[getT_abs]
theorem z_ok (w:World):((PySem.W.boot_heap w.params).isNs mainGlobals,(PySem.W.boot_heap w.params).objs.toList.length,(PySem.W.boot_heap w.params).nsMap mainGlobals "__annotations__")=(true,11,(some (.ref 6))):=by kernel_rfl
set_option maxRecDepth 100000 in
set_option maxHeartbeats 0 in
theorem run_o (w:World) (os:OsState):Option.map (fun x=>okT PySem.Challenge.pw_atonce_k18_many_helpers w x.abs) (goT PySem.Challenge.pw_atonce_k18_many_helpers w 11 (some (.ref 6)) 6532 os)=some true:=by kernel_rfl
set_option maxRecDepth 100000 in
set_option maxHeartbeats 0 in
theorem run_a (w:World) (os:OsState):Option.map (fun x=>(PySem.W.openSeen view [] (PySem.importedModules PySem.Challenge.pw_atonce_k18_many_helpers.main.body) Xt true x.abs).1) (goT PySem.Challenge.pw_atonce_k18_many_helpers w 11 (some (.ref 6)) 6532 os)=some (PySem.W.openGood view []).1:=by kernel_rfl
set_option maxRecDepth 100000 in
set_option maxHeartbeats 0 in
theorem run_c (w:World) (os:OsState):Option.map (fun x=>(PySem.W.openSeen view [] (PySem.importedModules PySem.Challenge.pw_atonce_k18_many_helpers.main.body) Xt true x.abs).2) (goT PySem.Challenge.pw_atonce_k18_many_helpers w 11 (some (.ref 6)) 6532 os)=some (PySem.W.openGood view []).2:=by kernel_rfl
set_option maxRecDepth 100000 in
set_option maxHeartbeats 0 in
theorem run_f (w:World) (os:OsState):Option.map (fun x=>obsA (fragT asK x.tree x.n)) (goT PySem.Challenge.pw_atonce_k18_many_helpers w 11 (some (.ref 6)) 6532 os)=some expA:=by kernel_rfl
theorem obs_abs:(fun x:PySem.W.SharedT=>obsA (fragT asK x.tree x.n))=fun x=>obsA (WQ asK x.abs.heap):=funext fun x=>congrArg obsA (fragT_abs asK x.tree x.n x.life).symm
theorem run_g (w:World) (os:OsState):Option.map (fun x=>obsA (WQ asK x.abs.heap)) (goT PySem.Challenge.pw_atonce_k18_many_helpers w 11 (some (.ref 6)) 6532 os)=some expA:=obs_abs ▸ run_f w os
theorem run:PySem.W.LeftO PySem.Challenge.pw_atonce_k18_many_helpers view [] Xt (PySem.W.Hook.obs hook) (PySem.W.Hook.val hook) 6532:=leftT (by kernel_rfl) (by decide) (fun _=>rfl) z_ok fun w os=>Sa (run_o w os) (Sa (Sa (run_a w os) (run_c w os)) (run_g w os))
end
end MP
set_option maxRecDepth 100000
namespace L2
open PySem PySem.Spec PyProof.Rows
abbrev Key:=Sum Int Str
def T6:Key->Value->Bool
 |.inl k,v=>Value.isInt k v
 |.inr x,v=>Value.isStrOf x v
def keyH (w:World):Key->Int
 |.inl k=>hashInt k
 |.inr x=>hashStr w x
theorem Yg:∀{k:Key} {v:Value},T6 k v=true->(∃i t,k=Sum.inl i∧v=Value.int i t)∨(∃x t,k=Sum.inr x∧v=Value.str x t)
 |.inl i,v,h=>by
  obtain ⟨t,e⟩:=Value.isInt_shape (k:=i) (v:=v) h
  exact .inl ⟨i,t,rfl,e⟩
 |.inr x,v,h=>by
  obtain ⟨t,e⟩:=Value.isStrOf_shape (x:=x) (v:=v) h
  exact .inr ⟨x,t,rfl,e⟩
theorem keyIs_int (i:Int) (t:Tok):T6 (.inl i) (.int i t)=true:=by simp[T6,Value.isInt]
theorem keyIs_str (x:Str) (t:Tok):T6 (.inr x) (.str x t)=true:=by simp[T6,Value.isStrOf]
theorem key_ll (a b:Int):decide ((Sum.inl a:Key)=Sum.inl b)=(a == b):=by
 by_cases e:a=b
 ·subst e; simp
 ·have h:¬ (Sum.inl a:Key)=Sum.inl b:=fun q=>e (Sum.inl.inj q)
  rw[decide_eq_false h]
  exact (beq_eq_false_iff_ne.mpr e).symm
theorem key_rr (a b:Str):decide ((Sum.inr a:Key)=Sum.inr b)=decide (a=b):=by
 by_cases e:a=b
 ·subst e; simp
 ·have h:¬ (Sum.inr a:Key)=Sum.inr b:=fun q=>e (Sum.inr.inj q)
  rw[decide_eq_false h,decide_eq_false e]
theorem key_lr (a:Int) (b:Str):decide ((Sum.inl a:Key)=Sum.inr b)=false:=decide_eq_false (fun q=>nomatch q)
theorem key_rl (a:Str) (b:Int):decide ((Sum.inr a:Key)=Sum.inl b)=false:=decide_eq_false (fun q=>nomatch q)
def ZQ (prog:Program) (w:World):PySem.KeyKind prog w Key where
 is:=T6
 hash:=keyH w
 inj:=fun v a b ha hb=>by
  rcases Yg ha with ⟨i,t,rfl,rfl⟩|⟨x,t,rfl,rfl⟩
  ·rcases Yg hb with ⟨j,u,rfl,e⟩|⟨y,u,rfl,e⟩
   ·injection e with e1 _; rw[e1]
   ·exact nomatch e
  ·rcases Yg hb with ⟨j,u,rfl,e⟩|⟨y,u,rfl,e⟩
   ·exact nomatch e
   ·injection e with e1 _; rw[e1]
 byValue:=fun k v h=>by
  rcases Yg h with ⟨i,t,rfl,rfl⟩|⟨x,t,rfl,rfl⟩ <;> rfl
 pyHash:=fun hv h=>by
  rcases Yg hv with ⟨i,t,rfl,rfl⟩|⟨x,t,rfl,rfl⟩
  ·exact wpAny_pyHash_int h
  ·exact wpAny_pyHash_str h
 eqBool:=fun hu hv h=>by
  rcases Yg hu with ⟨i,t,rfl,rfl⟩|⟨x,t,rfl,rfl⟩
  ·rcases Yg hv with ⟨j,u,rfl,rfl⟩|⟨y,u,rfl,rfl⟩
   ·rw[key_ll]at h; exact wpAny_eqBool_int h
   ·rw[key_lr]at h; exact SeqAt.EqAt.int_str i t y u _ _ _ _ h
  ·rcases Yg hv with ⟨j,u,rfl,rfl⟩|⟨y,u,rfl,rfl⟩
   ·rw[key_rl]at h; exact SeqAt.EqAt.str_int x t j u _ _ _ _ h
   ·rw[key_rr]at h; exact wpAny_eqBool_str h
 «strs»:=fun k x t v h=>by
  rcases Yg h with ⟨i,u,rfl,e⟩|⟨y,u,rfl,e⟩
  ·exact nomatch e
  ·injection e with e1 _
   subst e1
   cases v <;> rfl
theorem Pr (prog:Program) (w:World) (i:Int) (t:Tok):(ZQ prog w).is (.inl i) (.int i t)=true:=keyIs_int i t
theorem Pi (prog:Program) (w:World) (x:Str) (t:Tok):(ZQ prog w).is (.inr x) (.str x t)=true:=keyIs_str x t
end L2
namespace L2
open PySem PySem.Spec PyProof.Rows
inductive V where
 |non|bl (b:Bool)|int (i:Int)|str (x:Str)|byt (b:Array UInt8)|flt (b:UInt64)|ref (a:Addr)|ty (n:String)
 deriving DecidableEq
def RelV:V->Value->Prop
 |.non,u=>u=Value.none
 |.bl b,u=>u=Value.bool b
 |.int i,u=>∃t,u=Value.int i t
 |.str x,u=>∃t,u=Value.str x t
 |.byt b,u=>∃t,u=Value.bytes b t
 |.flt b,u=>∃t,u=Value.float b t
 |.ref a,u=>u=Value.ref a
 |.ty n,u=>u=Value.type n
abbrev Vals:List V->List Value->Prop:=Paired RelV
theorem Vals.length {xs:List V} {us:List Value} (r:Vals xs us):xs.length=us.length:=Paired.length r
theorem Vals.get:∀{xs:List V} {us:List Value} {i:Nat} {x:V},Vals xs us->xs[i]?=some x->∃u,us[i]?=some u∧RelV x u
 |_,_,_,_,.nil,e=>by simp at e
 |_,_,0,_,.cons r _,e=>by simp at e; subst e; exact ⟨_,rfl,r⟩
 |_,_,i+1,x,.cons _ t,e=>by
  obtain ⟨u,h1,h2⟩:=Vals.get (i:=i) (x:=x) t (by simpa using e)
  exact ⟨u,by simpa using h1,h2⟩
theorem Vals.set {x:V} {u:Value} (r:RelV x u):∀{xs:List V} {us:List Value} (i:Nat),Vals xs us->Vals (xs.set i x) (us.set i u)
 |_,_,_,.nil=>.nil
 |_,_,0,.cons _ t=>.cons r t
 |_,_,i+1,.cons q t=>.cons q (Vals.set r i t)
theorem Vals.append:∀{xs ys:List V} {us ws:List Value},Vals xs us->Vals ys ws->Vals (xs++ys) (us++ws)
 |_,_,_,_,.nil,s=>s
 |_,_,_,_,.cons r t,s=>.cons r (Vals.append t s)
theorem Vals.take:∀{xs:List V} {us:List Value} (n:Nat),Vals xs us->Vals (xs.take n) (us.take n)
 |_,_,0,_=>.nil
 |_,_,_+1,.nil=>.nil
 |_,_,n+1,.cons r t=>.cons r (Vals.take n t)
theorem Vals.drop:∀{xs:List V} {us:List Value} (n:Nat),Vals xs us->Vals (xs.drop n) (us.drop n)
 |_,_,0,r=>r
 |_,_,_+1,.nil=>.nil
 |_,_,n+1,.cons _ t=>Vals.drop n t
def RelO:Option V->Option Value->Prop
 |some v,some u=>RelV v u
 |none,none=>True
 |_,_=>False
def KV {κ:Type}:List (κ × V)->List (κ × Value)->Prop:=Paired fun (p:κ × V) (q:κ × Value)=>p.1=q.1∧RelV p.2 q.2
def kV:Key->V
 |.inl i=>.int i
 |.inr x=>.str x
inductive HO where
 |lst (xs:List V)
 |tup (xs:List V)
 |dK (kvs:List (Key × V))|dT (kvs:List (List Key × V))
 |set (S:Int->Bool) (n:Nat)
 |ins (C dx:Addr) (fs:List (Str × V))
 |own (x:Addr)
 |xd (fs:List (Str × V))
 |met (f x:Addr)
 |rng (lo hi:Int)
 |frz (o:Obj) (u:HO)
 |tbl (ps:Array Value)
 |ext (φ:Heap->Prop)
abbrev Hp:=Addr->Option HO
def upd (H:Hp) (a:Addr) (o:HO):Hp:=fun b=>if b=a then some o else H b
theorem ZA {H:Hp} {a:Addr} {o:HO}:upd H a o a=some o:=by unfold upd; rw[if_pos rfl]
theorem Zp {H:Hp} {a b:Addr} {o:HO} (h:b≠a):upd H a o b=H b:=by unfold upd; rw[if_neg h]
theorem upd_upd {H:Hp} {a:Addr} {o u:HO}:upd (upd H a o) a u=upd H a u:=by
 funext b; unfold upd; split <;> rfl
theorem ne_of {H:Hp} {a b:Addr} {o u:HO} (h:H a=some o) (h':H b=some u) (d:o≠u):a≠b:=by
 intro e; subst e; rw[h]at h'; exact d (Option.some.inj h')
theorem ZL {H:Hp} {a b:Addr} {o:HO} (h:H a=some o) (h':H b=none):a≠b:=by
 intro e; subst e; rw[h]at h'; cases h'
section
variable (P:Program) (w:World)
def ObjOk (H:Hp) (h:Heap) (a:Addr):HO->Prop
  |.lst xs=>xs.length<=sizeLine∧∃(its:List Value) (n:Nat),Vals xs its∧h.get? a=some { cls:=.type "list",data:=.seq its.toArray n }
  |.tup xs=>xs.length<=sizeLine∧∃its:List Value,Vals xs its∧IsTup h a its.toArray
  |.dK kvs=>kvs.length<=sizeLine∧(a == sysModules)=false∧∃vs,KV kvs vs∧h.DictOf (ZQ P w) a vs
  | .dT kvs => kvs.length <= sizeLine ∧ (a == sysModules) = false ∧ ∃ xs : List (List Key × Addr × Value),
      Paired (fun (p:List Key × V) (q:List Key × Addr × Value)=>p.1=q.1∧H q.2.1=some (.tup (p.1.map kV))∧RelV p.2 q.2.2) kvs xs ∧
      ∃o es ep,h.get? a=some o∧o.ExactDict∧o.data=.dict es ep∧es.toList=xs.map (entryOfKey (tupleKind (ZQ P w)))∧(xs.map (·.1)).Nodup
  |.set S n=>h.SetOf (intKind P w) a S n
  | .ins C dx fs => H dx = some (.own a) ∧ fs.length <= 1000 ∧ dx ≠ a ∧ h.get? a = some (PySem.W.instObj C dx) ∧
      ∃mA,h.Ns1 dx mA∧(∀f,RelO (fs.lookup f) (mA f))∧PySem.Within mA (fs.map (·.1))
  |.own _=>∃o,h.get? a=some o
  |.xd fs=>∃mA,h.Ns1 a mA∧∀f,RelO (fs.lookup f) (mA f)
  |.rng lo hi=>∃t u v,h.get? a=some { cls:=.type "range",data:=.fields #[.int lo t,.int hi u,.int 1 v] }
  |.frz o u=>h.get? a=some o∧ObjOk H h a u
  |.tbl ps=>h.get? a=some { cls:=.none,data:=.fields ps }
  |.met f x=>h.get? a=some (PySem.W.methodObj (.ref f) (.ref x))
  |.ext φ=>φ h∧(∃o,h.get? a=some o)∧∀h1 h2:Heap,φ h1->(∀o,h1.get? a=some o->h2.get? a=some o)->φ h2
def HOk (H:Hp) (h:Heap):Prop:=∀a o,H a=some o->ObjOk P w H h a o
end
section
variable {P:Program} {w:World} {H H':Hp} {h h':Heap} {a:Addr} {o:HO}
theorem ObjOk.lt (x:ObjOk P w H h a o):a < h.objs.size:=by
 cases o with
 |lst xs=>obtain ⟨_,_,_,_,e⟩:=x; exact Heap.lt_size e
 |tup xs=>obtain ⟨_,_,_,p⟩:=x; exact p.lt
 |dK kvs=>obtain ⟨_,_,_,_,o,_,_,e,_⟩:=x; exact Heap.lt_size e
 |dT kvs=>obtain ⟨_,_,_,_,o,_,_,e,_⟩:=x; exact Heap.lt_size e
 |set S n=>obtain ⟨o,_,_,_,e,_⟩:=x; exact Heap.lt_size e
 |ins C dx fs=>obtain ⟨_,_,_,e,_⟩:=x; exact Heap.lt_size e
 |own y=>obtain ⟨_,e⟩:=x; exact Heap.lt_size e
 |xd fs=>obtain ⟨_,⟨_,_,_,e,_⟩,_⟩:=x; exact Heap.lt_size e
 |rng lo hi=>obtain ⟨_,_,_,e⟩:=x; exact Heap.lt_size e
 |frz ob u=>obtain ⟨e,_⟩:=x; exact Heap.lt_size e
 |tbl ps=>exact Heap.lt_size (show h.get? a=some _ from x)
 |met f y=>exact Heap.lt_size (show h.get? a=some _ from x)
 |ext φ=>obtain ⟨_,⟨_,e⟩,_⟩:=x; exact Heap.lt_size e
theorem Paired.mapP {α β:Type} {F G:α->β->Prop}:∀{l₁:List α} {l₂:List β},Paired F l₁ l₂->(∀a b,F a b->G a b)->Paired G l₁ l₂
 |_,_,.nil,_=>.nil
 |_,_,.cons r t,f=>.cons (f _ _ r) (Paired.mapP t f)
theorem ObjOk.stay (x : ObjOk P w H h a o) (k : ∀ b u,(b = a ∨ H b = some (.own a)) -> h.get? b = some u -> h'.get? b = some u)
    (ho:∀b,H b=some (.own a)->H' b=some (.own a)) (ht:∀b xs,H b=some (.tup xs)->H' b=some (.tup xs)):ObjOk P w H' h' a o:=by
  induction o with
  |lst xs=>obtain ⟨z,its,n,r,e⟩:=x; exact ⟨z,its,n,r,k _ _ (.inl rfl) e⟩
  |tup xs=>obtain ⟨z,its,r,ob,e,c⟩:=x; exact ⟨z,its,r,ob,k _ _ (.inl rfl) e,c⟩
  |dK kvs=>obtain ⟨z,y,vs,r,ob,es,ep,e,c⟩:=x; exact ⟨z,y,vs,r,ob,es,ep,k _ _ (.inl rfl) e,c⟩
  |dT kvs =>
    obtain ⟨z,y,xs,r,ob,es,ep,e,c⟩:=x
    exact ⟨z,y,xs,Paired.mapP r fun p q z=>⟨z.1,ht _ _ z.2.1,z.2.2⟩,ob,es,ep,k _ _ (.inl rfl) e,c⟩
  |set S n=>obtain ⟨ob,es,ep,t,e,c⟩:=x; exact ⟨ob,es,ep,t,k _ _ (.inl rfl) e,c⟩
  |ins C dx fs =>
    obtain ⟨d,z,ne,e,mA,⟨od,es,ep,e2,c⟩,r⟩:=x
    exact ⟨ho _ d,z,ne,k _ _ (.inl rfl) e,mA,⟨od,es,ep,k _ _ (.inr d) e2,c⟩,r⟩
  |own y=>obtain ⟨ob,e⟩:=x; exact ⟨ob,k _ _ (.inl rfl) e⟩
  |xd fs=>obtain ⟨mA,⟨od,es,ep,e,c⟩,r⟩:=x; exact ⟨mA,⟨od,es,ep,k _ _ (.inl rfl) e,c⟩,r⟩
  |rng lo hi=>obtain ⟨t,u,v,e⟩:=x; exact ⟨t,u,v,k _ _ (.inl rfl) e⟩
  |frz ob u ih=>obtain ⟨e,q⟩:=x; exact ⟨k _ _ (.inl rfl) e,ih q⟩
  |tbl ps =>
    have e:h.get? a=some { cls:=.none,data:=.fields ps }:=x
    show h'.get? a=some { cls:=.none,data:=.fields ps }
    exact k a _ (.inl rfl) e
  |met f y =>
    have e:h.get? a=some (PySem.W.methodObj (.ref f) (.ref y)):=x
    show h'.get? a=some (PySem.W.methodObj (.ref f) (.ref y))
    exact k a _ (.inl rfl) e
  |ext φ=>obtain ⟨p,⟨o,e⟩,st⟩:=x; exact ⟨st _ _ p fun o q=>k _ _ (.inl rfl) q,⟨o,k _ _ (.inl rfl) e⟩,st⟩
theorem HOk.lt (x:HOk P w H h) (e:H a=some o):a < h.objs.size:=(x a o e).lt
theorem HOk.fresh (x:HOk P w H h) (e:h.objs.size<=a):H a=none:=by
 cases q:H a with
 |none=>rfl
 |some u=>exact absurd (Nat.lt_of_lt_of_le (x.lt q) e) (Nat.lt_irrefl _)
theorem HOk.kept (x:HOk P w H h) (k:∀b u,h.get? b=some u->h'.get? b=some u):HOk P w H h':=fun a o e =>
 (x a o e).stay (fun b u _ q=>k b u q) (fun _ q=>q) fun _ _ q=>q
theorem HOk.laid (x:HOk P w H h) (k:∀b u,h.get? b=some u->h'.get? b=some u) (hp:h.objs.size<=a) (new:ObjOk P w (upd H a o) h' a o):HOk P w (upd H a o) h':=fun b u e=>by
 have hn:=x.fresh hp
 by_cases hb:b=a
 ·subst hb; rw[ZA]at e; cases e; exact new
 ·rw[Zp hb]at e
  exact (x b u e).stay (fun c v _ q=>k c v q) (fun c q=>by rw[Zp (ZL q hn)]; exact q) fun c xs q=>by rw[Zp (ZL q hn)]; exact q
end
def Rd (H:Hp) (a:Addr) (u:HO):Prop:=H a=some u∨∃o,H a=some (.frz o u)
theorem Rd.of {H:Hp} {a:Addr} {u:HO} (h:H a=some u):Rd H a u:=.inl h
theorem Rd.ok {P:Program} {w:World} {H:Hp} {h:Heap} {a:Addr} {u:HO} (r:Rd H a u) (x:HOk P w H h):ObjOk P w H h a u:=by
 rcases r with r|⟨o,r⟩
 ·exact x a u r
 ·obtain ⟨_,q⟩:=x a _ r
  exact q
def Mut:Option HO->Prop
 |some (.lst _)=>True
 |some (.dK _)=>True
 |some (.dT _)=>True
 |some (.set _ _)=>True
 |some (.ins _ _ _)=>True
 |some (.ext _)=>True
 |_=>False
section
variable {P:Program} {w:World} {H:Hp} {h h':Heap} {x e:Addr} {o':HO}
theorem HOk.write (ok : HOk P w H h) (mu : Mut (H x)) (he : e = x ∨ H e = some (.own x)) (k : ∀ b u,b ≠ e -> h.get? b = some u -> h'.get? b = some u) (heo : ∃ u,h'.get? e = some u)
    (new:ObjOk P w (upd H x o') h' x o'):HOk P w (upd H x o') h':=fun b u q=>by
  have nown:∀c y,H c=some (.own y)->c≠x:=fun c y r z=>by subst z; rw[r]at mu; exact mu
  have ntup:∀c xs,H c=some (.tup xs)->c≠x:=fun c xs r z=>by subst z; rw[r]at mu; exact mu
  by_cases hb:b=x
  · subst hb; rw[ZA]at q; cases q; exact new
  · rw[Zp hb]at q
    by_cases hbe:b=e
    · have q' : H b = some (.own x):=by
        rcases he with z|z
        · exact absurd (hbe.trans z) hb
        · rw[hbe]; exact z
      rw[q]at q'; cases q'
      obtain ⟨v,hv⟩:=heo
      exact ⟨v,by rw[hbe]; exact hv⟩
    · refine (ok b u q).stay (fun c v hc r=>k c v ?_ r) (fun c r=>by rw[Zp (nown c b r)]; exact r) fun c xs r=>by rw[Zp (ntup c xs r)]; exact r
      rcases hc with rfl|hc
      · exact hbe
      · rintro rfl
        rcases he with z|z
        · exact nown c b hc z
        · rw[hc]at z; cases z; exact hb rfl
end
structure Un (fs ex:List Addr) (H H':Hp) (h h':Heap):Prop where
 keep:∀b o,h.get? b=some o->H b=none->b ∉ fs->b ∉ ex->h'.get? b=some o
 slot:∀b o,h.get? b=some o->H b=none->b∈fs->b ∉ ex->∃sl,h'.get? b=some { o with slots:=sl }
 free:∀b o,h.get? b=some o->H b=none->b ∉ ex->H' b=none
 there:∀b o,h.get? b=some o->b ∉ ex->∃o',h'.get? b=some o'
 tups:∀b xs,H b=some (.tup xs)->H' b=some (.tup xs)
 frzs:∀b o u,H b=some (.frz o u)->H' b=some (.frz o u)
 tbls:∀b ps,H b=some (.tbl ps)->∃more,H' b=some (.tbl (ps++more))
section
variable {fs fs' ex ex':List Addr} {H H1 H2:Hp} {h h1 h2 h':Heap} {a x e:Addr} {o:HO}
theorem Un.any (u:Un fs ex H H1 h h1) {b:Addr} {ob:Obj} (q:h.get? b=some ob) (n:H b=none) (hx:b ∉ ex):∃sl,h1.get? b=some { ob with slots:=sl }:=by
 by_cases hb:b∈fs
 ·exact u.slot b ob q n hb hx
 ·exact ⟨ob.slots,u.keep b ob q n hb hx⟩
theorem Un.trans (a:Un fs ex H H1 h h1) (b:Un fs ex H1 H2 h1 h2):Un fs ex H H2 h h2 where
 keep:=fun c ob q n hc hx=>b.keep c ob (a.keep c ob q n hc hx) (a.free c ob q n hx) hc hx
 slot:=fun c ob q n hc hx=>by
  obtain ⟨sl,e1⟩:=a.slot c ob q n hc hx
  obtain ⟨sl',e2⟩:=b.slot c _ e1 (a.free c ob q n hx) hc hx
  exact ⟨sl',e2⟩
 free:=fun c ob q n hx=>by
  obtain ⟨o',e1⟩:=a.there c ob q hx
  exact b.free c o' e1 (a.free c ob q n hx) hx
 there:=fun c ob q hx=>by
  obtain ⟨o',e1⟩:=a.there c ob q hx
  exact b.there c o' e1 hx
 tups:=fun c xs q=>b.tups c xs (a.tups c xs q)
 frzs:=fun c ob xs q=>b.frzs c ob xs (a.frzs c ob xs q)
 tbls:=fun c ps q=>by
  obtain ⟨m1,e1⟩:=a.tbls c ps q
  obtain ⟨m2,e2⟩:=b.tbls c _ e1
  exact ⟨m1++m2,by rw[e2,Array.append_assoc]⟩
theorem Un.kept (k:∀b u,h.get? b=some u->h'.get? b=some u):Un fs ex H H h h' :=
 ⟨fun b ob q _ _ _=>k b ob q,fun b ob q _ _ _=>⟨ob.slots,k b ob q⟩,fun _ _ _ n _=>n,fun b ob q _=>⟨ob,k b ob q⟩,fun _ _ q=>q,fun _ _ _ q=>q,fun _ ps q=>⟨#[],by rw[q]; simp⟩⟩
theorem Un.refl:Un fs ex H H h h:=Un.kept fun _ _ q=>q
theorem Un.laid (k:∀b u,h.get? b=some u->h'.get? b=some u) (hp:h.objs.size<=a) (hn:H a=none):Un fs ex H (upd H a o) h h' where
 keep:=fun b u q _ _ _=>k b u q
 slot:=fun b u q _ _ _=>⟨u.slots,k b u q⟩
 free:=fun b u q n _=>by rw[Zp (Nat.ne_of_lt (Nat.lt_of_lt_of_le (Heap.lt_size q) hp))]; exact n
 there:=fun b u q _=>⟨u,k b u q⟩
 tups:=fun b xs q=>by rw[Zp (ZL q hn)]; exact q
 frzs:=fun b u xs q=>by rw[Zp (ZL q hn)]; exact q
 tbls:=fun b ps q=>⟨#[],by rw[Zp (ZL q hn),q]; simp⟩
theorem Un.write (mu:Mut (H x)) (he:e=x∨H e=some (.own x)) (k:∀b u,b≠e->h.get? b=some u->h'.get? b=some u) (heo:∃u,h'.get? e=some u):Un fs ex H (upd H x o) h h':=by
 have hx:∀b,H b=none->b≠x:=fun b n z=>by subst z; rw[n]at mu; exact mu
 have hb:∀b,H b=none->b≠e:=fun b n z=>by
  subst z
  rcases he with r|r
  ·exact hx b n r
  ·rw[n]at r; cases r
 have hm:∀b u,H b=some u->¬ Mut (some u)->b≠x:=fun b u q nm z=>by subst z; rw[q]at mu; exact nm mu
 refine ⟨fun b u q n _ _=>k b u (hb b n) q,fun b u q n _ _=>⟨u.slots,k b u (hb b n) q⟩,fun b u q n _=>by rw[Zp (hx b n)]; exact n,fun b u q _=>?_,
  fun b xs q=>by rw[Zp (hm b _ q fun z=>z)]; exact q,fun b u xs q=>by rw[Zp (hm b _ q fun z=>z)]; exact q,fun b ps q=>⟨#[],by rw[Zp (hm b _ q fun z=>z),q]; simp⟩⟩
 by_cases hbe:b=e
 ·subst hbe; exact heo
 ·exact ⟨u,k b u hbe q⟩
end
def trk (h:Heap) (H:Hp):List Addr:=(List.range h.objs.size).filter fun a=>(H a).isSome
def QG (h:Heap) (H:Hp):Heap:=PySem.W.hideAll h (trk h H)
theorem hidT_size (h:Heap) (H:Hp):(QG h H).objs.size=h.objs.size:=PySem.W.hideAll_size _ _
theorem hidT_get {h:Heap} {H:Hp} {b:Addr} {o:Obj} (e:h.get? b=some o) (n:H b=none):(QG h H).get? b=some o :=
 PySem.W.hideAll_get _ e fun hm=>by
  have q:(H b).isSome=true:=(List.mem_filter.mp hm).2
  rw[n]at q; simp at q
theorem of_hidT {h:Heap} {H:Hp} {b:Addr} {o:Obj} (e:(QG h H).get? b=some o):h.get? b=some o∧H b=none:=by
 have e':h.get? b=some o:=PySem.W.of_hideAll (trk h H) e
 refine ⟨e',?_⟩
 cases q:H b with
 |none=>rfl
 |some x =>
  have hm:b∈trk h H:=List.mem_filter.mpr ⟨List.mem_range.mpr (Heap.lt_size e'),by simp[q]⟩
  have z:(QG h H).get? b=none:=PySem.W.hideAll_none (trk h H) hm
  rw[z]at e; cases e
end L2
namespace L2
open PySem PySem.Spec PyProof.Rows
structure Mod (K:PySem.W.Frag) (mg:Str->Option Value) (base:Heap):Prop where
 kin:K.In base
 glob:base.Ns mainGlobals mg
 blt:∃mb,base.Ns builtinsNs mb∧∀x:Str,x≠"__name__"->mb x=bootBuiltins x
 nolimit:base.NoLimit
structure Cx where
 prog:Program
 w:World
 K:PySem.W.Frag
 mg:Str->Option Value
 base:Heap
 A:Around
 N:List Str
 s₀:Shared
 H₀:Hp
 env:Env
 outer:List Env
 stack:List Env
 ex:List Addr
 fn:Str->Bool
 calm:Bool
 pn:List (Addr × Obj)
 xe:Value->Shared->Prop
def frs (l:List Env):List Addr:=l.filterMap (·.frame)
abbrev Cx.fs (X:Cx):List Addr:=frs X.outer
def Vis (sc:Scope) (x:Str):Prop:=sc.names.lookup x=some .local∨sc.names.lookup x=some .cell∨sc.names.lookup x=some .free
def Loc (sc:Scope) (x:Str):Prop:=sc.names.lookup x=some .local∨sc.names.lookup x=some .cell
def Look (env:Env) (h:Heap) (m:Str->Option Value) (x:Str) (u:Value):Prop :=
 (env.kindOf x=some .local∧m x=some u)∨((env.kindOf x=some .cell∨env.kindOf x=some .free)∧∃c,env.cells.lookup x=some c∧h.IsCell c (some u))
structure Cx.Ok (X:Cx):Prop where
 mod:Mod X.K X.mg X.base
 kind:X.env.scope.kind=.function
 glob:X.env.globals=mainGlobals
 blt:X.env.builtins=builtinsNs
 above:X.s₀.heap.objs.size<=X.env.locals
 inj:∀x y c,X.env.cells.lookup x=some c->X.env.cells.lookup y=some c->x=y
 has:∀x,(X.env.kindOf x=some .cell∨X.env.kindOf x=some .free)->∃c,X.env.cells.lookup x=some c
 cab:∀x c,X.fn x=true->X.env.cells.lookup x=some c->X.s₀.heap.objs.size<=c
 hd:X.calm=true->X.A.handled=none
 frames:X.A.frames=some X.stack
 stk:X.stack=X.outer∨(X.stack=X.env::X.outer∧X.env.frame=some X.env.locals)
 exf:∀b∈X.ex,b≠X.env.locals∧∀x c,X.env.cells.lookup x=some c->c≠b
 bs:∀b o,X.base.get? b=some o->X.s₀.heap.get? b=some o∧X.H₀ b=none
 bsz:X.base.objs.size<=X.s₀.heap.objs.size
 noex:∀b o,X.base.get? b=some o->b ∉ X.ex
 exfs:∀b∈X.ex,b ∉ X.fs
 funs:X.s₀.heap.FunFrames X.base X.outer
 frf:∀b∈X.fs,X.H₀ b=none
structure Inv (X:Cx) (pins:List (Addr × Obj)) (σ:List (Option V)) (H:Hp) (s:Shared):Prop where
 ok:X.Ok
 os:s.os=X.s₀.os
 bare:AllBare s.gens
 base:Un X.fs X.ex X.H₀ H X.s₀.heap s.heap
 loc:∃m,s.heap.Ns X.env.locals m∧∀(i:Nat) (x:Str) (v:V),X.N[i]?=some x->σ[i]?=some (some v)->Vis X.env.scope x->∃u,RelV v u∧Look X.env s.heap m x u
 cell:∀x c,X.env.cells.lookup x=some c->∃v,s.heap.IsCell c v
 free:H X.env.locals=none
 freeC:∀x c,X.env.cells.lookup x=some c->H c=none
 pin:∀p∈X.pn++pins,s.heap.get? p.1=some p.2∧H p.1=none∧p.1≠X.env.locals∧p.1 ∉ X.fs∧∀v,p.2.data≠.cell v
 hok:HOk X.prog X.w H s.heap
 len:σ.length=X.N.length
section
variable {X:Cx} {pins:List (Addr × Obj)} {σ:List (Option V)} {H H':Hp} {s:Shared} {h':Heap}
theorem Cx.Ok.nofr (ok:X.Ok) {b:Addr} {o:Obj} (e:X.base.get? b=some o):b ∉ X.fs:=fun hb=>by
 have:=(ok.funs.mem hb).1
 rw[e]at this; cases this
theorem Inv.bs (I:Inv X pins σ H s):∀b o,X.base.get? b=some o->s.heap.get? b=some o∧H b=none:=fun b o e =>
 ⟨I.base.keep b o (I.ok.bs b o e).1 (I.ok.bs b o e).2 (I.ok.nofr e) (I.ok.noex b o e),I.base.free b o (I.ok.bs b o e).1 (I.ok.bs b o e).2 (I.ok.noex b o e)⟩
theorem Inv.bk (I:Inv X pins σ H s):∀b o,X.base.get? b=some o->s.heap.get? b=some o:=fun b o e=>(I.bs b o e).1
theorem Inv.mod (I:Inv X pins σ H s):Mod X.K X.mg X.base:=I.ok.mod
theorem Inv.kIn (I:Inv X pins σ H s):X.K.In s.heap:=I.ok.mod.kin.keeps I.bk
theorem Inv.lt (I:Inv X pins σ H s):X.env.locals < s.heap.objs.size:=let ⟨_,hn,_⟩:=I.loc; hn.lt
theorem Inv.sz (I:Inv X pins σ H s):X.s₀.heap.objs.size<=s.heap.objs.size:=Nat.le_trans I.ok.above (Nat.le_of_lt I.lt)
theorem Inv.nofs (I:Inv X pins σ H s) {a:Addr} (h:s.heap.objs.size<=a):a ∉ X.fs:=fun hb=>by
 obtain ⟨_,o,ho,_⟩:=I.ok.funs.mem hb
 exact absurd (Nat.lt_of_lt_of_le (Heap.lt_size ho) (Nat.le_trans I.sz h)) (Nat.lt_irrefl _)
theorem Inv.cne (I:Inv X pins σ H s):∀x c,X.env.cells.lookup x=some c->c≠X.env.locals:=fun x c e z=>by
 obtain ⟨v,o,ho,hd⟩:=I.cell x c e
 obtain ⟨m,⟨o',es,ep,ho',hd',_⟩,_⟩:=I.loc
 rw[z,ho']at ho; cases ho; rw[hd']at hd; cases hd
theorem Inv.funs (I:Inv X pins σ H s):s.heap.FunFrames X.base X.outer:=by
 have all:∀(l:List Env),(∀b∈frs l,b∈X.fs)->X.s₀.heap.FunFrames X.base l->s.heap.FunFrames X.base l:=by
  intro l
  induction l with
  |nil=>intro _ _; trivial
  |cons env r ih =>
   intro hs hl
   obtain ⟨hk,⟨L,o,hf,hn,ho,hd⟩,hr⟩:=hl
   have hL:L∈X.fs:=hs L (by unfold frs; rw[List.filterMap_cons,hf]; exact List.mem_cons_self)
   obtain ⟨sl,e⟩:=I.base.slot L o ho (I.ok.frf L hL) hL fun z=>I.ok.exfs L z hL
   exact ⟨hk,⟨L,_,hf,hn,e,hd⟩,ih (fun b hb=>hs b (by unfold frs; rw[List.filterMap_cons,hf]; exact List.mem_cons_of_mem _ hb)) hr⟩
 exact all X.outer (fun _ hb=>hb) I.ok.funs
theorem Inv.stack (I:Inv X pins σ H s):s.heap.FunFrames X.base X.stack:=by
 rcases I.ok.stk with e|⟨e,hf⟩
 ·rw[e]; exact I.funs
 ·rw[e]
  obtain ⟨m,hn,_⟩:=I.loc
  refine .cons (by rw[I.ok.kind]; decide) hf hn ?_ I.funs
  exact Heap.get?_none_of_le (Nat.le_trans I.ok.bsz I.ok.above)
theorem Inv.stkSub (I:Inv X pins σ H s):∀b∈frs X.stack,b∈X.env.locals::X.fs:=fun b hb=>by
 rcases I.ok.stk with e|⟨e,hf⟩
 ·rw[e]at hb; exact List.mem_cons_of_mem _ hb
 ·rw[e]at hb
  unfold frs at hb
  rw[List.filterMap_cons,hf]at hb
  exact hb
theorem Inv.stkFree (I:Inv X pins σ H s):∀b∈frs X.stack,H b=none:=fun b hb=>by
 rcases List.mem_cons.mp (I.stkSub b hb) with e|hb
 ·rw[e]; exact I.free
 ·obtain ⟨_,o,ho,_⟩:=I.ok.funs.mem hb
  exact I.base.free b o ho (I.ok.frf b hb) fun z=>I.ok.exfs b z hb
theorem Inv.step {g' : Array GenState} {t' : Nat} {d' : Drawn} {ch : List Addr} (I : Inv X pins σ H s)
    (hch:∀b∈ch,(b∈X.ex∨X.s₀.heap.objs.size<=b)∧b≠X.env.locals∧(∀x c,X.env.cells.lookup x=some c->c≠b)∧∀p∈X.pn++pins,p.1≠b)
    (keep:∀b o,b≠X.env.locals->b ∉ X.fs->b ∉ ch->s.heap.get? b=some o->H b=none->h'.get? b=some o)
    (slot:∀b o,b≠X.env.locals->b∈X.fs->b ∉ ch->s.heap.get? b=some o->H b=none->∃sl,h'.get? b=some { o with slots:=sl }) (free:∀b o,b ∉ ch->s.heap.get? b=some o->H b=none->H' b=none)
    (there:∀b o,b ∉ ch->s.heap.get? b=some o->∃o',h'.get? b=some o')
    (tups:∀b xs,H b=some (.tup xs)->H' b=some (.tup xs)) (frzs:∀b o u,H b=some (.frz o u)->H' b=some (.frz o u)) (tbls:∀b ps,H b=some (.tbl ps)->∃more,H' b=some (.tbl (ps++more)))
    (ns:∀m,s.heap.Ns X.env.locals m->h'.Ns X.env.locals m) (hok:HOk X.prog X.w H' h') (hg:AllBare g') :
    Inv X pins σ H' { s with heap:=h',gens:=g',drawn:=d',toks:=t' }:=by
  have neL:∀b o,X.s₀.heap.get? b=some o->b≠X.env.locals:=fun b o e=>Nat.ne_of_lt (Nat.lt_of_lt_of_le (Heap.lt_size e) I.ok.above)
  have neC:∀b o,X.s₀.heap.get? b=some o->b ∉ X.ex->b ∉ ch:=fun b o e hx hb=>by
    rcases (hch b hb).1 with z|z
    · exact hx z
    · exact absurd (Nat.lt_of_lt_of_le (Heap.lt_size e) z) (Nat.lt_irrefl _)
  have cellK:∀x c,X.env.cells.lookup x=some c->∀v,s.heap.IsCell c v->h'.IsCell c v:=fun x c e v ⟨o,ho,hd⟩=>by
    have nch:c ∉ ch:=fun z=>(hch c z).2.2.1 x c e rfl
    by_cases hc:c∈X.fs
    · obtain ⟨sl,q⟩:=slot c o (I.cne x c e) hc nch ho (I.freeC x c e)
      exact ⟨_,q,hd⟩
    · exact ⟨o,keep c o (I.cne x c e) hc nch ho (I.freeC x c e),hd⟩
  refine ⟨I.ok,I.os,hg,⟨fun b o e n hb hx=>?_,fun b o e n hb hx=>?_,fun b o e n hx=>?_,fun b o e hx=>?_,fun b xs e=>tups b xs (I.base.tups b xs e),fun b o xs e=>frzs b o xs (I.base.frzs b o xs e),fun b ps e=>?_⟩,?_,fun x c e=>?_,?_,fun x c e=>?_,fun p hp=>?_,hok,I.len⟩
  · exact keep b o (neL b o e) hb (neC b o e hx) (I.base.keep b o e n hb hx) (I.base.free b o e n hx)
  · obtain ⟨sl,e1⟩:=I.base.slot b o e n hb hx
    obtain ⟨sl',e2⟩:=slot b _ (neL b o e) hb (neC b o e hx) e1 (I.base.free b o e n hx)
    exact ⟨sl',e2⟩
  · obtain ⟨o',e1⟩:=I.base.there b o e hx
    exact free b o' (neC b o e hx) e1 (I.base.free b o e n hx)
  · obtain ⟨o',e1⟩:=I.base.there b o e hx
    exact there b o' (neC b o e hx) e1
  · obtain ⟨m1,e1⟩:=I.base.tbls b ps e
    obtain ⟨m2,e2⟩:=tbls b _ e1
    exact ⟨m1++m2,by rw[e2,Array.append_assoc]⟩
  · obtain ⟨m,hn,hl⟩:=I.loc
    refine ⟨m,ns m hn,fun i x v e1 e2 e3=>?_⟩
    obtain ⟨u,r,l⟩:=hl i x v e1 e2 e3
    refine ⟨u,r,?_⟩
    rcases l with l|⟨k,c,e,z⟩
    · exact .inl l
    · exact .inr ⟨k,c,e,cellK x c e _ z⟩
  · obtain ⟨v,z⟩:=I.cell x c e
    exact ⟨v,cellK x c e v z⟩
  · obtain ⟨m,⟨o,_,_,ho,_⟩,_⟩:=I.loc
    exact free _ o (fun z=>(hch _ z).2.1 rfl) ho I.free
  · obtain ⟨v,o,ho,hd⟩:=I.cell x c e
    exact free c o (fun z=>(hch c z).2.2.1 x c e rfl) ho (I.freeC x c e)
  · obtain ⟨e,n,ne,nf,d⟩:=I.pin p hp
    have nch:p.1 ∉ ch:=fun z=>(hch p.1 z).2.2.2 p hp rfl
    exact ⟨keep p.1 p.2 ne nf nch e n,free p.1 p.2 nch e n,ne,nf,d⟩
theorem Inv.un {t':Nat} (I:Inv X pins σ H s) (u:Un X.fs [] H H' s.heap h') (hok:HOk X.prog X.w H' h'):Inv X pins σ H' { s with heap:=h',toks:=t' }:=by
 obtain ⟨m,⟨o,es,ep,ho,r⟩,_⟩:=id I.loc
 obtain ⟨sl,hL⟩:=u.any ho I.free (by simp)
 exact I.step (g':=s.gens) (d':=s.drawn) (ch:=[]) (fun _ z=>nomatch z) (fun b o _ hb _ e n=>u.keep b o e n hb (by simp)) (fun b o _ hb _ e n=>u.slot b o e n hb (by simp)) (fun b o _ e n=>u.free b o e n (by simp)) (fun b o _ e=>u.there b o e (by simp)) u.tups u.frzs u.tbls (fun m' hm=>by
  obtain ⟨o',es',ep',ho',r'⟩:=hm
  rw[ho]at ho'; cases ho'
  exact ⟨_,es',ep',hL,r'⟩) hok I.bare
theorem Inv.call {g' : Array GenState} {t' : Nat} {d' : Drawn} {ch : List Addr} (I : Inv X pins σ H s) (u : Un (frs X.stack) ch H H' s.heap h') (hok : HOk X.prog X.w H' h') (hg : AllBare g')
    (hch:∀b∈ch,(b∈X.ex∨X.s₀.heap.objs.size<=b)∧b≠X.env.locals∧(∀x c,X.env.cells.lookup x=some c->c≠b)∧∀p∈X.pn++pins,p.1≠b) :
    Inv X pins σ H' { s with heap:=h',gens:=g',drawn:=d',toks:=t' }:=by
  obtain ⟨m,⟨o,es,ep,ho,r⟩,_⟩:=id I.loc
  obtain ⟨sl,hL⟩:=u.any ho I.free fun z=>(hch _ z).2.1 rfl
  exact I.step (ch:=ch) hch (fun b o hL hb hc e n=>u.keep b o e n (fun z=>(List.mem_cons.mp (I.stkSub b z)).elim hL hb) hc) (fun b o _ _ hc e n=>u.any e n hc) (fun b o hc e n=>u.free b o e n hc) (fun b o hc e=>u.there b o e hc) u.tups u.frzs u.tbls (fun m' hm=>by
    obtain ⟨o',es',ep',ho',r'⟩:=hm
    rw[ho]at ho'; cases ho'
    exact ⟨_,es',ep',hL,r'⟩) hok hg
theorem Inv.turned {t' : Nat} {it : Addr} (I : Inv X pins σ H s) (k : ∀ b o,b ≠ it -> s.heap.get? b = some o -> h'.get? b = some o) (hn : H it = none) (hL : it ≠ X.env.locals)
    (h1:it∈X.ex∨X.s₀.heap.objs.size<=it) (h2:∀x c,X.env.cells.lookup x=some c->c≠it) (h3:∀p∈X.pn++pins,p.1≠it):Inv X pins σ H { s with heap:=h',toks:=t' }:=by
  have nit:∀b u,H b=some u->b≠it:=fun b u e z=>by rw[z,hn]at e; cases e
  refine I.step (g':=s.gens) (d':=s.drawn) (ch:=[it]) (fun b hb=>?_) (fun b o _ _ hc e _=>k b o (fun z=>hc (by simp[z])) e) (fun b o _ _ hc e _=>⟨o.slots,k b o (fun z=>hc (by simp[z])) e⟩) (fun _ _ _ _ n=>n)
    (fun b o hc e=>⟨o,k b o (fun z=>hc (by simp[z])) e⟩) (fun _ _ e=>e) (fun _ _ _ e=>e) (fun b ps e=>⟨#[],by rw[e]; simp⟩) (fun m hm=>?_) (fun b u e=>?_) I.bare
  · have e:b=it:=by simpa using hb
    subst e
    exact ⟨h1,hL,h2,h3⟩
  · obtain ⟨o,es,ep,ho,r⟩:=hm
    exact ⟨o,es,ep,k _ o (Ne.symm hL) ho,r⟩
  · refine (I.hok b u e).stay (fun c v hc q=>k c v ?_ q) (fun _ q=>q) fun _ _ q=>q
    rcases hc with z|z
    · rw[z]; exact nit b u e
    · exact nit c _ z
theorem Inv.tok (I:Inv X pins σ H s) (t:Nat):Inv X pins σ H { s with toks:=t }:=I.un (h':=s.heap) (t':=t) Un.refl I.hok
theorem Inv.kept {t':Nat} (I:Inv X pins σ H s) (k:∀b u,s.heap.get? b=some u->h'.get? b=some u):Inv X pins σ H { s with heap:=h',toks:=t' }:=I.un (Un.kept k) (I.hok.kept k)
theorem Inv.laid {a : Addr} {o : HO} {t' : Nat} (I : Inv X pins σ H s) (k : ∀ b u,s.heap.get? b = some u -> h'.get? b = some u) (hp : s.heap.objs.size <= a) (new : ObjOk X.prog X.w (upd H a o) h' a o) :
    Inv X pins σ (upd H a o) { s with heap:=h',toks:=t' }:=I.un (Un.laid k hp (I.hok.fresh hp)) (I.hok.laid k hp new)
theorem Inv.write {x e : Addr} {o : HO} {t' : Nat} (I : Inv X pins σ H s) (mu : Mut (H x)) (he : e = x ∨ H e = some (.own x)) (k : ∀ b u,b ≠ e -> s.heap.get? b = some u -> h'.get? b = some u) (heo : ∃ u,h'.get? e = some u)
    (new:ObjOk X.prog X.w (upd H x o) h' x o):Inv X pins σ (upd H x o) { s with heap:=h',toks:=t' }:=I.un (Un.write mu he k heo) (I.hok.write mu he k heo new)
theorem Inv.pins_of {pins':List (Addr × Obj)} (I:Inv X pins σ H s) (h:∀p∈pins',s.heap.get? p.1=some p.2∧H p.1=none∧p.1≠X.env.locals∧p.1 ∉ X.fs∧∀v,p.2.data≠.cell v):Inv X pins' σ H s :=
 ⟨I.ok,I.os,I.bare,I.base,I.loc,I.cell,I.free,I.freeC,fun p hp=>(List.mem_append.mp hp).elim (fun z=>I.pin p (List.mem_append_left _ z)) (h p),I.hok,I.len⟩
theorem QN {N:List Str} (hN:N.Nodup) {i j:Nat} {x:Str} (a:N[i]?=some x) (b:N[j]?=some x):i=j:=by
 obtain ⟨h1,e1⟩:=List.getElem?_eq_some_iff.mp a
 obtain ⟨h2,e2⟩:=List.getElem?_eq_some_iff.mp b
 exact (List.getElem_inj hN).mp (e1.trans e2.symm)
theorem Re {M : Model} {A : Around} {E : Value -> Shared -> Prop} {i : Nat} {x : Str} {v : V} {u : Value} {Q : Unit -> Shared -> Prop} (I : Inv X pins σ H s) (hN : X.N.Nodup) (hi : X.N[i]? = some x) (hx : Loc X.env.scope x) (r : RelV v u)
    (h:∀s',Inv X pins (σ.set i (some v)) H s'->(∃a,Heap.SameBut a s.heap s'.heap∧(a=X.env.locals∨X.env.cells.lookup x=some a))->Q () s') (hf:X.fn x=true∨X.env.scope.names.lookup x=some .local:=by first|exact .inl rfl|exact .inr rfl|assumption):wpAny M A (storeName X.env x u) Q E s:=by
  obtain ⟨m,hn,hl⟩:=id I.loc
  have hcls:(X.env.scope.kind == .class || (X.env.scope.kind == .module&&X.env.locals != X.env.globals))=false:=by rw[I.ok.kind]; rfl
  have hiσ:i < σ.length:=by rw[I.len]; exact (List.getElem?_eq_some_iff.mp hi).1
  have cne:=I.cne
  have tracked:∀{a:Addr} {h':Heap},(∃o,s.heap.get? a=some o∧H a=none)->Heap.SameBut a s.heap h'->HOk X.prog X.w H h':=fun {a h'} ha hs b ob e=>by
    obtain ⟨_,_,hfree⟩:=ha
    refine (I.hok b ob e).stay (fun c w' hc q=>(hs.2 c ?_).trans q) (fun _ q=>q) fun _ _ q=>q
    rintro rfl
    rcases hc with rfl|hc
    · rw[hfree]at e; cases e
    · rw[hfree]at hc; cases hc
  rcases hx with hk|hk
  · refine wpAny_storeName_local hk hn (fun h' hn' hs=>?_) hcls
    obtain ⟨oL,_,_,hoL,_⟩:=id hn
    refine h _ ⟨I.ok,I.os,I.bare,⟨fun b o e n hb hx=>?_,fun b o e n hb hx=>?_,I.base.free,fun b o e hx=>?_,I.base.tups,I.base.frzs,I.base.tbls⟩,⟨_,hn',fun j y v' e1 e2 e3=>?_⟩,fun y c e=>?_,I.free,I.freeC,fun p hp=>?_,tracked ⟨oL,hoL,I.free⟩ hs,by simpa using I.len⟩ ⟨_,hs,.inl rfl⟩
    · exact (hs.2 b (Nat.ne_of_lt (Nat.lt_of_lt_of_le (Heap.lt_size e) I.ok.above))).trans (I.base.keep b o e n hb hx)
    · obtain ⟨sl,e1⟩:=I.base.slot b o e n hb hx
      exact ⟨sl,(hs.2 b (Nat.ne_of_lt (Nat.lt_of_lt_of_le (Heap.lt_size e) I.ok.above))).trans e1⟩
    · obtain ⟨o',e1⟩:=I.base.there b o e hx
      exact ⟨o',(hs.2 b (Nat.ne_of_lt (Nat.lt_of_lt_of_le (Heap.lt_size e) I.ok.above))).trans e1⟩
    · by_cases hj:j=i
      · subst hj
        rw[hi]at e1; cases e1
        rw[List.getElem?_set_self hiσ]at e2
        cases e2
        exact ⟨u,r,.inl ⟨hk,by simp⟩⟩
      · rw[List.getElem?_set_ne (Ne.symm hj)]at e2
        obtain ⟨u',r',q⟩:=hl j y v' e1 e2 e3
        refine ⟨u',r',?_⟩
        rcases q with ⟨k,e⟩|⟨k,c,e,z⟩
        · refine .inl ⟨k,?_⟩
          have:y≠x:=fun e=>hj (QN hN e1 (e ▸ hi))
          simp[this,e]
        · exact .inr ⟨k,c,e,z.sameBut hs (cne y c e)⟩
    · obtain ⟨w',z⟩:=I.cell y c e
      exact ⟨w',z.sameBut hs (cne y c e)⟩
    · obtain ⟨e,n,ne,nf,d⟩:=I.pin p hp
      exact ⟨(hs.2 p.1 ne).trans e,n,ne,nf,d⟩
  · have hfn : X.fn x = true:=by
      rcases hf with z|z
      · exact z
      · rw[z]at hk; cases hk
    obtain ⟨c,hc⟩:=I.ok.has x (.inl hk)
    obtain ⟨w',z⟩:=I.cell x c hc
    refine wpAny_storeName_cell I.ok.kind hk hc z (fun h' hc' hs=>?_)
    obtain ⟨oc,hoc,hocd⟩:=id z
    refine h { s with heap:=h' } ⟨I.ok,I.os,I.bare,⟨fun b o e n hb hx=>?_,fun b o e n hb hx=>?_,I.base.free,fun b o e hx=>?_,I.base.tups,I.base.frzs,I.base.tbls⟩,⟨m,hn.sameBut hs (Ne.symm (cne x c hc)),fun j y v' e1 e2 e3=>?_⟩,fun y c' e=>?_,I.free,I.freeC,fun p hp=>?_,tracked ⟨oc,hoc,I.freeC x c hc⟩ hs,by simpa using I.len⟩ ⟨c,hs,.inr hc⟩
    · exact (hs.2 b (Nat.ne_of_lt (Nat.lt_of_lt_of_le (Heap.lt_size e) (I.ok.cab x c hfn hc)))).trans (I.base.keep b o e n hb hx)
    · obtain ⟨sl,e1⟩:=I.base.slot b o e n hb hx
      exact ⟨sl,(hs.2 b (Nat.ne_of_lt (Nat.lt_of_lt_of_le (Heap.lt_size e) (I.ok.cab x c hfn hc)))).trans e1⟩
    · obtain ⟨o',e1⟩:=I.base.there b o e hx
      exact ⟨o',(hs.2 b (Nat.ne_of_lt (Nat.lt_of_lt_of_le (Heap.lt_size e) (I.ok.cab x c hfn hc)))).trans e1⟩
    · by_cases hj:j=i
      · subst hj
        rw[hi]at e1; cases e1
        rw[List.getElem?_set_self hiσ]at e2
        cases e2
        exact ⟨u,r,.inr ⟨.inl hk,c,hc,hc'⟩⟩
      · rw[List.getElem?_set_ne (Ne.symm hj)]at e2
        obtain ⟨u',r',q⟩:=hl j y v' e1 e2 e3
        refine ⟨u',r',?_⟩
        rcases q with q|⟨k,c',e,z'⟩
        · exact .inl q
        · refine .inr ⟨k,c',e,z'.sameBut hs ?_⟩
          rintro rfl
          exact hj (QN hN e1 (I.ok.inj _ _ _ e hc ▸ hi))
    · by_cases hcc:c'=c
      · subst hcc; exact ⟨_,hc'⟩
      · obtain ⟨w2,z2⟩:=I.cell y c' e
        exact ⟨w2,z2.sameBut hs hcc⟩
    · obtain ⟨e,n,ne,nf,d⟩:=I.pin p hp
      refine ⟨(hs.2 p.1 ?_).trans e,n,ne,nf,d⟩
      intro q
      rw[q,hoc]at e
      have q':oc=p.2:=Option.some.inj e
      exact d w' (by rw[← q']; exact hocd)
theorem TV {M : Model} {A : Around} {E : Value -> Shared -> Prop} {i : Nat} {x : Str} {v : V} {u : Value} {Q : Unit -> Shared -> Prop} (I : Inv X pins σ H s) (hN : X.N.Nodup) (hi : X.N[i]? = some x) (hx : Loc X.env.scope x) (r : RelV v u)
    (h:∀s',Inv X pins (σ.set i (some v)) H s'->Q () s') (hf:X.fn x=true∨X.env.scope.names.lookup x=some .local:=by first|exact .inl rfl|exact .inr rfl|assumption):wpAny M A (storeName X.env x u) Q E s :=
  Re I hN hi hx r (fun s' I' _=>h s' I') hf
theorem Inv.call' {s' : Shared} {ch : List Addr} (I : Inv X pins σ H s) (ho : s'.os = s.os) (u : Un (frs X.stack) ch H H' s.heap s'.heap) (hok : HOk X.prog X.w H' s'.heap) (hg : AllBare s'.gens)
    (hch:∀b∈ch,(b∈X.ex∨X.s₀.heap.objs.size<=b)∧b≠X.env.locals∧(∀x c,X.env.cells.lookup x=some c->c≠b)∧∀p∈X.pn++pins,p.1≠b):Inv X pins σ H' s':=by
  obtain ⟨h',g',d',t',o'⟩:=s'
  have e:o'=s.os:=ho
  subst e
  exact I.call (g':=g') (t':=t') (d':=d') u hok hg hch
end
abbrev XK:=Value->Option Addr->Hp->Prop
abbrev St:=List (Option V)
abbrev VK:=V->Hp->Prop
abbrev TE:=St->Hp->VK->Prop
abbrev TT:=St->Hp->(Bool->Hp->Prop)->Prop
abbrev TA:=St->Hp->(List V->Hp->Prop)->Prop
structure Ends where
 nx:St->Hp->Prop
 rt:VK
 bk:St->Hp->Prop:=fun _ _=>False
 ct:St->Hp->Prop:=fun _ _=>False
abbrev TS:=Ends->St->Hp->Prop
def EP (X:Cx) (pins:List (Addr × Obj)) (σ:St) (Q:VK) (u:Value) (s':Shared):Prop:=∃v H',Inv X pins σ H' s'∧RelV v u∧Q v H'
def TP (X:Cx) (pins:List (Addr × Obj)) (σ:St) (Q:Bool->Hp->Prop) (b:Bool) (s':Shared):Prop:=∃H',Inv X pins σ H' s'∧Q b H'
def AP (X:Cx) (pins:List (Addr × Obj)) (σ:St) (Q:List V->Hp->Prop) (us:List Value) (s':Shared):Prop:=∃vs H',Inv X pins σ H' s'∧Vals vs us∧Q vs H'
def SP (X:Cx) (pins:List (Addr × Obj)) (D:Ends) (f:Flow) (s':Shared):Prop :=
 match f with
 |.next=>∃σ' H',Inv X pins σ' H' s'∧D.nx σ' H'
 |.brk=>∃σ' H',Inv X pins σ' H' s'∧D.bk σ' H'
 |.cont=>∃σ' H',Inv X pins σ' H' s'∧D.ct σ' H'
 |.ret u=>∃v σ' H',Inv X pins σ' H' s'∧RelV v u∧D.rt v H'
def PE (X:Cx) (e:Expr) (t:TE):Prop :=
 ∀(pins:List (Addr × Obj)) (s:Shared) (σ:St) (H:Hp) (Q:VK),Inv X pins σ H s->t σ H Q->wpAny (model X.prog X.w) X.A (eval e X.env) (EP X pins σ Q) X.xe s
def PT (X:Cx) (e:Expr) (t:TT):Prop :=
 ∀(pins:List (Addr × Obj)) (s:Shared) (σ:St) (H:Hp) (Q:Bool->Hp->Prop),Inv X pins σ H s->t σ H Q->wpAny (model X.prog X.w) X.A (isTrue e X.env (eval e X.env)) (TP X pins σ Q) X.xe s
def PW (X:Cx) (e:Expr) (t:TT):Prop :=
 ∀(whole:Sem Value) (pins:List (Addr × Obj)) (s:Shared) (σ:St) (H:Hp) (Q:Bool->Hp->Prop),Inv X pins σ H s->t σ H Q->wpAny (model X.prog X.w) X.A (isTrue e X.env whole) (TP X pins σ Q) X.xe s
theorem PW.pt {X:Cx} {e:Expr} {t:TT} (h:PW X e t):PT X e t:=h _
def PA (X:Cx) (es:List Expr) (t:TA):Prop :=
 ∀(pos:Pos) (pins:List (Addr × Obj)) (s:Shared) (σ:St) (H:Hp) (Q:List V->Hp->Prop),Inv X pins σ H s->t σ H Q->wpAny (model X.prog X.w) X.A (spliced (backTo pos (starEach es X.env))) (AP X pins σ Q) X.xe s
def PS (X:Cx) (st:Stmt) (t:TS):Prop :=
 ∀(pins:List (Addr × Obj)) (s:Shared) (σ:St) (H:Hp) (D:Ends),Inv X pins σ H s->t D σ H->wpAny (model X.prog X.w) X.A (exec st X.env) (SP X pins D) X.xe s
def PSs (X:Cx) (st:List Stmt) (t:TS):Prop :=
 ∀(pins:List (Addr × Obj)) (s:Shared) (σ:St) (H:Hp) (D:Ends),Inv X pins σ H s->t D σ H->wpAny (model X.prog X.w) X.A (execs st X.env) (SP X pins D) X.xe s
theorem thn {α:Type} {t:Sem α} {Q Q':α->Shared->Prop} {M:Model} {A:Around} {E:Value->Shared->Prop} {s:Shared} (h:wpAny M A t Q E s) (hQ:∀a s,Q a s->Q' a s):wpAny M A t Q' E s:=wpAny_mono h hQ fun _ _ x=>x
end L2
namespace L2
open PySem PySem.Spec PyProof.Rows
section
variable {X:Cx}
def tVar (i:Nat):TE:=fun σ H Q=>∃v,σ[i]?=some (some v)∧Q v H
def tC (v:V):TE:=fun _ H Q=>Q v H
theorem pe_var {i:Nat} {x:Str} {pos:Pos} (hN:X.N[i]?=some x) (hv:Vis X.env.scope x) (hd:(x == ("__debug__":Str))=false:=by decide) (hcd:(x == ("__classdict__":Str))=false:=by decide):PE X (.Name x pos) (tVar i):=by
 intro pins s σ H Q I h
 obtain ⟨v,e,h⟩:=h
 obtain ⟨m,hn,hl⟩:=I.loc
 obtain ⟨u,r,l⟩:=hl i x v hN e hv
 have fin:EP X pins σ Q u s:=⟨v,H,I,r,h⟩
 rcases l with ⟨hk,hm⟩|⟨hk,c,hc,hcell⟩
 ·exact wpAny_Name (wpAny_loadName_local I.ok.kind hk hn hm fin) hd
 ·rcases hk with hk|hk
  ·exact wpAny_Name (wpAny_loadName_cell I.ok.kind hk hc hcell fin) hd
  ·exact wpAny_Name (wpAny_loadName_free I.ok.kind hk hc hcell fin hcd) hd
theorem pe_int {i j pos}:PE X (.Constant (.int i) j pos) (tC (.int i)):=fun _ _ _ H _ I h=>wpAny_Constant_int ⟨.int i,H,I.tok _,⟨_,rfl⟩,h⟩
theorem pe_bl {b j pos}:PE X (.Constant (.bool b) j pos) (tC (.bl b)):=fun _ _ _ H _ I h=>Constant_bool ⟨.bl b,H,I,rfl,h⟩
theorem pe_non {j pos}:PE X (.Constant .none j pos) (tC .non):=fun _ _ _ H _ I h=>Constant_none ⟨.non,H,I,rfl,h⟩
theorem pe_str {x j pos}:PE X (.Constant (.str x) j pos) (tC (.str x)):=fun _ _ _ H _ I h=>Calls.Constant_str ⟨.str x,H,I.tok _,⟨_,rfl⟩,h⟩
def Gl (X:Cx) (x:Str):Prop:=X.env.kindOf x=some .globalImplicit
theorem Te {E : Value -> Shared -> Prop} {pins : List (Addr × Obj)} {s : Shared} {σ : St} {H : Hp} {x : Str} {u : Value} {pos : Pos} {Q : Value -> Shared -> Prop} (I : Inv X pins σ H s) (hg : Gl X x) (hm : X.mg x = some u) (h : Q u s)
    (hd:(x == ("__debug__":Str))=false:=by decide):wpAny (model X.prog X.w) X.A (eval (.Name x pos) X.env) Q E s :=
  Calls.Name_function_global I.ok.kind hg (Calls.loadGlobal_global (by rw[I.ok.glob]; exact I.mod.glob.keeps I.bk) hm h) hd
theorem ld_blt {E : Value -> Shared -> Prop} {pins : List (Addr × Obj)} {s : Shared} {σ : St} {H : Hp} {x : Str} {u : Value} {pos : Pos} {Q : Value -> Shared -> Prop} (I : Inv X pins σ H s) (hg : Gl X x) (hm : X.mg x = none) (hv : bootBuiltins x = some u) (h : Q u s)
    (hn:x≠"__name__":=by decide) (hd:(x == ("__debug__":Str))=false:=by decide):wpAny (model X.prog X.w) X.A (eval (.Name x pos) X.env) Q E s:=by
  obtain ⟨mb,h1,h2⟩:=I.mod.blt
  exact Calls.Name_function_global I.ok.kind hg (Calls.loadGlobal_builtin (by rw[I.ok.glob]; exact I.mod.glob.keeps I.bk) hm (by rw[I.ok.blt]; exact h1.keeps I.bk) ((h2 x hn).trans hv) h) hd
theorem pe_glob {x:Str} {v:V} {u:Value} {pos:Pos} (hg:Gl X x) (hm:X.mg x=some u) (r:RelV v u) (hd:(x == ("__debug__":Str))=false:=by decide):PE X (.Name x pos) (tC v) :=
 fun _ _ _ H _ I h=>Te I hg hm ⟨v,H,I,r,h⟩ hd
theorem pe_bltn {x:Str} {v:V} {u:Value} {pos:Pos} (hg:Gl X x) (hm:X.mg x=none) (hv:bootBuiltins x=some u) (r:RelV v u) (hn:x≠"__name__":=by decide) (hd:(x == ("__debug__":Str))=false:=by decide):PE X (.Name x pos) (tC v) :=
 fun _ _ _ H _ I h=>ld_blt I hg hm hv ⟨v,H,I,r,h⟩ hn hd
variable {a b:Expr} {ta tb:TE} {pos:Pos}
def PC (X:Cx) (op:CmpOp) (a b:Expr) (t:TE):Prop :=
 ∀(pins:List (Addr × Obj)) (s:Shared) (σ:St) (H:Hp) (Q:VK),Inv X pins σ H s->t σ H Q ->
  wpAny (model X.prog X.w) X.A (eval a X.env) (fun v s₁=>wpAny (model X.prog X.w) X.A (eval b X.env) (fun u s₂=>wpAny (model X.prog X.w) X.A (compareOp op v u) (EP X pins σ Q) X.xe s₂) X.xe s₁) X.xe s
theorem nobehind (b:Expr) {op:CmpOp} (h:op≠.In) (h2:op≠.NotIn):behindInMarks op b=false:=by
 have e1:(op == CmpOp.In)=false:=by cases op <;> first|rfl|exact absurd rfl h
 have e2:(op == CmpOp.NotIn)=false:=by cases op <;> first|rfl|exact absurd rfl h2
 cases b <;> simp[behindInMarks,e1,e2]
def tIsN (ta:TE):TE:=fun σ H Q=>ta σ H fun x H1=>Q (.bl (decide (x=.non))) H1
def tNotN (ta:TE):TE:=fun σ H Q=>ta σ H fun x H1=>Q (.bl (!decide (x=.non))) H1
theorem RelV.none_iff {x:V} {v:Value} (r:RelV x v):(v == Value.none)=decide (x=.non):=by
 cases x with
 |non=>cases r; rfl
 |bl _=>cases r; rfl
 |int _=>obtain ⟨t,rfl⟩:=r; rfl
 |str _=>obtain ⟨t,rfl⟩:=r; rfl
 |byt _=>obtain ⟨t,rfl⟩:=r; rfl
 |flt _=>obtain ⟨t,rfl⟩:=r; rfl
 |ref _=>cases r; rfl
 |ty _=>cases r; rfl
theorem pc_isN {j pos'} (ha:PE X a ta):PC X .Is a (.Constant .none j pos') (tIsN ta):=by
 intro pins s σ H Q I h
 refine thn (ha pins s σ H _ I h) fun v s1 ⟨x,H1,I1,r1,q1⟩=>?_
 exact Constant_none (is_none_gen ⟨.bl _,H1,I1,by rw[r1.none_iff]; rfl,q1⟩)
theorem pc_notN {j pos'} (ha:PE X a ta):PC X .IsNot a (.Constant .none j pos') (tNotN ta):=by
 intro pins s σ H Q I h
 refine thn (ha pins s σ H _ I h) fun v s1 ⟨x,H1,I1,r1,q1⟩=>?_
 exact Constant_none (isnot_none_gen ⟨.bl _,H1,I1,by rw[r1.none_iff]; rfl,q1⟩)
def tB (t:TE):TT:=fun σ H Q=>t σ H fun x H1=>∃c,x=.bl c∧Q c H1
theorem pe_cmp {op:CmpOp} {t:TE} (h:PC X op a b t) (h1:behindInMarks op b=false:=by first|exact nobehind _ (by decide) (by decide)|rfl):PE X (.Compare a [op] [b] pos) t:=fun pins s σ H Q I hw=>wpAny_Compare1 (h pins s σ H Q I hw) h1
theorem pt_cmp {op:CmpOp} {t:TE} (h:PC X op a b t) (h1:behindInMarks op b=false:=by first|exact nobehind _ (by decide) (by decide)|rfl):PT X (.Compare a [op] [b] pos) (tB t):=by
 intro pins s σ H Q I hw
 refine wpAny_isTrue_Compare1 (thn (h pins s σ H _ I hw) fun v s1 h1=>thn h1 fun u s2 h2=>thn h2 fun c s3 ⟨x,H1,I1,r1,q1⟩=>?_) h1
 obtain ⟨d,rfl,q⟩:=q1
 cases r1
 exact wpAny_truthy_bool ⟨H1,I1,q⟩
variable {tA tB':TT} {rest:List Expr}
def tAnd (t u:TT):TT:=fun σ H Q=>t σ H fun c H1=>if c=true then u σ H1 Q else Q false H1
def tOr (t u:TT):TT:=fun σ H Q=>t σ H fun c H1=>if c=true then Q true H1 else u σ H1 Q
def tNot (t:TT):TT:=fun σ H Q=>t σ H fun c H1=>Q (!c) H1
theorem pw_and1 (ha:PT X a tA):PW X (.BoolOp .And [a] pos) tA:=by
 intro wh pins s σ H Q I h
 refine isTrue_and (thn (ha pins s σ H Q I h) fun c s1 e=>?_)
 cases c with
 |true=>exact isTrue_and_nil e
 |false=>exact e
theorem pw_or1 (ha:PT X a tA):PW X (.BoolOp .Or [a] pos) tA:=by
 intro wh pins s σ H Q I h
 refine isTrue_or (thn (ha pins s σ H Q I h) fun c s1 e=>?_)
 cases c with
 |false=>exact isTrue_or_nil e
 |true=>exact e
theorem pw_and (ha:PT X a tA) (hb:PW X (.BoolOp .And (b::rest) pos) tB'):PW X (.BoolOp .And (a::b::rest) pos) (tAnd tA tB'):=by
 intro wh pins s σ H Q I h
 refine isTrue_and (thn (ha pins s σ H _ I h) fun c s1 ⟨H1,I1,q1⟩=>?_)
 cases c with
 |true=>exact hb wh pins s1 σ H1 Q I1 q1
 |false=>exact ⟨H1,I1,q1⟩
theorem pw_or (ha:PT X a tA) (hb:PW X (.BoolOp .Or (b::rest) pos) tB'):PW X (.BoolOp .Or (a::b::rest) pos) (tOr tA tB'):=by
 intro wh pins s σ H Q I h
 refine isTrue_or (thn (ha pins s σ H _ I h) fun c s1 ⟨H1,I1,q1⟩=>?_)
 cases c with
 |true=>exact ⟨H1,I1,q1⟩
 |false=>exact hb wh pins s1 σ H1 Q I1 q1
theorem pt_not (ha:PT X a tA):PT X (.UnaryOp .Not a pos) (tNot tA):=by
 intro pins s σ H Q I h
 exact isTrue_not (ha pins s σ H (fun c H1=>Q (!c) H1) I h)
def tAndV (ta tb:TE):TE:=fun σ H Q=>ta σ H fun x H1=>∃c,x=.bl c∧if c=true then tb σ H1 Q else Q (.bl false) H1
def tNotV (ta:TE):TE:=fun σ H Q=>ta σ H fun x H1=>∃c,x=.bl c∧Q (.bl (!c)) H1
theorem pe_one {op} {t:TE} (h:PE X a t):PE X (.BoolOp op [a] pos) t:=fun pins s σ H Q I hw=>BoolOp_one (h pins s σ H Q I hw)
theorem pe_and (ha:PE X a ta) (hb:PE X (.BoolOp .And (b::rest) pos) tb):PE X (.BoolOp .And (a::b::rest) pos) (tAndV ta tb):=by
 intro pins s σ H Q I h
 refine BoolOp_and (thn (ha pins s σ H _ I h) fun v s1 ⟨x,H1,I1,r1,q1⟩=>?_)
 obtain ⟨c,rfl,q1⟩:=q1
 cases r1
 refine wpAny_truthy_bool ?_
 cases c with
 |true=>exact hb pins s1 σ H1 Q I1 q1
 |false=>exact ⟨.bl false,H1,I1,rfl,q1⟩
theorem pe_not (ha:PE X a ta):PE X (.UnaryOp .Not a pos) (tNotV ta):=by
 intro pins s σ H Q I h
 refine UnaryOp_ (thn (ha pins s σ H _ I h) fun v s1 ⟨x,H1,I1,r1,q1⟩=>?_)
 obtain ⟨c,rfl,q1⟩:=q1
 cases r1
 exact not_of (wpAny_truthy_bool ⟨.bl (!c),H1,I1,rfl,q1⟩)
def tIf (t:TT) (ta tb:TE):TE:=fun σ H Q=>t σ H fun c H1=>if c=true then ta σ H1 Q else tb σ H1 Q
theorem pe_ifExp {c:Expr} (hc:PT X c tA) (ha:PE X a ta) (hb:PE X b tb):PE X (.IfExp c a b pos) (tIf tA ta tb):=by
 intro pins s σ H Q I h
 refine wpAny_IfExp (thn (hc pins s σ H _ I h) fun d s1 ⟨H1,I1,q1⟩=>?_)
 cases d with
 |true=>exact ha pins s1 σ H1 Q I1 q1
 |false=>exact hb pins s1 σ H1 Q I1 q1
end
end L2
namespace L2
open PySem PySem.Spec PyProof.Rows
def SqL (K:PySem.W.Frag) (H:Hp) (a:Addr) (xs:List V):Prop :=
 Rd H a (.lst xs) ∨
  ∃(o:Obj) (its:Array Value) (n:Nat),K.lookup a=some o∧o.cls=.type "list"∧o.dict=none∧o.data=.seq its n∧its.size<=sizeLine∧Vals xs its.toList
def SqT (K:PySem.W.Frag) (H:Hp) (a:Addr) (xs:List V):Prop :=
 Rd H a (.tup xs) ∨
  ∃(o:Obj) (its:Array Value) (n:Nat),K.lookup a=some o∧o.cls=.type "tuple"∧o.data=.seq its n∧its.size<=sizeLine∧Vals xs its.toList
def absV:Value->Option V
 |.none=>some .non
 |.bool b=>some (.bl b)
 |.int i _=>some (.int i)
 |.str x _=>some (.str x)
 |.bytes b _=>some (.byt b)
 |.float b _=>some (.flt b)
 |.ref a=>some (.ref a)
 |.type n=>some (.ty n)
 |_=>none
theorem RelV.abs {x:V} {u:Value} (r:RelV x u):absV u=some x:=by
 cases x with
 |non=>cases r; rfl
 |bl _=>cases r; rfl
 |int _=>obtain ⟨t,rfl⟩:=r; rfl
 |str _=>obtain ⟨t,rfl⟩:=r; rfl
 |byt _=>obtain ⟨t,rfl⟩:=r; rfl
 |flt _=>obtain ⟨t,rfl⟩:=r; rfl
 |ref _=>cases r; rfl
 |ty _=>cases r; rfl
theorem RelV.inj {x y:V} {u:Value} (r:RelV x u) (q:RelV y u):x=y:=Option.some.inj (r.abs.symm.trans q.abs)
theorem Vals.inj:∀{xs ys:List V} {us:List Value},Vals xs us->Vals ys us->xs=ys
 |_,_,_,.nil,.nil=>rfl
 |_,_,_,.cons r t,.cons r' t'=>by rw[r.inj r',Vals.inj t t']
section
variable {X:Cx} {pins:List (Addr × Obj)} {σ:St} {H:Hp} {s:Shared} {a:Addr} {xs ys:List V}
theorem SqL.of {K:PySem.W.Frag} (h:H a=some (.lst xs)):SqL K H a xs:=.inl (.inl h)
theorem SqT.of {K:PySem.W.Frag} (h:H a=some (.tup xs)):SqT K H a xs:=.inl (.inl h)
theorem Inv.list (I:Inv X pins σ H s) (h:SqL X.K H a xs):∃its:List Value,Vals xs its∧PlainL s.heap a its.toArray∧xs.length<=sizeLine:=by
 rcases h with h|⟨o,its,n,hk,hc,hd,hs,hz,r⟩
 ·obtain ⟨z,its,n,r,e⟩:=h.ok I.hok
  exact ⟨its,r,⟨_,n,e,rfl,rfl,rfl⟩,z⟩
 ·refine ⟨its.toList,r,⟨o,n,I.kIn a o hk,hc,hd,by simpa using hs⟩,?_⟩
  have e:=r.length
  simp only[Array.length_toList]at e
  omega
theorem Inv.tuple (I:Inv X pins σ H s) (h:SqT X.K H a xs):∃its:List Value,Vals xs its∧IsTup s.heap a its.toArray∧xs.length<=sizeLine:=by
 rcases h with h|⟨o,its,n,hk,hc,hs,hz,r⟩
 ·obtain ⟨z,its,r,p⟩:=h.ok I.hok
  exact ⟨its,r,p,z⟩
 ·refine ⟨its.toList,r,⟨o,I.kIn a o hk,hc,n,by simpa using hs⟩,?_⟩
  have e:=r.length
  simp only[Array.length_toList]at e
  omega
theorem Inv.list_inj (I:Inv X pins σ H s) (h:SqL X.K H a xs) (h':SqL X.K H a ys):xs=ys:=by
 obtain ⟨its,r,⟨o,n,e,_,_,d⟩,_⟩:=I.list h
 obtain ⟨its',r',⟨o',n',e',_,_,d'⟩,_⟩:=I.list h'
 rw[e]at e'; cases e'
 rw[d]at d'
 injection d' with d1 _
 have:its=its':=by simpa using congrArg Array.toList d1
 subst this
 exact r.inj r'
end
abbrev Cx.wish (X:Cx) (E:Value->Shared->Prop):Cx:={ X with xe:=E }
abbrev Cx.nox (X:Cx):Cx:=X.wish fun _ _=>False
theorem Cx.Ok.wish {X:Cx} (ok:X.Ok) (E:Value->Shared->Prop):(X.wish E).Ok :=
 ⟨ok.mod,ok.kind,ok.glob,ok.blt,ok.above,ok.inj,ok.has,ok.cab,ok.hd,ok.frames,ok.stk,ok.exf,ok.bs,ok.bsz,ok.noex,ok.exfs,ok.funs,ok.frf⟩
theorem Cx.Ok.unwish {X:Cx} {E:Value->Shared->Prop} (ok:(X.wish E).Ok):X.Ok :=
 ⟨ok.mod,ok.kind,ok.glob,ok.blt,ok.above,ok.inj,ok.has,ok.cab,ok.hd,ok.frames,ok.stk,ok.exf,ok.bs,ok.bsz,ok.noex,ok.exfs,ok.funs,ok.frf⟩
section
variable {X:Cx} {pins:List (Addr × Obj)} {σ:St} {H:Hp} {s:Shared} {E:Value->Shared->Prop}
theorem Inv.wish (I:Inv X pins σ H s) (E:Value->Shared->Prop):Inv (X.wish E) pins σ H s:=⟨I.ok.wish E,I.os,I.bare,I.base,I.loc,I.cell,I.free,I.freeC,I.pin,I.hok,I.len⟩
theorem Inv.unwish (I:Inv (X.wish E) pins σ H s):Inv X pins σ H s:=⟨I.ok.unwish,I.os,I.bare,I.base,I.loc,I.cell,I.free,I.freeC,I.pin,I.hok,I.len⟩
theorem SP.unwish {D:Ends} {f:Flow} {s':Shared} (h:SP (X.wish E) pins D f s'):SP X pins D f s':=by
 cases f with
 |next=>obtain ⟨σ',H',I,q⟩:=h; exact ⟨σ',H',I.unwish,q⟩
 |brk=>obtain ⟨σ',H',I,q⟩:=h; exact ⟨σ',H',I.unwish,q⟩
 |cont=>obtain ⟨σ',H',I,q⟩:=h; exact ⟨σ',H',I.unwish,q⟩
 |ret u=>obtain ⟨v,σ',H',I,r,q⟩:=h; exact ⟨v,σ',H',I.unwish,r,q⟩
theorem PE.nox {e:Expr} {t:TE} (h:PE X.nox e t):PE X e t:=fun pins s σ H Q I hw =>
 wpAny_mono (h pins s σ H Q (I.wish _) hw) (fun _ _ ⟨v,H',I',r,q⟩=>⟨v,H',I'.unwish,r,q⟩) fun _ _ z=>False.elim z
theorem PT.nox {e:Expr} {t:TT} (h:PT X.nox e t):PT X e t:=fun pins s σ H Q I hw =>
 wpAny_mono (h pins s σ H Q (I.wish _) hw) (fun _ _ ⟨H',I',q⟩=>⟨H',I'.unwish,q⟩) fun _ _ z=>False.elim z
theorem PSs.nox {st:List Stmt} {t:TS} (h:PSs X.nox st t):PSs X st t:=fun pins s σ H D I hw =>
 wpAny_mono (h pins s σ H D (I.wish _) hw) (fun _ _ q=>q.unwish) fun _ _ z=>False.elim z
end
section
variable {X:Cx} {st:Stmt} {rest:List Stmt} {t u:TS} {e:Expr} {te:TE} {pos:Pos}
def tNext:TS:=fun D σ H=>D.nx σ H
def tSeq (t u:TS):TS:=fun D σ H=>t { D with nx:=u D } σ H
theorem pss_nil:PSs X [] tNext:=fun _ _ σ H _ I h=>wpAny_execs_nil ⟨σ,H,I,h⟩
theorem pss_cons (h1:PS X st t) (h2:PSs X rest u):PSs X (st::rest) (tSeq t u):=by
 intro pins s σ H D I h
 refine wpAny_execs_cons (thn (h1 pins s σ H { D with nx:=u D } I h) fun f s1 q=>?_)
 cases f with
 |next =>
  obtain ⟨σ',H',I',q⟩:=q
  exact h2 pins s1 σ' H' D I' q
 |ret v=>exact q
 |brk=>exact q
 |cont=>exact q
theorem pss_one (h1:PS X st t):PSs X [st] t:=by
 intro pins s σ H D I h
 refine wpAny_execs_cons (thn (h1 pins s σ H D I h) fun f s1 q=>?_)
 cases f with
 |next=>exact wpAny_execs_nil q
 |ret v=>exact q
 |brk=>exact q
 |cont=>exact q
theorem Inv.quiet {pins:List (Addr × Obj)} {σ:St} {H:Hp} {s:Shared} (I:Inv X pins σ H s):interactive X.env=false:=by simp[interactive,I.ok.kind]
def tDrop (te:TE):TS:=fun D σ H=>te σ H fun _ H1=>D.nx σ H1
theorem ps_expr (he:PE X e te) (hs:swapsWith e none pos.line X.env=pure false:=by rfl):PS X (.Expr e pos) (tDrop te):=by
 intro pins s σ H D I h
 exact wpAny_Expr_any (thn (he pins s σ H _ I h) fun v s1 ⟨x,H1,I1,r1,q1⟩=>⟨σ,H1,I1,q1⟩) I.quiet hs
def tRet (te:TE):TS:=fun D σ H=>te σ H D.rt
theorem ps_ret (he:PE X e te):PS X (.Return (some e) pos) (tRet te):=by
 intro pins s σ H D I h
 exact wpAny_Return_some (thn (he pins s σ H _ I h) fun v s1 ⟨x,H1,I1,r1,q1⟩=>⟨x,σ,H1,I1,r1,q1⟩)
def tIfS (c:TT) (t u:TS):TS:=fun D σ H=>c σ H fun b H1=>if b=true then t D σ H1 else u D σ H1
theorem ps_if {c:Expr} {a b:List Stmt} {tc:TT} (hc:PT X c tc) (ha:PSs X a t) (hb:PSs X b u):PS X (.If c a b pos) (tIfS tc t u):=by
 intro pins s σ H D I h
 refine wpAny_If (thn (hc pins s σ H _ I h) fun d s1 ⟨H1,I1,q1⟩=>?_)
 cases d with
 |true=>exact ha pins s1 σ H1 D I1 q1
 |false=>exact hb pins s1 σ H1 D I1 q1
end
abbrev TG:=V->St->Hp->(St->Hp->Prop)->Prop
abbrev TGs:=List V->St->Hp->(St->Hp->Prop)->Prop
def PG (X:Cx) (target:Expr) (t:TG):Prop :=
 ∀(pins:List (Addr × Obj)) (s:Shared) (σ:St) (H:Hp) (v:V) (u:Value) (Q:St->Hp->Prop),Inv X pins σ H s->RelV v u->t v σ H Q ->
  wpAny (model X.prog X.w) X.A (assign target X.env u) (fun _ s'=>∃σ' H',Inv X pins σ' H' s'∧Q σ' H') X.xe s
def PGs (X:Cx) (ts:List Expr) (t:TGs):Prop :=
 ∀(pins:List (Addr × Obj)) (s:Shared) (σ:St) (H:Hp) (vs:List V) (us:List Value) (Q:St->Hp->Prop),Inv X pins σ H s->Vals vs us->t vs σ H Q ->
  wpAny (model X.prog X.w) X.A (assignInOrder ((assignEach ts X.env).map (·.2)) us) (fun _ s'=>∃σ' H',Inv X pins σ' H' s'∧Q σ' H') X.xe s
section
variable {X:Cx} {pos:Pos}
def gName (i:Nat):TG:=fun v σ H Q=>Q (σ.set i (some v)) H
theorem Xs {i:Nat} {x:Str} (hN:X.N.Nodup) (hi:X.N[i]?=some x) (hx:Loc X.env.scope x) (hf:X.fn x=true∨X.env.scope.names.lookup x=some .local:=by first|exact .inl rfl|exact .inr rfl|assumption):PG X (.Name x pos) (gName i):=by
 intro pins s σ H v u Q I r h
 exact wpAny_assign_Name (TV I hN hi hx r (fun s' I'=>⟨_,H,I',h⟩) hf)
def gNil:TGs:=fun vs σ H Q=>vs=[]∧Q σ H
def gCons (t:TG) (u:TGs):TGs:=fun vs σ H Q=>∃v r,vs=v::r∧t v σ H fun σ' H'=>u r σ' H' Q
theorem pgs_nil:PGs X [] gNil:=by
 intro pins s σ H vs us Q I r h
 obtain ⟨e,h⟩:=h
 subst e
 cases r
 exact assignInOrder_nil ⟨σ,H,I,h⟩
theorem Q8 {e : Expr} {es : List Expr} {t : TG} {u : TGs} (h1 : PG X e t) (h2 : PGs X es u)
    (hs:(assignEach (e::es) X.env).map (·.2)=assign e X.env::(assignEach es X.env).map (·.2):=by rfl):PGs X (e::es) (gCons t u):=by
  intro pins s σ H vs us Q I r h
  obtain ⟨v,vr,e1,h⟩:=h
  subst e1
  cases r with
  |cons r rr =>
    rw[hs]
    refine assignInOrder_cons (thn (h1 pins s σ H _ _ _ I r h) fun _ s1 ⟨σ1,H1,I1,q1⟩=>?_)
    exact h2 pins s1 σ1 H1 _ _ Q I1 rr q1
def gTup (K:PySem.W.Frag) (n:Nat) (t:TGs):TG:=fun v σ H Q=>∃a xs,v=.ref a∧SqT K H a xs∧xs.length=n∧t xs σ H Q
theorem pg_tup {es : List Expr} {k : Nat} {t : TGs} {n : Nat} (hc : X.calm = true) (h : PGs X es t)
    (hn:(assignEach es X.env).length=n:=by rfl) (hst:(assignEach es X.env).findIdx? (·.1)=none:=by rfl):PG X (.Tuple es k pos) (gTup X.K n t):=by
  intro pins s σ H v u Q I r hw
  obtain ⟨a,xs,e1,hq,hl,hw⟩:=hw
  subst e1
  cases r
  obtain ⟨its,rv,ht,hz⟩:=I.tuple hq
  refine assign_Tuple_tuple (I.ok.hd hc) ht (by simp[hn,← hl,rv.length]) hst fun h' hx=>?_
  have I1:Inv X pins σ H { s with heap:=h' }:=I.kept (t':=s.toks) fun b o e=>hx b o (Nat.ne_of_lt (Heap.lt_size e)) e
  exact h pins _ σ H xs _ Q I1 (by simpa using rv) hw
def tAsg (te:TE) (g:TG):TS:=fun D σ H=>te σ H fun x H1=>g x σ H1 D.nx
theorem ps_set {i : Nat} {x : Str} {e : Expr} {te : TE} {pos' : Pos} (hN : X.N.Nodup) (hi : X.N[i]? = some x) (hx : Loc X.env.scope x) (he : PE X e te) (hs : swapsWith e (some (.Name x pos')) pos.line X.env = pure false:=by rfl) (hf : X.fn x = true ∨ X.env.scope.names.lookup x = some .local:=by first | exact .inl rfl | exact .inr rfl | assumption) :
    PS X (.Assign [.Name x pos'] e pos) (tAsg te (gName i)):=by
  intro pins s σ H D I h
  refine wpAny_Assign_Name (thn (he pins s σ H _ I h) fun v s1 ⟨y,H1,I1,r1,q1⟩=>?_) hs
  exact TV I1 hN hi hx r1 (fun s2 I2=>⟨_,H1,I2,q1⟩) hf
end
section
variable {X:Cx} {pos:Pos}
def tWhile (c:TT) (tb:TS):TS:=fun D σ H=>∃W:Nat->St->Hp->Prop,(∃m,W m σ H)∧∀m σ H,W m σ H ->
 c σ H fun b H1=>if b=true then ∃N:St->Hp->Prop,(∀σ' H',N σ' H'->∃m',m' < m∧W m' σ' H')∧tb { D with nx:=N,ct:=N,bk:=D.nx } σ H1 else D.nx σ H1
theorem ps_while {c:Expr} {body:List Stmt} {tc:TT} {tb:TS} (hp:PassesOwn (model X.prog X.w) X.A X.env X.xe) (hc:PT X c tc) (hb:PSs X body tb):PS X (.While c body [] pos) (tWhile tc tb):=by
 intro pins s σ H D I h
 obtain ⟨W,⟨m0,w0⟩,turn⟩:=h
 refine wpAny_While (codeAny_whileLoop (fun n s'=>∃σ' H',Inv X pins σ' H' s'∧W n σ' H') ?_ m0 ⟨σ,H,I,w0⟩)
 rintro n s1 ⟨σ1,H1,I1,w1⟩
 refine wpAny_passesOwn hp (thn (hc pins s1 σ1 H1 _ I1 (turn n σ1 H1 w1)) fun b s2 ⟨H2,I2,q2⟩=>?_)
 cases b with
 |true =>
  obtain ⟨N,hN,q2⟩:=q2
  rw[if_pos rfl]
  refine wpAny_passesOwn hp (thn (hb pins s2 σ1 H2 _ I2 q2) fun f s3 q3=>?_)
  cases f with
  |next =>
   obtain ⟨σ3,H3,I3,n3⟩:=q3
   obtain ⟨m',hm,w3⟩:=hN σ3 H3 n3
   exact ⟨m',hm,σ3,H3,I3,w3⟩
  |cont =>
   obtain ⟨σ3,H3,I3,n3⟩:=q3
   obtain ⟨m',hm,w3⟩:=hN σ3 H3 n3
   exact ⟨m',hm,σ3,H3,I3,w3⟩
  |brk=>exact q3
  |ret v=>exact q3
 |false =>
  rw[if_neg Bool.false_ne_true]
  exact wpAny_execs_nil ⟨σ1,H2,I2,q2⟩
end
structure It where
 go:Nat->Hp->Prop
 yld:Nat->Hp->V->Hp->Prop
 stop:Nat->Hp->Prop
def U5 (X:Cx) (pins:List (Addr × Obj)) (H:Hp) (b:Addr):Prop :=
 H b=none∧b≠X.env.locals∧b ∉ X.fs∧(b∈X.ex∨X.s₀.heap.objs.size<=b)∧(∀x c,X.env.cells.lookup x=some c->c≠b)∧∀p∈X.pn++pins,p.1≠b
theorem Inv.fpOk {X:Cx} {pins:List (Addr × Obj)} {σ:St} {H H':Hp} {s:Shared} {b:Addr} (I:Inv X pins σ H s) (hb:s.heap.objs.size<=b) (hn:H' b=none):U5 X pins H' b:=by
 refine ⟨hn,Nat.ne_of_gt (Nat.lt_of_lt_of_le I.lt hb),I.nofs hb,.inr (Nat.le_trans I.sz hb),fun x c e z=>?_,fun p hp z=>?_⟩
 ·obtain ⟨v,q⟩:=I.cell x c e
  exact absurd (Nat.lt_of_lt_of_le q.lt (by rw[z]; exact hb)) (Nat.lt_irrefl _)
 ·exact absurd (Nat.lt_of_lt_of_le (Heap.lt_size (I.pin p hp).1) (by rw[z]; exact hb)) (Nat.lt_irrefl _)
structure Turn (P:Program) (w:World) (K:PySem.W.Frag) (tg:Expr) (J:It) (fp:List Addr) (it:Addr) (tn:Nat->Heap->Prop):Prop where
 mem:it∈fp
 obj:∀i h,tn i h->∀b∈fp,∃o,h.get? b=some o∧∀v,o.data≠.cell v
 keep:∀i h h',tn i h->(∀b∈fp,∀o,h.get? b=some o->h'.get? b=some o)->tn i h'
 item:∀(X:Cx),X.prog=P->X.w=w->X.K=K->X.calm=true->∀(i:Nat) (pins:List (Addr × Obj)) (s:Shared) (σ:St) (H:Hp) (E:Value->Shared->Prop),Inv X pins σ H s->(∀b∈fp,U5 X pins H b)->tn i s.heap->J.go i H ->
  wpAny (model P w) X.A (pyNext (.ref it)) (fun r s1=>∃u,r=some u ∧
   wpAny (model P w) X.A (letOwnedTupleGo tg (.ref it) u) (fun _ s2=>∃x H',Inv X pins σ H' s2∧RelV x u∧J.yld i H x H'∧tn (i+1) s2.heap∧∀b∈fp,H' b=none) E s1) E s
 done:∀(X:Cx),X.prog=P->X.w=w->X.K=K->X.calm=true->∀(i:Nat) (pins:List (Addr × Obj)) (s:Shared) (σ:St) (H:Hp) (E:Value->Shared->Prop),Inv X pins σ H s->(∀b∈fp,U5 X pins H b)->tn i s.heap->J.stop i H ->
  wpAny (model P w) X.A (pyNext (.ref it)) (fun r s1=>r=none∧Inv X pins σ H s1) E s
 self:∀(A:Around) (i:Nat) (s:Shared) (Q:Value->Shared->Prop) (E:Value->Shared->Prop),tn i s.heap->Q (.ref it) s->wpAny (model P w) A (pyIter (.ref it)) Q E s
abbrev TI:=St->Hp->(It->Hp->Prop)->Prop
def PIE (X:Cx) (pins:List (Addr × Obj)) (σ:St) (tg:Expr) (R:It->Hp->Prop) (itv:Value) (s2:Shared):Prop :=
 ∃(it:Addr) (fp:List Addr) (tn:Nat->Heap->Prop) (J:It) (H':Hp),itv=.ref it∧Inv X pins σ H' s2∧Turn X.prog X.w X.K tg J fp it tn∧tn 0 s2.heap∧(∀b∈fp,U5 X pins H' b)∧R J H'
def PI (X:Cx) (tg iter:Expr) (wi:TI):Prop :=
 ∀(pins:List (Addr × Obj)) (s:Shared) (σ:St) (H:Hp) (R:It->Hp->Prop),Inv X pins σ H s->wi σ H R ->
  wpAny (model X.prog X.w) X.A (eval iter X.env) (fun v s1=>wpAny (model X.prog X.w) X.A (pyIter v) (PIE X pins σ tg R) X.xe s1) X.xe s
theorem go_of {M : Model} {A : Around} {E : Value -> Shared -> Prop} {s : Shared} {tg : Expr} {it : Addr} {u : Value} {o : Obj} {n : String} {vs : Array Value} {Q : Unit -> Shared -> Prop} (ho : s.heap.get? it = some o) (hc : o.cls = .type n) (hd : o.data = .fields vs)
    (hn:["enumerate","zip","dict_itemiterator","dict_reverseitemiterator","odict_iterator","itertools.zip_longest","itertools.pairwise"].contains n=false) (hQ:Q () s):wpAny M A (letOwnedTupleGo tg (.ref it) u) Q E s:=by
  unfold letOwnedTupleGo
  cases tg <;> first
    |exact wpAny_pure hQ
    | (cases u <;> first
        |exact wpAny_pure hQ
        | (refine wpAny_bind (wpAny_load ho ?_)
           rw[hc,hd]
           show wpAny M A (if (["enumerate","zip","dict_itemiterator","dict_reverseitemiterator","odict_iterator","itertools.zip_longest","itertools.pairwise"].contains n&&vs[0]? == some (rawInt _))=true then _ else _) Q E s
           rw[if_neg (by intro h; rw[hn,Bool.false_and]at h; cases h)]
           exact wpAny_pure hQ))
def Itl (K:PySem.W.Frag) (a:Addr):It :=
 ⟨fun i H=>∃xs x,SqL K H a xs∧xs[i]?=some x,fun i H x H'=>H'=H∧∀xs,SqL K H a xs->xs[i]?=some x,fun i H=>∃xs,SqL K H a xs∧xs.length<=i⟩
def Itr (lo:Int) (n:Nat):It:=⟨fun i _=>i < n,fun i H x H'=>H'=H∧x=.int (lo+i),fun i _=>n<=i⟩
theorem turn_list {P:Program} {w:World} {K:PySem.W.Frag} {tg:Expr} (a it:Addr):Turn P w K tg (Itl K a) [it] it (fun i h=>h.IsListIter it a i) where
 mem:=by simp
 obj:=fun i h st b hb=>by
  have e:b=it:=by simpa using hb
  subst e
  obtain ⟨o,e,c,d⟩:=st
  exact ⟨o,e,fun v z=>by rw[d]at z; cases z⟩
 keep:=fun i h h' st k=>st.at fun o e=>k it (by simp) o e
 item:=by
  intro X hP hw hK hc i pins s σ H E I hf st hg
  subst hP hw hK
  obtain ⟨xs,x,hq,hx⟩:=hg
  obtain ⟨its,rv,p,hz⟩:=I.list hq
  obtain ⟨u,hu,ru⟩:=rv.get hx
  obtain ⟨f0,f1,f2,f3,f4,f5⟩:=hf it (by simp)
  refine wpAny_pyNext_list_item st p.isList (x:=u) (by simpa using hu) fun h' st' sb=>?_
  have I1:Inv X pins σ H { s with heap:=h' }:=I.turned (t':=s.toks) (fun b o hb e=>(sb.2 b hb).trans e) f0 f1 f3 f4 f5
  obtain ⟨o,e,c,d⟩:=id st'
  exact ⟨u,rfl,go_of (s:={ s with heap:=h' }) e c d (by decide) ⟨x,H,I1,ru,⟨rfl,fun ys hy=>by rw[I.list_inj hy hq]; exact hx⟩,st',fun b hb=>(hf b hb).1⟩⟩
 done:=by
  intro X hP hw hK hc i pins s σ H E I hf st hg
  subst hP hw hK
  obtain ⟨xs,hq,hx⟩:=hg
  obtain ⟨its,rv,p,hz⟩:=I.list hq
  obtain ⟨f0,f1,f2,f3,f4,f5⟩:=hf it (by simp)
  have hl:=rv.length
  exact wpAny_pyNext_list_end (I.ok.hd hc) st p.isList (by simp; omega) fun h' eb=>⟨rfl,I.turned (t':=s.toks) (fun b o hb e=>eb b o hb e) f0 f1 f3 f4 f5⟩
 self:=fun _ _ _ _ _ st h=>wpAny_pyIter_listiter st h
theorem turn_range {P:Program} {w:World} {K:PySem.W.Frag} {tg:Expr} (it:Addr) (lo:Int) (n:Nat):Turn P w K tg (Itr lo n) [it] it (fun i h=>IsRangeIter h it (lo+(i:Nat) * 1) ((n:Int) - (i:Nat)) 1) where
 mem:=by simp
 obj:=fun i h st b hb=>by
  have e:b=it:=by simpa using hb
  subst e
  exact ⟨_,st,fun v z=>by
   have z':Data.fields _=Data.cell v:=z
   cases z'⟩
 keep:=fun i h h' st k=>k it (by simp) _ st
 item:=by
  intro X hP hw hK hc i pins s σ H E I hf st hg
  subst hP hw hK
  obtain ⟨f0,f1,f2,f3,f4,f5⟩:=hf it (by simp)
  have W:=Walks.range (prog:=X.prog) (w:=X.w) (I.ok.hd hc) it lo 1 n
  refine W.item i s _ _ hg st fun v h' tk hv st' kk=>?_
  obtain ⟨t,rfl⟩:=hv
  have I1:Inv X pins σ H { s with heap:=h',toks:=tk }:=I.turned (fun b o hb e=>kk b o (by simpa using hb) e) f0 f1 f3 f4 f5
  refine ⟨_,rfl,go_of (s:={ s with heap:=h',toks:=tk }) (n:="range_iterator") st' rfl rfl (by decide) ⟨.int (lo+i),H,I1,⟨t,?_⟩,⟨rfl,rfl⟩,st',fun b hb=>(hf b hb).1⟩⟩
  rw[Int.mul_one]
 done:=by
  intro X hP hw hK hc i pins s σ H E I hf st hg
  subst hP hw hK
  obtain ⟨f0,f1,f2,f3,f4,f5⟩:=hf it (by simp)
  exact wpAny_pyNext_range_end (I.ok.hd hc) st (by have:n<=i:=hg; omega) fun h' eb=>⟨rfl,I.turned (t':=s.toks) (fun b o hb e=>eb b o hb e) f0 f1 f3 f4 f5⟩
 self:=fun _ _ _ _ _ st h=>wpAny_pyIter_rangeiter st h
end L2
namespace L2
open PySem PySem.Spec PyProof.Rows
section
variable {X:Cx} {tg:Expr}
def iList (K:PySem.W.Frag) (tl:TE):TI:=fun σ H R=>tl σ H fun x H1=>∃a,x=.ref a∧(∃xs,SqL K H1 a xs)∧R (Itl K a) H1
theorem pi_list {l:Expr} {tl:TE} (hl:PE X l tl):PI X tg l (iList X.K tl):=by
 intro pins s σ H R I h
 refine thn (hl pins s σ H _ I h) fun v s1 ⟨x,H1,I1,r1,q1⟩=>?_
 obtain ⟨a,e,⟨xs,hq⟩,q⟩:=q1
 subst e
 cases r1
 obtain ⟨its,rv,p,hz⟩:=I1.list hq
 refine wpAny_pyIter_list p.isList ?_
 refine ⟨s1.heap.objs.size,[s1.heap.objs.size],_,_,H1,rfl,I1.kept (t':=s1.toks) fun b o e=>Heap.get?_push_of_some _ e,turn_list a _,⟨_,Heap.get?_push_size _ rfl,rfl,rfl⟩,fun b hb=>?_,q⟩
 have e:b=s1.heap.objs.size:=by simpa using hb
 subst e
 exact I1.fpOk (Nat.le_refl _) (I1.hok.fresh (Nat.le_refl _))
theorem range_it {pins : List (Addr × Obj)} {σ : St} {H : Hp} {s : Shared} {R : It -> Hp -> Prop} {E : Value -> Shared -> Prop} {lo hi : Int} {t u v : Tok} {tk : Nat} (I : Inv X pins σ H s) (h1 : -(2 ^ 62) <= lo) (h2 : lo < 2 ^ 62) (h3 : -(2 ^ 62) <= hi) (h4 : hi < 2 ^ 62)
    (q:R (Itr lo (hi - lo).toNat) H):wpAny (model X.prog X.w) X.A (pyIter (.ref s.heap.objs.size)) (PIE X pins σ tg R) E { s with heap:=s.heap.push { cls:=.type "range",data:=.fields #[.int lo t,.int hi u,.int 1 v] },toks:=tk }:=by
  refine wpAny_pyIter_range (IsRange.new ..) (small_one h1 h2 h3 h4) ?_
  have I1:Inv X pins σ H { s with heap:=s.heap.push { cls:=.type "range",data:=.fields #[.int lo t,.int hi u,.int 1 v] },toks:=tk }:=I.kept fun b o e=>Heap.get?_push_of_some _ e
  refine ⟨(s.heap.push { cls:=.type "range",data:=.fields #[.int lo t,.int hi u,.int 1 v] }).objs.size,[(s.heap.push { cls:=.type "range",data:=.fields #[.int lo t,.int hi u,.int 1 v] }).objs.size],_,_,H,rfl,
    I1.kept (t':=tk) fun b o e=>Heap.get?_push_of_some _ e,turn_range _ lo (hi - lo).toNat,?_,fun b hb=>?_,q⟩
  · have e1:lo+((0:Nat):Int) * 1=lo:=by simp
    have e2:(((hi - lo).toNat:Nat):Int) - ((0:Nat):Int)=Builtin.Range.rangeSize lo hi 1:=by rw[rangeSize_one]; split <;> omega
    show IsRangeIter _ _ (lo+((0:Nat):Int) * 1) ((((hi - lo).toNat:Nat):Int) - ((0:Nat):Int)) 1
    rw[e1,e2]
    exact Heap.get?_push_size _ rfl
  · have e:b=(s.heap.push { cls:=.type "range",data:=.fields #[.int lo t,.int hi u,.int 1 v] }).objs.size:=by simpa using hb
    subst e
    exact I1.fpOk (Nat.le_refl _) (I1.hok.fresh (Nat.le_refl _))
def iRng1 (ta:TA):TI:=fun σ H R=>ta σ H fun vs H1=>∃j:Int,vs=[.int j]∧-(2 ^ 62)<=j∧j < 2 ^ 62∧R (Itr 0 j.toNat) H1
theorem pi_range1 {a:Expr} {ta:TA} {p pos:Pos} (hg:Gl X "range") (hm:X.mg "range"=none) (ha:PA X [a] ta) (hs:starEach [a] X.env=[(false,eval a X.env)]:=by rfl):PI X tg (.Call (.Name "range" p) [a] [] pos) (iRng1 ta):=by
 intro pins s σ H R I h
 refine Call_ (ld_blt I hg hm boot_range (PyProof.Rows.callWith_type1 (thn (ha pos pins s σ H _ I h) fun us s1 ⟨vs,H1,I1,r1,q1⟩=>?_) hs rfl))
 obtain ⟨j,e,q1,q2,q⟩:=q1
 subst e
 cases r1 with
 |cons r rr =>
  cases rr
  obtain ⟨t,rfl⟩:=r
  exact call_range_1 (range_it I1 (by omega) (by omega) q1 q2 (by simpa using q))
def tFor (wi:TI) (g:TG) (tb:TS):TS:=fun D σ H=>wi σ H fun J H1=>∃W:Nat->Nat->St->Hp->Prop,(∃m,W 0 m σ H1)∧∀i m σ H,W i m σ H ->
 (J.stop i H∧D.nx σ H)∨(J.go i H∧∃N:St->Hp->Prop,(∀σ' H',N σ' H'->∃m',m' < m∧W (i+1) m' σ' H')∧∀x H',J.yld i H x H'->g x σ H' fun σ2 H2=>tb { D with nx:=N,ct:=N,bk:=D.nx } σ2 H2)
def Wx (fp:List Addr) (h:Heap):List (Addr × Obj):=fp.filterMap fun b=>(h.get? b).map fun o=>(b,o)
theorem Xb {fp:List Addr} {h:Heap} {b:Addr} {o:Obj} (hb:b∈fp) (e:h.get? b=some o):(b,o)∈Wx fp h:=List.mem_filterMap.mpr ⟨b,hb,by rw[e]; rfl⟩
theorem of_pinsAt {fp:List Addr} {h:Heap} {p:Addr × Obj} (hp:p∈Wx fp h):p.1∈fp∧h.get? p.1=some p.2:=by
 obtain ⟨b,hb,e⟩:=List.mem_filterMap.mp hp
 cases q:h.get? b with
 |none=>rw[q]at e; cases e
 |some o =>
  rw[q]at e
  have e':(b,o)=p:=Option.some.inj e
  subst e'
  exact ⟨hb,q⟩
theorem Inv.pinned {pins:List (Addr × Obj)} {σ:St} {H:Hp} {s:Shared} {fp:List Addr} (I:Inv X pins σ H s) (hf:∀b∈fp,U5 X pins H b) (ho:∀b∈fp,∃o,s.heap.get? b=some o∧∀v,o.data≠.cell v):Inv X (pins++Wx fp s.heap) σ H s :=
 I.pins_of fun p hp=>(List.mem_append.mp hp).elim (fun z=>I.pin p (List.mem_append_right _ z)) fun z=>by
  obtain ⟨hb,e⟩:=of_pinsAt z
  obtain ⟨f0,f1,f2,_⟩:=hf p.1 hb
  obtain ⟨o,e',d⟩:=ho p.1 hb
  rw[e]at e'; cases e'
  exact ⟨e,f0,f1,f2,d⟩
theorem Inv.unpinned {pins pl:List (Addr × Obj)} {σ:St} {H:Hp} {s:Shared} (I:Inv X (pins++pl) σ H s):Inv X pins σ H s:=I.pins_of fun p hp=>I.pin p (List.mem_append_right _ (List.mem_append_left _ hp))
theorem ps_for {iter : Expr} {body : List Stmt} {wi : TI} {g : TG} {tb : TS} {pos : Pos} (hp : PassesOwn (model X.prog X.w) X.A X.env X.xe) (hc : X.calm = true) (hi : PI X tg iter wi) (hg : PG X tg g) (hb : PSs X body tb)
    (hs:∀x,foldedSetIterable iter X.env x=pure x:=by intro _; rfl):PS X (.For tg iter body [] pos) (tFor wi g tb):=by
  intro pins s σ H D I h
  refine wpAny_For (thn (hi pins s σ H _ I h) fun v s1 h1=>thn h1 fun itv s2 h2=>?_) hs
  obtain ⟨it,fp,tn,J,H2,e,I2,T,st2,f2,W,⟨m0,w0⟩,turn⟩:=h2
  subst e
  have stat:∀{H':Hp},(∀b∈fp,H' b=none)->∀b∈fp,U5 X pins H' b:=fun hn b hb=>⟨hn b hb,(f2 b hb).2⟩
  refine codeAny_forLoop_any (fun n s'=>∃i σ' H',Inv X pins σ' H' s'∧tn i s'.heap∧(∀b∈fp,H' b=none)∧W i n σ' H') ?_ m0 ⟨0,σ,H2,I2,st2,fun b hb=>(f2 b hb).1,w0⟩
  rintro n s3 ⟨i,σ3,H3,I3,st3,fr3,w3⟩
  rcases turn i n σ3 H3 w3 with ⟨stop,qn⟩|⟨go,N,hN,step⟩
  · refine wpAny_passesOwn hp (thn (T.done X rfl rfl rfl hc i pins s3 σ3 H3 X.xe I3 (stat fr3) st3 stop) fun r s4 ⟨hr,I4⟩=>?_)
    subst hr
    exact wpAny_execs_nil ⟨σ3,H3,I4,qn⟩
  · refine wpAny_passesOwn hp (thn (T.item X rfl rfl rfl hc i pins s3 σ3 H3 X.xe I3 (stat fr3) st3 go) fun r s4 ⟨u,hr,h4⟩=>?_)
    subst hr
    refine wpAny_passesOwn hp (thn h4 fun _ s5 ⟨x,H5,I5,r5,y5,st5,fr5⟩=>?_)
    have I5':=I5.pinned (stat fr5) (T.obj _ _ st5)
    refine wpAny_passesOwn hp (thn (hg _ s5 σ3 H5 x u _ I5' r5 (step x H5 y5)) fun _ s6 ⟨σ6,H6,I6,q6⟩=>?_)
    refine wpAny_passesOwn hp (thn (hb _ s6 σ6 H6 _ I6 q6) fun f s7 q7=>?_)
    have again:∀{σ7:St} {H7:Hp},Inv X (pins++Wx fp s5.heap) σ7 H7 s7->N σ7 H7->∃m,m < n∧∃i σ' H',Inv X pins σ' H' s7∧tn i s7.heap∧(∀b∈fp,H' b=none)∧W i m σ' H':=fun {σ7 H7} I7 n7=>by
      obtain ⟨m',hm,w7⟩:=hN σ7 H7 n7
      refine ⟨m',hm,i+1,σ7,H7,I7.unpinned,T.keep _ _ _ st5 fun b hb o e=>(I7.pin (b,o) (List.mem_append_right _ (List.mem_append_right _ (Xb hb e)))).1,fun b hb=>?_,w7⟩
      obtain ⟨o,e,d⟩:=T.obj _ _ st5 b hb
      exact (I7.pin (b,o) (List.mem_append_right _ (List.mem_append_right _ (Xb hb e)))).2.1
    cases f with
    |next=>obtain ⟨σ7,H7,I7,n7⟩:=q7; exact again I7 n7
    |cont=>obtain ⟨σ7,H7,I7,n7⟩:=q7; exact again I7 n7
    |brk=>obtain ⟨σ7,H7,I7,q7⟩:=q7; exact ⟨σ7,H7,I7.unpinned,q7⟩
    |ret v=>obtain ⟨x7,σ7,H7,I7,r7,q7⟩:=q7; exact ⟨x7,σ7,H7,I7.unpinned,r7,q7⟩
end
end L2
namespace L2
open PySem PySem.Spec PyProof.Rows
abbrev R2:=V->V->Hp->VK->Prop
def OpR (X:Cx) (f:Value->Value->Sem Value) (r:R2):Prop :=
 ∀(pins:List (Addr × Obj)) (s:Shared) (σ:St) (H:Hp) (x y:V) (v u:Value) (Q:VK),Inv X pins σ H s->RelV x v->RelV y u->r x y H Q ->
  wpAny (model X.prog X.w) X.A (f v u) (EP X pins σ Q) X.xe s
def CallR (X:Cx) (f:Value) (r:List V->Hp->VK->Prop):Prop :=
 ∀(pins:List (Addr × Obj)) (s:Shared) (σ:St) (H:Hp) (xs:List V) (us:List Value) (Q:VK),Inv X pins σ H s->Vals xs us->r xs H Q ->
  wpAny (model X.prog X.w) X.A (call f us) (EP X pins σ Q) X.xe s
def TruR (X:Cx) (r:V->Hp->(Bool->Hp->Prop)->Prop):Prop :=
 ∀(pins:List (Addr × Obj)) (s:Shared) (σ:St) (H:Hp) (x:V) (v:Value) (Q:Bool->Hp->Prop),Inv X pins σ H s->RelV x v->r x H Q ->
  wpAny (model X.prog X.w) X.A (truthy v) (TP X pins σ Q) X.xe s
def tOp (r:R2) (ta tb:TE):TE:=fun σ H Q=>ta σ H fun x H1=>tb σ H1 fun y H2=>r x y H2 Q
def rI (C:Int->Int->Prop) (g:Int->Int->V):R2:=fun x y H Q=>∃i j,x=.int i∧y=.int j∧C i j∧Q (g i j) H
def rI0 (g:Int->Int->V):R2:=fun x y H Q=>∃i j,x=.int i∧y=.int j∧Q (g i j) H
section
variable {X:Cx} {a b c:Expr} {ta tb tc:TE} {pos:Pos}
theorem binT (ha : PE X a ta) (hb : PE X b tb) {pins : List (Addr × Obj)} {s : Shared} {σ : St} {H : Hp} {R : V -> V -> Hp -> Prop} (I : Inv X pins σ H s)
    (h:ta σ H fun x H1=>tb σ H1 fun y H2=>R x y H2) {Q:Value->Shared->Prop} {f:Value->Value->Sem Value}
    (hf:∀v u s2 x y H2,Inv X pins σ H2 s2->RelV x v->RelV y u->R x y H2->wpAny (model X.prog X.w) X.A (f v u) Q X.xe s2) :
    wpAny (model X.prog X.w) X.A (eval a X.env) (fun v s₁=>wpAny (model X.prog X.w) X.A (eval b X.env) (fun u s₂=>wpAny (model X.prog X.w) X.A (f v u) Q X.xe s₂) X.xe s₁) X.xe s:=by
  refine thn (ha pins s σ H _ I h) fun v s1 ⟨x,H1,I1,r1,q1⟩=>?_
  refine thn (hb pins s1 σ H1 _ I1 q1) fun u s2 ⟨y,H2,I2,r2,q2⟩=>?_
  exact hf v u s2 x y H2 I2 r1 r2 q2
theorem pe_op {op:Operator} {r:R2} (ho:OpR X (binaryOp op) r) (ha:PE X a ta) (hb:PE X b tb):PE X (.BinOp a op b pos) (tOp r ta tb):=by
 intro pins s σ H Q I h
 exact wpAny_BinOp (binT ha hb I h fun v u s2 x y H2 I2 rx ry q=>ho pins s2 σ H2 x y v u Q I2 rx ry q)
theorem opI {f : Value -> Value -> Sem Value} {C : Int -> Int -> Prop} {g : Int -> Int -> Int}
    (rule:∀(i j:Int) (t u:Tok) (s:Shared) (Q:Value->Shared->Prop) (E:Value->Shared->Prop),C i j->Q (.int (g i j) s.toks) { s with toks:=s.toks+1 }->wpAny (model X.prog X.w) X.A (f (.int i t) (.int j u)) Q E s) :
    OpR X f (rI C fun i j=>.int (g i j)):=by
  intro pins s σ H x y v u Q I rx ry h
  obtain ⟨i,j,rfl,rfl,hc,q⟩:=h
  obtain ⟨t,rfl⟩:=rx
  obtain ⟨t',rfl⟩:=ry
  exact rule i j t t' s _ _ hc ⟨.int (g i j),H,I.tok _,⟨_,rfl⟩,q⟩
theorem opI0 {f : Value -> Value -> Sem Value} {g : Int -> Int -> Int}
    (rule:∀(i j:Int) (t u:Tok) (s:Shared) (Q:Value->Shared->Prop) (E:Value->Shared->Prop),Q (.int (g i j) s.toks) { s with toks:=s.toks+1 }->wpAny (model X.prog X.w) X.A (f (.int i t) (.int j u)) Q E s) :
    OpR X f (rI0 fun i j=>.int (g i j)):=by
  intro pins s σ H x y v u Q I rx ry h
  obtain ⟨i,j,rfl,rfl,q⟩:=h
  obtain ⟨t,rfl⟩:=rx
  obtain ⟨t',rfl⟩:=ry
  exact rule i j t t' s _ _ ⟨.int (g i j),H,I.tok _,⟨_,rfl⟩,q⟩
theorem opB0 {f : Value -> Value -> Sem Value} {g : Int -> Int -> Bool}
    (rule:∀(i j:Int) (t u:Tok) (s:Shared) (Q:Value->Shared->Prop) (E:Value->Shared->Prop),Q (.bool (g i j)) s->wpAny (model X.prog X.w) X.A (f (.int i t) (.int j u)) Q E s) :
    OpR X f (rI0 fun i j=>.bl (g i j)):=by
  intro pins s σ H x y v u Q I rx ry h
  obtain ⟨i,j,rfl,rfl,q⟩:=h
  obtain ⟨t,rfl⟩:=rx
  obtain ⟨t',rfl⟩:=ry
  exact rule i j t t' s _ _ ⟨.bl (g i j),H,I,rfl,q⟩
def CDiv (i j:Int):Prop:=0 < j∧j < 1073741824
def CMul (i j:Int):Prop:=(-(2 ^ 64) < i∧i < 2 ^ 64)∨(-(2 ^ 64) < j∧j < 2 ^ 64)
theorem CMul.ok {i j:Int} (h:CMul i j):IntMulOk i j:=by
 rcases h with ⟨h1,h2⟩|⟨h1,h2⟩
 ·exact .of_left (intBits_le_64 h1 h2)
 ·exact .of_right (intBits_le_64 h1 h2)
theorem op_add:OpR X (binaryOp .Add) (rI0 fun i j=>.int (i+j)):=opI0 fun _ _ _ _ _ _ _ q=>add_int q
theorem op_sub:OpR X (binaryOp .Sub) (rI0 fun i j=>.int (i - j)):=opI0 fun _ _ _ _ _ _ _ q=>sub_int q
theorem op_mul:OpR X (binaryOp .Mult) (rI CMul fun i j=>.int (i * j)):=opI fun _ _ _ _ _ _ _ hc q=>mul_int q hc.ok
theorem op_fdiv:OpR X (binaryOp .FloorDiv) (rI CDiv fun i j=>.int (i / j)):=opI fun i j _ _ _ _ _ hc q=>by
 have h1:(0:Int) < j:=hc.1
 have h2:j < 1073741824:=hc.2
 exact floordiv_int (by omega) (by rw[Int.fdiv_eq_ediv_of_nonneg i (by omega)]; exact q) (.inl (PyProof.noPylong_small (by omega)))
theorem op_mod:OpR X (binaryOp .Mod) (rI (fun _ j=>0 < j) fun i j=>.int (i % j)):=opI fun i j _ _ _ _ _ hc q=>by
 have h1:(0:Int) < j:=hc
 exact mod_int' (by omega) (by rw[Int.fmod_eq_emod_of_nonneg i (by omega)]; exact q)
end
section
variable {X:Cx} {a b c:Expr} {ta tb tc:TE} {pos:Pos}
theorem op_lt:OpR X (compareOp .Lt) (rI0 fun i j=>.bl (decide (i < j))):=opB0 fun _ _ _ _ _ _ _ q=>lt_int q
theorem op_gt:OpR X (compareOp .Gt) (rI0 fun i j=>.bl (decide (j < i))):=opB0 fun _ _ _ _ _ _ _ q=>gt_int q
theorem op_ge:OpR X (compareOp .GtE) (rI0 fun i j=>.bl (decide (j<=i))):=opB0 fun _ _ _ _ _ _ _ q=>ge_int q
theorem Wp (b:Expr) {op:CmpOp} (h:op≠.In:=by decide) (h2:op≠.NotIn:=by decide):behindInMarks op b=false:=by
 have e1:(op == CmpOp.In)=false:=by cases op <;> first|rfl|exact absurd rfl h
 have e2:(op == CmpOp.NotIn)=false:=by cases op <;> first|rfl|exact absurd rfl h2
 cases b <;> simp[behindInMarks,e1,e2]
theorem pe_cmpR {op:CmpOp} {r:R2} (ho:OpR X (compareOp op) r) (ha:PE X a ta) (hb:PE X b tb) (hm:behindInMarks op b=false):PE X (.Compare a [op] [b] pos) (tOp r ta tb):=by
 intro pins s σ H Q I h
 exact wpAny_Compare1 (binT ha hb I h fun v u s2 x y H2 I2 rx ry q=>ho pins s2 σ H2 x y v u Q I2 rx ry q) hm
def tTest (t:TE):TT:=fun σ H Q=>t σ H fun x H'=>∃k,x=.bl k∧Q k H'
theorem pt_cmpR {op:CmpOp} {r:R2} (ho:OpR X (compareOp op) r) (ha:PE X a ta) (hb:PE X b tb) (hm:behindInMarks op b=false):PT X (.Compare a [op] [b] pos) (tTest (tOp r ta tb)):=by
 intro pins s σ H Q I h
 refine wpAny_isTrue_Compare1 (thn (ha pins s σ H _ I h) fun v s1 ⟨x,H1,I1,r1,q1⟩=>thn (hb pins s1 σ H1 _ I1 q1) fun u s2 ⟨y,H2,I2,r2,q2⟩ =>
  thn (ho pins s2 σ H2 x y v u _ I2 r1 r2 q2) fun c s3 ⟨z,H3,I3,r3,k,e,q3⟩=>?_) hm
 subst e
 cases r3
 exact wpAny_truthy_bool ⟨H3,I3,q3⟩
def TruV (K:PySem.W.Frag) (x:V) (H:Hp) (k:Bool):Prop :=
 match x with
 |.non=>k=false
 |.bl b=>k=b
 |.int i=>k=(i != 0)
 |.str y=>y.length<=sizeLine∧k=((y.length:Int) != 0)
 |.byt y=>y.size<=sizeLine∧k=((y.size:Int) != 0)
 |.ref p=>(∃xs,SqL K H p xs∧k=!xs.isEmpty)∨(∃xs,SqT K H p xs∧k=!xs.isEmpty)∨∃kvs,H p=some (.dK kvs)∧k=!kvs.isEmpty
 |_=>False
theorem isEmpty_kv {κ:Type} {kvs:List (κ × V)} {vs:List (κ × Value)} (r:KV kvs vs):(!vs.isEmpty)=!kvs.isEmpty:=by
 cases r <;> rfl
theorem TB {xs:List V} {its:List Value} (r:Vals xs its):(!its.toArray.isEmpty)=!xs.isEmpty:=by
 cases r <;> simp
theorem Ty:(sizeLine:Nat) < 2 ^ 63:=by rw[sizeLine_eq]; decide
theorem tru_ok:TruR X (fun x H Q=>∃k,TruV X.K x H k∧Q k H):=by
 intro pins s σ H x v Q I rx h
 obtain ⟨k,e,q⟩:=h
 have hl:=Ty
 have hs:sizeLine=16777216:=sizeLine_eq
 cases x with
 |non =>
  cases rx
  have e':k=false:=e
  subst e'
  exact truthy_none ⟨H,I,q⟩
 |bl b =>
  cases rx
  have e':k=b:=e
  subst e'
  exact wpAny_truthy_bool ⟨H,I,q⟩
 |int i =>
  obtain ⟨t,rfl⟩:=rx
  have e':k=(i != 0):=e
  subst e'
  exact PySem.P.truthy_int ⟨H,I,q⟩
 |str y =>
  obtain ⟨t,rfl⟩:=rx
  obtain ⟨hy,e'⟩:y.length<=sizeLine∧k=((y.length:Int) != 0):=e
  subst e'
  exact PySem.P.truthy_str (by omega) ⟨H,I.tok _,q⟩
 |byt y =>
  obtain ⟨t,rfl⟩:=rx
  obtain ⟨hy,e'⟩:y.size<=sizeLine∧k=((y.size:Int) != 0):=e
  subst e'
  exact PySem.W.truthy_bytes (by omega) ⟨H,I.tok _,q⟩
 |ref p =>
  cases rx
  have e':(∃xs,SqL X.K H p xs∧k=!xs.isEmpty)∨(∃xs,SqT X.K H p xs∧k=!xs.isEmpty)∨∃kvs,H p=some (.dK kvs)∧k=!kvs.isEmpty:=e
  rcases e' with ⟨xs,hx,e'⟩|⟨xs,hx,e'⟩|⟨kvs,hx,e'⟩
  ·subst e'
   obtain ⟨its,r,pl,hz⟩:=I.list hx
   have hlen:=r.length
   exact wpAny_truthy_list pl.isList (by simp only[List.size_toArray]; omega) ⟨H,I.tok _,by rw[TB r]; exact q⟩
  ·subst e'
   obtain ⟨its,r,pl,hz⟩:=I.tuple hx
   have hlen:=r.length
   exact truthy_tuple pl (by simp only[List.size_toArray]; omega) ⟨H,I.tok _,by rw[TB r]; exact q⟩
  ·subst e'
   obtain ⟨hz,hS,vs,r,m⟩:kvs.length<=sizeLine∧(p == sysModules)=false∧∃vs,KV kvs vs∧s.heap.DictOf (ZQ X.prog X.w) p vs:=I.hok p _ hx
   have hlen:kvs.length=vs.length:=Paired.length r
   exact wpAny_truthy_dict hS m (by omega) ⟨H,I.tok _,by rw[isEmpty_kv r]; exact q⟩
 |_=>exact (show False from e).elim
theorem pt_truth (ha : PE X a ta) (he : ∀ whole,isTrue a X.env whole = (do let v ← whole; standAt a.pos; holding [v] (truthy v))) :
    PT X a (fun σ H Q=>ta σ H fun x H'=>∃k,TruV X.K x H' k∧Q k H'):=by
  intro pins s σ H Q I h
  exact isTrue_plain (thn (ha pins s σ H _ I h) fun v s1 ⟨x,H1,I1,r1,q1⟩=>tru_ok pins s1 σ H1 x v Q I1 r1 q1) (he _)
theorem Q7 {x:V} {us:List Value} (r:Vals [x] us):∃u,us=[u]∧RelV x u:=by
 cases r with
 |cons r1 r2=>cases r2; exact ⟨_,rfl,r1⟩
theorem vals2 {x y:V} {us:List Value} (r:Vals [x,y] us):∃u w',us=[u,w']∧RelV x u∧RelV y w':=by
 cases r with
 |cons r1 r2 =>
  cases r2 with
  |cons r3 r4=>cases r4; exact ⟨_,_,rfl,r1,r3⟩
theorem call_max2 (hc:X.calm=true):CallR X (.builtin "max") (fun xs H Q=>∃i j,xs=[.int i,.int j]∧Q (.int (if j > i then j else i)) H):=by
 intro pins s σ H xs us Q I r h
 obtain ⟨i,j,rfl,q⟩:=h
 obtain ⟨u,w',rfl,⟨t,rfl⟩,⟨t',rfl⟩⟩:=vals2 r
 refine max_two_ints (I.ok.hd hc) fun h' tk k=>⟨_,H,I.kept k,?_,q⟩
 by_cases hj:j > i
 ·rw[if_pos hj,if_pos hj]; exact ⟨_,rfl⟩
 ·rw[if_neg hj,if_neg hj]; exact ⟨_,rfl⟩
theorem call_min2 (hc:X.calm=true):CallR X (.builtin "min") (fun xs H Q=>∃i j,xs=[.int i,.int j]∧Q (.int (if j < i then j else i)) H):=by
 intro pins s σ H xs us Q I r h
 obtain ⟨i,j,rfl,q⟩:=h
 obtain ⟨u,w',rfl,⟨t,rfl⟩,⟨t',rfl⟩⟩:=vals2 r
 refine min_two_ints (I.ok.hd hc) fun h' tk k=>⟨_,H,I.kept k,?_,q⟩
 by_cases hj:j < i
 ·rw[if_pos hj,if_pos hj]; exact ⟨_,rfl⟩
 ·rw[if_neg hj,if_neg hj]; exact ⟨_,rfl⟩
end
end L2
namespace L2
open PySem PySem.Spec PyProof.Rows
structure ObjM (h:Heap) (x dx C:Addr) (mA:Str->Option Value):Prop where
 obj:h.get? x=some (PySem.W.instObj C dx)
 ns:h.Ns1 dx mA
 ne:dx≠x
theorem lookIn_ns {h:Heap} {dx:Addr} {mA:Str->Option Value} (n:h.Ns1 dx mA):∃od,h.get? dx=some od∧∀name,PySem.W.lookIn name od=some (mA name):=by
 obtain ⟨o,es,ep,ho,hd,hk,_,hm⟩:=n
 refine ⟨o,ho,fun name=>?_⟩
 have e:=hm name
 unfold nsFind findBy at e
 rw[← Array.find?_toList]at e
 unfold PySem.W.lookIn
 rw[hd]
 dsimp only
 split
 ·rename_i y q
  rw[q]at e
  exact congrArg some e
 ·rename_i q
  rw[q]at e
  have a:es.toList.any (·.refKey)=false:=by
   rw[List.any_eq_false]
   intro y hy
   obtain ⟨z,t,hkey⟩:=hk y (Array.mem_toList_iff.mp hy)
   simp[DictEntry.refKey,hkey]
  have a':¬ es.toList.any (·.refKey)=true:=by rw[a]; exact Bool.false_ne_true
  rw[if_neg a']
  exact congrArg some e
theorem ObjM.look {h:Heap} {x dx C:Addr} {mA:Str->Option Value} (I:ObjM h x dx C mA):∃od,PySem.W.InstAt h x (PySem.W.instObj C dx) C (some od)∧∀name,PySem.W.lookIn name od=some (mA name) :=
 let ⟨od,ho,hl⟩:=lookIn_ns I.ns
 ⟨od,⟨I.obj,rfl,rfl,ho⟩,hl⟩
section
variable {prog:Program} {w:World} {A:Around} {E:Value->Shared->Prop} {s:Shared} {K:PySem.W.Frag} {x dx C f:Addr} {mA:Str->Option Value} {name:Str} {v:Value}
theorem get_map {expr : Bool} {Q : Value -> Shared -> Prop} (X : K.In s.heap) (I : ObjM s.heap x dx C mA) (hg : PySem.W.plainGet K C name = true) (hh : PySem.W.hasDictIn K C = true)
    (ha:PySem.W.findIn K (.ref C) name=some none) (hv:mA name=some v) (hv':PySem.W.handedIn v=true) (h:Q v { s with toks:=s.toks+1 }) :
    wpAny (model prog w) A (getAttr (.ref x) name expr) Q E s:=by
  obtain ⟨od,J,hl⟩:=I.look
  exact PySem.W.get_value X J (PySem.W.plainGet_of hg).1 (PySem.W.findObj_own hh ha rfl (by rw[hl,hv])) hv' h
theorem get_meth {pl : Sem Bool} {Q : Value × List Value -> Shared -> Prop} (X : K.In s.heap) (I : ObjM s.heap x dx C mA) (hg : PySem.W.plainGet K C name = true)
    (hf:PySem.W.findIn K (.ref C) name=some (some (.ref f))) (ht:PySem.W.isFn K (.ref f)=true) (hv:mA name=none) (h:Q (.ref f,[.ref x]) s) :
    wpAny (model prog w) A (getMethod (.ref x) name pl) Q E s:=by
  obtain ⟨od,J,hl⟩:=I.look
  exact PySem.W.method_fn X J (PySem.W.plainGet_of hg).1 (PySem.W.plainGet_of hg).2 hf (beq_iff_eq.mp ht) (by show (PySem.W.lookIn name od).map (·.isSome)=some false; rw[hl,hv]; rfl) h
theorem set_map {ns : List Str} {Q : Unit -> Shared -> Prop} (X : K.In s.heap) (I : ObjM s.heap x dx C mA)
    (hs:PySem.W.findIn K (.ref C) "__setattr__"=some (some (.builtin "object.__setattr__"))) (hp:PySem.W.plainOver K C=true) (ht:PySem.W.takerIn K C name=some none) (hh:PySem.W.hasDictIn K C=true)
    (hw:PySem.Within mA ns) (hsz:ns.length<=sizeLine)
    (h:∀h',ObjM h' x dx C (fun y=>if y=name then some v else mA y)->Heap.SameBut dx s.heap h'->Q () { s with heap:=h',toks:=s.toks+2 }) :
    wpAny (model prog w) A (setAttr (.ref x) name v) Q E s:=by
  obtain ⟨od,J,hl⟩:=I.look
  refine PySem.W.set_plain X J hs (PySem.W.osa_open (s:={ s with toks:=s.toks+1 }) (r:=none) X J hp ht fun b=>?_)
  obtain ⟨cd,hc,hd'⟩:=PySem.W.any_some hh
  have hx:s.heap.get? x=some ⟨.ref C,some dx,.plain,#[]⟩:=I.obj
  refine wpAny_bind (wpAny_pure (wpAny_bind (wpAny_bind (wpAny_loadPart hx (wpAny_bind (PySem.W.Looks.here (s:={ s with toks:=s.toks+1 }) (PySem.W.looks_clsIn X hc) ?_))))))
  rw[hd']
  refine wpAny_pure (a:=some dx) (wpAny_bind (wpAny_pure (wpAny_bind ?_)))
  refine wpAny_nsSet1 (s:={ s with toks:=s.toks+1 }) I.ns fun h' hn2 hs2=>?_
  obtain ⟨oD,esD,epD,hoD,hdD,hcD⟩:=hn2.count (PySem.Within.cons name v hw)
  refine wpAny_bind (wpAny_lookBehind hoD (by rw[hdD]; exact pastItsLine_dict (Nat.le_trans hcD (by rw[List.length_cons]; omega))) ?_)
  exact wpAny_pure (h _ ⟨(hs2.2 _ (Ne.symm I.ne)).trans I.obj,hn2,I.ne⟩ hs2)
theorem make_map {R : Result -> Shared -> Prop} {vs : List Value} {kw : List (Str × Value)} (X : K.In s.heap) (hm : PySem.W.makesIn K C = true)
    (hi:PySem.W.findIn K (.ref C) "__init__"=some (some (.ref f))) (hf:PySem.W.typeIn K (.ref f)=some (.type "function"))
    (h:codeAny (model prog w) (A.under (.builtin "type.__call__" ⟨.ref C::vs,kw⟩)) (.call (.ref f) ⟨.ref (s.heap.objs.size+1)::vs,kw⟩) (PySem.W.InitBack (s.heap.objs.size+1) R)
      { s with heap:=(s.heap.push PySem.W.emptyDict).push (PySem.W.instObj C s.heap.objs.size) }) :
    codeAny (model prog w) A (.call (.ref C) ⟨vs,kw⟩) R s:=by
  obtain ⟨hh,g,d,t,os⟩:=s
  exact PySem.W.make_core (PySem.W.makes_of X hm) (PySem.W.looks_findIn X hi) (fun self=>PySem.W.bind_fn X self hf) (.inl rfl) h
end
def putF (f:Str) (v:V):List (Str × V)->List (Str × V)
 |[]=>[(f,v)]
 |(g,x)::r=>if g=f then (g,v)::r else (g,x)::putF f v r
theorem U3 (f g:Str) (v:V):∀fs:List (Str × V),(putF f v fs).lookup g=if g=f then some v else fs.lookup g
 |[]=>by
  show List.lookup g [(f,v)]=_
  by_cases h:g=f
  ·have hb:(g == f)=true:=beq_iff_eq.mpr h
   simp only[List.lookup,hb,if_pos h]
  ·have hb:(g == f)=false:=beq_eq_false_iff_ne.mpr h
   simp only[List.lookup,hb,if_neg h]
 |(k,x)::r=>by
  have ih:=U3 f g v r
  rw[show putF f v ((k,x)::r)=(if k=f then (k,v)::r else (k,x)::putF f v r) from rfl]
  by_cases hk:k=f
  ·rw[if_pos hk]
   by_cases h:g=k
   ·have hb:(g == k)=true:=beq_iff_eq.mpr h
    simp only[List.lookup,hb,if_pos (h.trans hk)]
   ·have hb:(g == k)=false:=beq_eq_false_iff_ne.mpr h
    simp only[List.lookup,hb,if_neg (fun e:g=f=>h (e.trans hk.symm))]
  ·rw[if_neg hk]
   by_cases h:g=k
   ·have hb:(g == k)=true:=beq_iff_eq.mpr h
    simp only[List.lookup,hb,if_neg (fun e:g=f=>hk (h.symm.trans e))]
   ·have hb:(g == k)=false:=beq_eq_false_iff_ne.mpr h
    simp only[List.lookup,hb]
    exact ih
theorem UC (f:Str) (v:V):∀fs:List (Str × V),f∈(putF f v fs).map (·.1)∧∀g,g∈fs.map (·.1)->g∈(putF f v fs).map (·.1)
 |[]=>⟨by simp[putF],fun g h=>by simp at h⟩
 |(k,x)::r=>by
  obtain ⟨i1,i2⟩:=UC f v r
  rw[show putF f v ((k,x)::r)=(if k=f then (k,v)::r else (k,x)::putF f v r) from rfl]
  by_cases hk:k=f
  ·rw[if_pos hk]
   subst hk
   exact ⟨by simp,fun g h=>by simpa using h⟩
  ·rw[if_neg hk]
   refine ⟨?_,fun g h=>?_⟩
   ·rw[List.map_cons]
    exact List.mem_cons_of_mem _ i1
   ·rw[List.map_cons]at h ⊢
    rcases List.mem_cons.mp h with e|e
    ·exact List.mem_cons.mpr (.inl e)
    ·exact List.mem_cons_of_mem _ (i2 g e)
theorem UT (f:Str) (v:V):∀fs:List (Str × V),(putF f v fs).length<=fs.length+1
 |[]=>by simp[putF]
 |(k,x)::r=>by
  have ih:=UT f v r
  rw[show putF f v ((k,x)::r)=(if k=f then (k,v)::r else (k,x)::putF f v r) from rfl]
  by_cases hk:k=f
  ·rw[if_pos hk,List.length_cons,List.length_cons]; omega
  ·rw[if_neg hk,List.length_cons,List.length_cons]; omega
theorem RelO.some_of {v:V} {o:Option Value} (r:RelO (some v) o):∃u,o=some u∧RelV v u:=by
 cases o with
 |none=>exact (show False from r).elim
 |some u=>exact ⟨u,rfl,r⟩
theorem RelO.none_of {o:Option Value} (r:RelO none o):o=none:=by
 cases o with
 |none=>rfl
 |some u=>exact (show False from r).elim
theorem handed_of {v:V} {u:Value} (r:RelV v u):PySem.W.handedIn u=true:=by
 cases v with
 |non=>cases (show u=Value.none from r); rfl
 |bl b=>cases (show u=Value.bool b from r); rfl
 |int i=>obtain ⟨t,e⟩:=(show ∃t,u=Value.int i t from r); cases e; rfl
 |str x=>obtain ⟨t,e⟩:=(show ∃t,u=Value.str x t from r); cases e; rfl
 |byt b=>obtain ⟨t,e⟩:=(show ∃t,u=Value.bytes b t from r); cases e; rfl
 |flt b=>obtain ⟨t,e⟩:=(show ∃t,u=Value.float b t from r); cases e; rfl
 |ref a=>cases (show u=Value.ref a from r); rfl
 |ty n=>cases (show u=Value.type n from r); rfl
section
variable {P:Program} {w:World} {H H':Hp} {h h':Heap} {a C dx:Addr} {fs fs':List (Str × V)}
theorem Ti (hok:HOk P w H h) (e:H a=some (.ins C dx fs)):∃mA,ObjM h a dx C mA∧(∀f,RelO (fs.lookup f) (mA f))∧PySem.Within mA (fs.map (·.1))∧fs.length<=1000∧H dx=some (.own a):=by
 obtain ⟨d,z,ne,ob,mA,n,r,q⟩:=(show ObjOk P w H h a (.ins C dx fs) from hok a _ e)
 exact ⟨mA,⟨ob,n,ne⟩,r,q,z,d⟩
end
structure Cls (K:PySem.W.Frag) (C:Addr):Prop where
 pg:PySem.W.plainGet K C Str.empty=true
 hd:PySem.W.hasDictIn K C=true
 po:PySem.W.plainOver K C=true
 sa:PySem.W.findIn K (.ref C) "__setattr__"=some (some (.builtin "object.__setattr__"))
theorem Cls.get {K:PySem.W.Frag} {C:Addr} (c:Cls K C) (f:Str):PySem.W.plainGet K C f=true:=c.pg
def NoAttr (K:PySem.W.Frag) (C:Addr) (f:Str):Prop:=PySem.W.findIn K (.ref C) f=some none
theorem NoAttr.taker {K:PySem.W.Frag} {C:Addr} {f:Str} (n:NoAttr K C f):PySem.W.takerIn K C f=some none:=by
 unfold PySem.W.takerIn
 rw[show PySem.W.findIn K (.ref C) f=some none from n]
 rfl
structure Con (K:PySem.W.Frag) (C:Addr) (f:Str) (v:V) (u:Value):Prop where
 at_:PySem.W.findIn K (.ref C) f=some (some u)
 rel:RelV v u
 get:PySem.W.specialIn K u "__get__"=some none
 cp:PySem.W.copiedNames.contains f=false
structure Meth (K:PySem.W.Frag) (C:Addr) (m:Str) (f:Addr):Prop where
 at_:PySem.W.findIn K (.ref C) m=some (some (.ref f))
 fn:PySem.W.isFn K (.ref f)=true
 kp:PySem.W.keepIn K (.ref f)=true
section
variable {X:Cx} {pins:List (Addr × Obj)} {σ:St} {H:Hp} {s:Shared} {a C dx:Addr} {fs:List (Str × V)} {f:Str} {v:V} {A:Around} {E:Value->Shared->Prop}
theorem getattr_ok {b : Bool} {Q : Value -> Shared -> Prop} (I : Inv X pins σ H s) (e : H a = some (.ins C dx fs)) (c : Cls X.K C) (n : NoAttr X.K C f) (l : fs.lookup f = some v)
    (h:∀u s',Inv X pins σ H s'->RelV v u->Q u s'):wpAny (model X.prog X.w) A (getAttr (.ref a) f b) Q E s:=by
  obtain ⟨mA,O,r,_,_,_⟩:=Ti I.hok e
  obtain ⟨u,hu,ru⟩:=RelO.some_of (v:=v) (o:=mA f) (by rw[← l]; exact r f)
  exact get_map I.kIn O (c.get f) c.hd n hu (handed_of ru) (h u _ (I.tok _) ru)
theorem TZ {m : Str} {g : Addr} {pl : Sem Bool} {Q : Value × List Value -> Shared -> Prop} (I : Inv X pins σ H s) (e : H a = some (.ins C dx fs)) (c : Cls X.K C) (k : Meth X.K C m g) (l : fs.lookup m = none)
    (h:Q (.ref g,[.ref a]) s):wpAny (model X.prog X.w) A (getMethod (.ref a) m pl) Q E s:=by
  obtain ⟨mA,O,r,_,_,_⟩:=Ti I.hok e
  have hn:mA m=none:=RelO.none_of (by rw[← l]; exact r m)
  exact get_meth I.kIn O (c.get m) k.at_ k.fn hn h
theorem setattr_ok {y : V} {u : Value} {Q : Unit -> Shared -> Prop} (I : Inv X pins σ H s) (e : H a = some (.ins C dx fs)) (c : Cls X.K C) (n : NoAttr X.K C f) (hl : fs.length < 1000) (ry : RelV y u)
    (h:∀s',Inv X pins σ (upd H a (.ins C dx (putF f y fs))) s'->Q () s'):wpAny (model X.prog X.w) A (setAttr (.ref a) f u) Q E s:=by
  obtain ⟨mA,O,r,wi,_,ho⟩:=Ti I.hok e
  have hz:(fs.map (·.1)).length<=sizeLine:=by rw[List.length_map,sizeLine_eq]; omega
  refine set_map I.kIn O c.sa c.po n.taker c.hd wi hz fun h' O' sb=>h _ ?_
  have hd:∃o,h'.get? dx=some o:=let ⟨o,_,_,e',_⟩:=O'.ns; ⟨o,e'⟩
  refine I.write (x:=a) (e:=dx) (by rw[e]; exact True.intro) (.inr ho) (fun b q hb z=>(sb.2 b hb).trans z) hd ?_
  refine ⟨by rw[Zp O.ne]; exact ho,?_,O.ne,O'.obj,_,O'.ns,fun g=>?_,fun g hg=>?_⟩
  · have:=UT f y fs; omega
  · show RelO ((putF f y fs).lookup g) (if g=f then some u else mA g)
    rw[U3]
    by_cases q:g=f
    · rw[if_pos q,if_pos q]; exact ry
    · rw[if_neg q,if_neg q]; exact r g
  · by_cases q:g=f
    · rw[q]; exact (UC f y fs).1
    · refine (UC f y fs).2 g (wi g fun z=>hg ?_)
      show (if g=f then some u else mA g)=none
      rw[if_neg q]; exact z
theorem Inv.made (I : Inv X pins σ H s) : Inv X pins σ (upd (upd H s.heap.objs.size (.own (s.heap.objs.size + 1))) (s.heap.objs.size + 1) (.ins C s.heap.objs.size []))
    { s with heap:=(s.heap.push PySem.W.emptyDict).push (PySem.W.instObj C s.heap.objs.size) }:=by
  have e1:(s.heap.push PySem.W.emptyDict).get? s.heap.objs.size=some PySem.W.emptyDict:=Heap.get?_push_size s.heap rfl
  have e2:((s.heap.push PySem.W.emptyDict).push (PySem.W.instObj C s.heap.objs.size)).get? (s.heap.objs.size+1)=some (PySem.W.instObj C s.heap.objs.size):=by
    have:=Heap.get?_push_size (s.heap.push PySem.W.emptyDict) (o:=PySem.W.instObj C s.heap.objs.size) rfl
    rwa [Heap.size_push]at this
  have e3:(s.heap.push PySem.W.emptyDict).Ns s.heap.objs.size (fun _=>none):=⟨PySem.W.emptyDict,#[],_,e1,rfl,(fun e he=>absurd he (by simp)),fun _=>rfl⟩
  have I1:=I.laid (a:=s.heap.objs.size) (o:=.own (s.heap.objs.size+1)) (h':=s.heap.push PySem.W.emptyDict) (t':=s.toks) (fun b u q=>Heap.get?_push_of_some _ q) (Nat.le_refl _) ⟨_,e1⟩
  refine I1.laid (a:=s.heap.objs.size+1) (o:=.ins C s.heap.objs.size []) (t':=s.toks) (fun b u q=>Heap.get?_push_of_some _ q) (Nat.le_of_eq (Heap.size_push _ _)) ?_
  have ne:s.heap.objs.size≠s.heap.objs.size+1:=Nat.ne_of_lt (Nat.lt_succ_self _)
  refine ⟨by rw[Zp ne,ZA],Nat.zero_le _,ne,e2,fun _=>none,(Heap.Ns1.of_empty e3).at fun o q=>Heap.get?_push_of_some _ q,fun _=>True.intro,fun y hy=>absurd rfl hy⟩
theorem attr_of {prog : Program} {w : World} {env : Env} {e : Expr} {f : Str} {pos : Pos} {s : Shared} {Q : Value -> Shared -> Prop} (hb : attributeBase e f env (eval e env) = eval e env)
    (h:wpAny (model prog w) A (eval e env) (fun o s₁=>wpAny (model prog w) A (getAttr o f true) Q E s₁) E s):wpAny (model prog w) A (eval (.Attribute e f pos) env) Q E s :=
  Attribute_any_ h (by rw[arm_eval_Attribute,hb])
end
def tFld (K:PySem.W.Frag) (ta:TE) (f:Str):TE:=fun σ H Q=>ta σ H fun x H1=>∃a C dx fs v,x=.ref a∧H1 a=some (.ins C dx fs)∧Cls K C∧NoAttr K C f∧fs.lookup f=some v∧Q v H1
def sFld (K:PySem.W.Frag) (ta tv:TE) (f:Str):TS:=fun D σ H=>tv σ H fun y H1=>ta σ H1 fun x H2=>∃a C dx fs,x=.ref a∧H2 a=some (.ins C dx fs)∧Cls K C∧NoAttr K C f∧fs.length < 1000 ∧
 D.nx σ (upd H2 a (.ins C dx (putF f y fs)))
section
variable {X:Cx} {o e value:Expr} {f:Str} {pos pos' tpos:Pos} {ta tv:TE}
theorem pe_fld (he:PE X e ta) (hb:attributeBase e f X.env (eval e X.env)=eval e X.env):PE X (.Attribute e f pos) (tFld X.K ta f):=by
 intro pins s σ H Q I h
 refine attr_of hb (thn (he pins s σ H _ I h) fun u s1 ⟨x,H1,I1,rx,a,C,dx,fs,v,ex,ea,c,n,l,q⟩=>?_)
 subst ex
 obtain rfl:u=Value.ref a:=rx
 exact getattr_ok I1 ea c n l fun u' s2 I2 ru=>⟨v,H1,I2,ru,q⟩
theorem ps_fld (ha:PE X o ta) (hv:PE X value tv) (hs:swapsWith value (some (.Attribute o f pos')) pos.line X.env=pure false):PS X (.Assign [.Attribute o f pos'] value pos) (sFld X.K ta tv f):=by
 intro pins s σ H D I h
 refine plainObj_wpAny_Assign_Attribute (thn (hv pins s σ H _ I h) fun u s1 ⟨y,H1,I1,ry,q⟩=>thn (ha pins s1 σ H1 _ I1 q) fun ov s2 ⟨x,H2,I2,rx,a,C,dx,fs,ex,ea,c,n,l,q2⟩=>?_) hs
 subst ex
 obtain rfl:ov=Value.ref a:=rx
 exact setattr_ok I2 ea c n l ry fun s3 I3=>⟨σ,_,I3,q2⟩
end
section
variable {X:Cx} {pins:List (Addr × Obj)} {σ:St} {H:Hp} {s:Shared} {A:Around} {E:Value->Shared->Prop} {Q:Value->Shared->Prop} {c:Value} {b:Bool}
inductive TyOf (K:PySem.W.Frag) (H:Hp):V->Value->Prop where
  |non:TyOf K H .non (.type "NoneType")
  |bl (x:Bool):TyOf K H (.bl x) (.type "bool")
  |int (i:Int):TyOf K H (.int i) (.type "int")
  |str (x:Str):TyOf K H (.str x) (.type "str")
  |flt (x:UInt64):TyOf K H (.flt x) (.type "float")
  |lst {a:Addr} {xs:List V} (e:H a=some (.lst xs)):TyOf K H (.ref a) (.type "list")
  |frz {a:Addr} {o:Obj} {xs:List V} (e:H a=some (.frz o (.lst xs))):TyOf K H (.ref a) (.type "list")
  |mtup {a:Addr} {o:Obj} (e:K.lookup a=some o) (hc:o.cls=.type "tuple"):TyOf K H (.ref a) (.type "tuple")
  |tup {a:Addr} {xs:List V} (e:H a=some (.tup xs)):TyOf K H (.ref a) (.type "tuple")
  |dK {a:Addr} {kvs:List (Key × V)} (e:H a=some (.dK kvs)):TyOf K H (.ref a) (.type "dict")
  |dT {a:Addr} {kvs:List (List Key × V)} (e:H a=some (.dT kvs)):TyOf K H (.ref a) (.type "dict")
  | ins {a C dx : Addr} {fs : List (Str × V)} (e : H a = some (.ins C dx fs)) (cl : Cls K C) (ha : PySem.W.findIn K (.ref C) "__class__" = some (some (.builtin "object.__class__")))
      (hn:PySem.W.specialIn K (.builtin "object.__class__") "__get__"=some (some (.builtin "getset_descriptor.__get__"))) (htk:PySem.W.takesIn K (.builtin "object.__class__")=some true)
      (hm:PySem.W.mroIn K C (.type "object")=some true):TyOf K H (.ref a) (.ref C)
theorem isinst_ok {x : V} {u t : Value} (I : Inv X pins σ H s) (rx : RelV x u) (ty : TyOf X.K H x t) (e : PySem.W.kitOne X.K t c = some b) (h : ∀ tk,Q (.bool b) { s with toks:=tk }) :
    wpAny (model X.prog X.w) A (call (.builtin "isinstance") [u,c]) Q E s:=by
  cases ty with
  |non=>cases (show u=Value.none from rx); exact PySem.W.kia_one PySem.W.kitx_none I.kIn True.intro e (fun z=>nomatch z) h
  |bl y=>cases (show u=Value.bool y from rx); exact PySem.W.kia_one PySem.W.kitx_bool I.kIn True.intro e (fun z=>nomatch z) h
  |int i=>obtain ⟨t,q⟩:=(show ∃t,u=Value.int i t from rx); cases q; exact PySem.W.kia_one PySem.W.kitx_int I.kIn True.intro e (fun z=>nomatch z) h
  |str y=>obtain ⟨t,q⟩:=(show ∃t,u=Value.str y t from rx); cases q; exact PySem.W.kia_one PySem.W.kitx_str I.kIn True.intro e (fun z=>nomatch z) h
  |flt y=>obtain ⟨t,q⟩:=(show ∃t,u=Value.float y t from rx); cases q; exact PySem.W.kia_one PySem.W.kitx_float I.kIn True.intro e (fun z=>nomatch z) h
  |@lst a xs ea =>
    cases (show u=Value.ref a from rx)
    obtain ⟨_,_,n,_,h1⟩:=(show ObjOk X.prog X.w H s.heap a (.lst xs) from I.hok a _ ea)
    exact PySem.W.kia_one PySem.W.kitx_list I.kIn ⟨_,h1,rfl⟩ e (fun z=>nomatch z) h
  |@frz a ob xs ea =>
    cases (show u=Value.ref a from rx)
    obtain ⟨_,_,_,n,_,h1⟩:=(show ObjOk X.prog X.w H s.heap a (.frz ob (.lst xs)) from I.hok a _ ea)
    exact PySem.W.kia_one PySem.W.kitx_list I.kIn ⟨_,h1,rfl⟩ e (fun z=>nomatch z) h
  |@mtup a o ea hc =>
    cases (show u=Value.ref a from rx)
    exact PySem.W.kia_one PySem.W.kitx_tuple I.kIn ⟨o,I.kIn a o ea,hc⟩ e (fun z=>nomatch z) h
  |@tup a xs ea =>
    cases (show u=Value.ref a from rx)
    obtain ⟨_,_,_,p⟩:=(show ObjOk X.prog X.w H s.heap a (.tup xs) from I.hok a _ ea)
    obtain ⟨o,h1,h2,_⟩:=p
    exact PySem.W.kia_one PySem.W.kitx_tuple I.kIn ⟨o,h1,h2⟩ e (fun z=>nomatch z) h
  |@dK a kvs ea =>
    cases (show u=Value.ref a from rx)
    obtain ⟨_,_,vs,_,p⟩:=(show ObjOk X.prog X.w H s.heap a (.dK kvs) from I.hok a _ ea)
    obtain ⟨o,es,ep,h1,h2,_⟩:=p
    exact PySem.W.kia_one PySem.W.kitx_dict I.kIn ⟨o,h1,h2.1⟩ e (fun z=>nomatch z) h
  |@dT a kvs ea =>
    cases (show u=Value.ref a from rx)
    obtain ⟨_,_,xs,_,o,es,ep,h1,h2,_⟩:=(show ObjOk X.prog X.w H s.heap a (.dT kvs) from I.hok a _ ea)
    exact PySem.W.kia_one PySem.W.kitx_dict I.kIn ⟨o,h1,h2.1⟩ e (fun z=>nomatch z) h
  |@ins a C dx fs ea cl ha hn htk hm =>
    cases (show u=Value.ref a from rx)
    obtain ⟨mA,O,_⟩:=Ti I.hok ea
    obtain ⟨od,J,_⟩:=O.look
    exact PySem.W.kia_one (PySem.W.kitx_own (cl.get _) cl.hd ha hn htk hm) I.kIn J e (fun z=>nomatch z) h
end
end L2
namespace L2
open PySem PySem.Spec PyProof.Rows
structure Room (k:Nat) (A:Around):Prop where
 hd:A.handled=none
 dp:A.depth+3 * k+5 < recursionLimit
 un:A.units+16 * k+200 < cLine
theorem Room.mono {j k:Nat} {A:Around} (r:Room k A) (h:j<=k):Room j A:=⟨r.hd,by have:=r.dp; omega,by have:=r.un; omega⟩
theorem Room.deeper {k:Nat} {A:Around} (r:Room (k+1) A) (env:Env):Room k (A.deeper env) :=
 ⟨r.hd,by have:=r.dp; show A.depth+1+3 * k+5 < _; omega,by have:=r.un; show A.units+3+16 * k+200 < _; omega⟩
theorem make_depth {A:Around} {C:Addr} {us:List Value} {kw:List (Str × Value)}:(A.under (.builtin "type.__call__" ⟨.ref C::us,kw⟩)).depth=A.depth+1:=by
 first|rfl|simp[Around.under,Code.weight,Code.isCreation,Code.isGuard,Code.isCaller,Code.frames,Code.isFrame,guardIds]
theorem make_units {A:Around} {C:Addr} {us:List Value} {kw:List (Str × Value)}:(A.under (.builtin "type.__call__" ⟨.ref C::us,kw⟩)).units=A.units+1:=by
 first|rfl|simp[Around.under,Code.cUnits,Code.frames,Code.isFrame]
theorem Room.make {k:Nat} {A:Around} (r:Room (k+1) A) (C:Addr) (us:List Value) (kw:List (Str × Value)):Room k (A.under (.builtin "type.__call__" ⟨.ref C::us,kw⟩)) :=
 ⟨r.hd,by have:=r.dp; rw[make_depth]; omega,by have:=r.un; rw[make_units]; omega⟩
theorem Room.depth {k:Nat} {A:Around} (r:Room k A):A.depth < recursionLimit:=by have:=r.dp; omega
theorem Room.units {k:Nat} {A:Around} (r:Room k A):A.units+64 < cLine:=by have:=r.un; omega
def tNil:TA:=fun _ H Q=>Q [] H
def tCons (ta:TE) (tr:TA):TA:=fun σ H Q=>ta σ H fun x H1=>tr σ H1 fun xs H2=>Q (x::xs) H2
section
variable {X:Cx} {e:Expr} {es:List Expr} {te:TE} {t:TA} {pos:Pos}
theorem UH:PA X [] tNil:=fun _ _ _ _ H Q I h=>Calls.spliced_nil ⟨[],H,I,.nil,h⟩
theorem Wn (ha:PE X e te) (hr:PA X es t) (hs:starEach (e::es) X.env=(false,eval e X.env)::starEach es X.env:=by rfl):PA X (e::es) (tCons te t):=by
 intro pos pins s σ H Q I h
 rw[hs]
 show wpAny _ _ (spliced ((false,eval e X.env)::backTo pos (starEach es X.env))) _ _ s
 refine Calls.spliced_cons (thn (ha pins s σ H _ I h) fun u s1 ⟨x,H1,I1,r1,q1⟩=>?_)
 exact thn (hr pos pins s1 σ H1 _ I1 q1) fun us s2 ⟨xs,H2,I2,r2,q2⟩=>⟨x::xs,H2,I2,.cons r1 r2,q2⟩
def tTup (t:TA):TE:=fun σ H Q=>t σ H fun xs H1=>xs.length<=sizeLine∧∀p,H1 p=none->Q (.ref p) (upd H1 p (.tup xs))
def tLst (t:TA):TE:=fun σ H Q=>t σ H fun xs H1=>xs.length<=sizeLine∧∀p,H1 p=none->Q (.ref p) (upd H1 p (.lst xs))
theorem pe_tup {x1} (h:PA X es t):PE X (.Tuple es x1 pos) (tTup t):=by
 intro pins s σ H Q I hq
 refine wpAny_Tuple_spliced (thn (h pos pins s σ H _ I hq) fun us s1 ⟨xs,H1,I1,r,z,q⟩=>⟨by rw[← r.length]; exact z,?_⟩)
 have hf:H1 s1.heap.objs.size=none:=I1.hok.fresh (Nat.le_refl _)
 refine ⟨.ref s1.heap.objs.size,upd H1 s1.heap.objs.size (.tup xs),I1.laid (t':=s1.toks) (fun b u e=>Heap.get?_push_of_some _ e) (Nat.le_refl _) ?_,rfl,q _ hf⟩
 exact ⟨z,us,r,⟨_,Heap.get?_push_size _ rfl,rfl,_,rfl⟩⟩
theorem pe_lst (h:PA X es t):PE X (.List es pos) (tLst t):=by
 intro pins s σ H Q I hq
 refine wpAny_List_spliced (thn (h pos pins s σ H _ I hq) fun us s1 ⟨xs,H1,I1,r,z,q⟩=>⟨by rw[← r.length]; exact z,?_⟩)
 have hf:H1 s1.heap.objs.size=none:=I1.hok.fresh (Nat.le_refl _)
 refine ⟨.ref s1.heap.objs.size,upd H1 s1.heap.objs.size (.lst xs),I1.laid (t':=s1.toks) (fun b u e=>Heap.get?_push_of_some _ e) (Nat.le_refl _) ?_,rfl,q _ hf⟩
 exact ⟨z,us,0,r,Heap.get?_push_size _ rfl⟩
end
abbrev Sp:=List V->Hp->VK->XK->Prop
abbrev CXT:=List Env->Hp->Shared->XK->Value->Shared->Prop
structure Env0 (P:Program) (w:World) (K:PySem.W.Frag) (mg:Str->Option Value) (base:Heap) (A:Around) (outer:List Env) (s:Shared) (H:Hp):Prop where
 frames:A.frames=some outer
 mod:Mod K mg base
 bs:∀b o,base.get? b=some o->s.heap.get? b=some o∧H b=none
 bsz:base.objs.size<=s.heap.objs.size
 funs:s.heap.FunFrames base outer
 frf:∀b∈frs outer,H b=none
 hok:HOk P w H s.heap
 bare:AllBare s.gens
def CE (outer:List Env) (P:Program) (w:World) (H:Hp) (s:Shared) (Q:VK) (u:Value) (s':Shared):Prop :=
 ∃v H',s'.os=s.os∧AllBare s'.gens∧Un (frs outer) [] H H' s.heap s'.heap∧HOk P w H' s'.heap∧RelV v u∧Q v H'
def CR (CX:CXT) (outer:List Env) (P:Program) (w:World) (H:Hp) (s:Shared) (Q:VK) (E:XK) (r:Result) (s':Shared):Prop :=
 match r with
 |.ok (.ret u)=>CE outer P w H s Q u s'
 |.ok _=>False
 |.error e=>CX outer H s E e s'
structure FnOk (P:Program) (w:World) (K:PySem.W.Frag) (mg:Str->Option Value) (base:Heap) (CX:CXT) (k:Nat) (f:Addr) (fd:FuncData) (ps:List Str) (sp:Sp):Prop where
 len:∀vs H Q E,sp vs H Q E->vs.length=ps.length
 run:∀(A:Around) (outer:List Env) (s:Shared) (H:Hp) (args:Args) (us:List Value) (vs:List V) (Q:VK) (E:XK),Room k A->Env0 P w K mg base A outer s H->BindsTo s fd args (ps.zip us)->Vals vs us->sp vs H Q E ->
  codeAny (model P w) A (.call (.ref f) args) (CR CX outer P w H s Q E) s
theorem FnOk.imp {P : Program} {w : World} {K : PySem.W.Frag} {mg : Str -> Option Value} {base : Heap} {CX : CXT} {k : Nat} {f : Addr} {fd : FuncData} {ps : List Str} {sp sp' : Sp} (F : FnOk P w K mg base CX k f fd ps sp)
    (h:∀vs H Q E,sp' vs H Q E->sp vs H Q E):FnOk P w K mg base CX k f fd ps sp' :=
  ⟨fun vs H Q E q=>F.len vs H Q E (h _ _ _ _ q),fun A outer s H args us vs Q E hr he hb hv hs=>F.run A outer s H args us vs Q E hr he hb hv (h _ _ _ _ hs)⟩
theorem Env0.make {P : Program} {w : World} {K : PySem.W.Frag} {mg : Str -> Option Value} {base : Heap} {A : Around} {outer : List Env} {s : Shared} {H : Hp} (e : Env0 P w K mg base A outer s H) (C : Addr) (us : List Value) (kw : List (Str × Value)) :
    Env0 P w K mg base (A.under (.builtin "type.__call__" ⟨.ref C::us,kw⟩)) outer s H:=⟨by first|exact e.frames|(simpa [Around.under,Code.envs,Code.isFrame,pushEnvs] using e.frames),e.mod,e.bs,e.bsz,e.funs,e.frf,e.hok,e.bare⟩
section
variable {X:Cx} {pins:List (Addr × Obj)} {σ:St} {H:Hp} {s s':Shared}
theorem Inv.env0 (I:Inv X pins σ H s):Env0 X.prog X.w X.K X.mg X.base X.A X.stack s H :=
 ⟨I.ok.frames,I.ok.mod,I.bs,Nat.le_trans I.ok.bsz I.sz,I.stack,I.stkFree,I.hok,I.bare⟩
theorem Inv.after {Q:VK} {u:Value} (I:Inv X pins σ H s) (h:CE X.stack X.prog X.w H s Q u s'):EP X pins σ Q u s':=by
 obtain ⟨v,H',os,bare,un,hok,r,q⟩:=h
 obtain ⟨hh,g,d,t,os'⟩:=s'
 obtain rfl:os'=s.os:=os
 exact ⟨v,H',I.call (h':=hh) (g':=g) (d':=d) (t':=t) (ch:=[]) un hok bare (fun b z=>absurd z (by simp)),r,q⟩
end
def tCall (sp:Sp) (dvs:List V) (E:XK) (t:TA):TE:=fun σ H Q=>t σ H fun vs H1=>sp (vs++dvs) H1 Q E
def tMeth (C:Addr) (m:Str) (sp:Sp) (dvs:List V) (E:XK) (ta:TE) (t:TA):TE:=fun σ H Q=>ta σ H fun x H1=>∃a dx fs,x=.ref a∧H1 a=some (.ins C dx fs)∧fs.lookup m=none ∧
 t σ H1 fun vs H2=>sp (x::(vs++dvs)) H2 Q E
def tMake (C:Addr) (sp:Sp) (dvs:List V) (E:XK) (t:TA):TE:=fun σ H Q=>t σ H fun vs H1=>∀x dx,H1 x=none->H1 dx=none->dx≠x ->
 sp (.ref x::(vs++dvs)) (upd (upd H1 dx (.own x)) x (.ins C dx [])) (fun v H2=>v=.non∧Q (.ref x) H2) E
def Binds (K:PySem.W.Frag) (fd:FuncData) (ps:List Str) (ds:List Value):Prop :=
 ∀(s:Shared) (us:List Value),K.In s.heap->(us++ds).length=ps.length->BindsTo s fd ⟨us,[]⟩ (ps.zip (us++ds))
theorem Binds.all {K:PySem.W.Frag} {fd:FuncData} {ps:List Str} (h:∀us:List Value,us.length=ps.length->bindArgs fd ⟨us,[]⟩=pure (ps.zip us)):Binds K fd ps []:=fun s us _ hl=>by
 rw[List.append_nil]at hl ⊢
 exact .of_eq (h us hl)
def Xn (CX:CXT) (X:Cx) (E:XK):Prop:=∀(pins:List (Addr × Obj)) (σ:St) (H:Hp) (s:Shared) (e:Value) (s':Shared),Inv X pins σ H s->CX X.stack H s E e s'->X.xe e s'
section
variable {X:Cx} {CX:CXT} {k:Nat} {f C:Addr} {fd:FuncData} {ps:List Str} {sp:Sp} {dvs:List V} {ds:List Value} {E:XK} {x m:Str} {p pos apos:Pos} {e o:Expr} {es:List Expr} {ta:TE} {t:TA}
theorem run_fn {pins : List (Addr × Obj)} {σ : St} {H : Hp} {s : Shared} {Q : VK} {us : List Value} {vs : List V} (F : FnOk X.prog X.w X.K X.mg X.base CX k f fd ps sp) (hr : Room k X.A) (hb : Binds X.K fd ps ds) (hd : Vals dvs ds) (hx : Xn CX X E)
    (I:Inv X pins σ H s) (r:Vals vs us) (h:sp (vs++dvs) H Q E):wpAny (model X.prog X.w) X.A (call (.ref f) us) (EP X pins σ Q) X.xe s:=by
  have r2:Vals (vs++dvs) (us++ds):=r.append hd
  have hl:(us++ds).length=ps.length:=by rw[← r2.length]; exact F.len _ _ _ _ h
  refine wpAny_call (codeAny_mono (F.run X.A X.stack s H ⟨us,[]⟩ (us++ds) (vs++dvs) Q E hr I.env0 (hb s us I.kIn hl) r2 h) fun r s' hq=>?_)
  cases r with
  |error e=>exact hx pins σ H s e s' I hq
  |ok fl =>
    cases fl with
    |ret u=>exact I.after hq
    |next=>exact False.elim hq
    |brk=>exact False.elim hq
    |cont=>exact False.elim hq
theorem pe_call (F : FnOk X.prog X.w X.K X.mg X.base CX k f fd ps sp) (hr : Room k X.A) (hg : Gl X x) (hm : X.mg x = some (.ref f)) (hk : PySem.W.keepIn X.K (.ref f) = true) (hb : Binds X.K fd ps ds) (hd : Vals dvs ds) (hx : Xn CX X E)
    (ha:PA X (e::es) t) (hdb:(x == ("__debug__":Str))=false:=by decide) (he:starEach (e::es) X.env=(false,eval e X.env)::starEach es X.env:=by rfl) (hpl:(backTo pos (starEach es X.env)).any (·.1)=false:=by rfl) :
    PE X (.Call (.Name x p) (e::es) [] pos) (tCall sp dvs E t):=by
  intro pins s σ H Q I h
  refine wpAny_Call_Name_kw (Te I hg hm ?_ hdb)
  refine PySem.W.callWith_K (h₀:=X.base) I.ok.mod.kin hk (thn (ha pos pins s σ H _ I h) fun us s1 ⟨vs,H1,I1,r,q⟩=>⟨I1.kIn,?_⟩) he hpl
  exact run_fn F hr hb hd hx I1 r q
theorem pe_meth {pl : Sem Bool} (he : PE X o ta) (c : Cls X.K C) (hm : Meth X.K C m f) (F : FnOk X.prog X.w X.K X.mg X.base CX k f fd ps sp) (hr : Room k X.A) (hb : Binds X.K fd ps ds) (hd : Vals dvs ds) (hx : Xn CX X E) (ha : PA X (e :: es) t)
    (hst:starEach (e::es) X.env=(false,eval e X.env)::starEach es X.env:=by rfl) (hpl:(backTo pos (starEach es X.env)).any (·.1)=false:=by rfl)
    (ht:eval (.Call (.Attribute o m apos) (e::es) [] pos) X.env=(do
      let ov ← eval o X.env
      standAt apos.atName
      let (f,first) ← holding [ov] (getMethod ov m pl)
      callWith pos f first (backTo pos (starEach (e::es) X.env)) (backToKw pos (keywordEach [] X.env))):=by rfl) :
    PE X (.Call (.Attribute o m apos) (e::es) [] pos) (tMeth C m sp dvs E ta t):=by
  intro pins s σ H Q I h
  refine PySem.W.methodCall_KW (pl:=pl) (thn (he pins s σ H _ I h) fun u s1 ⟨x,H1,I1,rx,a,dx,fs,ex,ea,l,q⟩=>?_) ht
  subst ex
  obtain rfl:u=Value.ref a:=rx
  refine TZ I1 ea c hm l ?_
  refine PySem.W.callWith_K (first:=[.ref a]) (h₀:=X.base) I.ok.mod.kin hm.kp (thn (ha pos pins s1 σ H1 _ I1 q) fun us s2 ⟨vs,H2,I2,r,q2⟩=>⟨I2.kIn,?_⟩) hst hpl
  exact run_fn (us:=.ref a::us) (vs:=.ref a::vs) F hr hb hd hx I2 (.cons rfl r) q2
theorem pe_meth0 {pl : Sem Bool} (he : PE X o ta) (c : Cls X.K C) (hm : Meth X.K C m f) (F : FnOk X.prog X.w X.K X.mg X.base CX k f fd ps sp) (hr : Room k X.A) (hb : Binds X.K fd ps ds) (hd : Vals dvs ds) (hx : Xn CX X E)
    (ht:eval (.Call (.Attribute o m apos) [] [] pos) X.env=(do
      let ov ← eval o X.env
      standAt apos.atName
      let (f,first) ← holding [ov] (getMethod ov m pl)
      callWith pos f first (backTo pos (starEach [] X.env)) (backToKw pos (keywordEach [] X.env))):=by rfl) :
    PE X (.Call (.Attribute o m apos) [] [] pos) (tMeth C m sp dvs E ta tNil):=by
  intro pins s σ H Q I h
  refine PySem.W.methodCall_KW (pl:=pl) (thn (he pins s σ H _ I h) fun u s1 ⟨x,H1,I1,rx,a,dx,fs,ex,ea,l,q⟩=>?_) ht
  subst ex
  obtain rfl:u=Value.ref a:=rx
  refine TZ I1 ea c hm l ?_
  exact PySem.W.callWith_K0 (first:=[.ref a]) I1.kIn hm.kp (run_fn (us:=[.ref a]) (vs:=[.ref a]) F hr hb hd hx I1 (.cons rfl .nil) q)
structure Mk (K:PySem.W.Frag) (C f:Addr):Prop where
 makes:PySem.W.makesIn K C=true
 init:PySem.W.findIn K (.ref C) "__init__"=some (some (.ref f))
 fn:PySem.W.isFn K (.ref f)=true
 kp:PySem.W.keepIn K (.ref C)=true
theorem run_make {pins : List (Addr × Obj)} {σ : St} {H : Hp} {s : Shared} {Q : VK} {us : List Value} {vs : List V} (M : Mk X.K C f) (F : FnOk X.prog X.w X.K X.mg X.base CX k f fd ps sp) (hr : Room (k + 1) X.A) (hb : Binds X.K fd ps ds) (hd : Vals dvs ds)
    (hx:Xn CX X E) (I:Inv X pins σ H s) (r:Vals vs us)
    (h:∀x dx,H x=none->H dx=none->dx≠x->sp (.ref x::(vs++dvs)) (upd (upd H dx (.own x)) x (.ins C dx [])) (fun v H2=>v=.non∧Q (.ref x) H2) E) :
    wpAny (model X.prog X.w) X.A (call (.ref C) us) (EP X pins σ Q) X.xe s:=by
  have hq:=h (s.heap.objs.size+1) s.heap.objs.size (I.hok.fresh (Nat.le_succ _)) (I.hok.fresh (Nat.le_refl _)) (Nat.ne_of_lt (Nat.lt_succ_self _))
  have I2:=Inv.made (C:=C) I
  have r2:Vals (V.ref (s.heap.objs.size+1)::(vs++dvs)) (Value.ref (s.heap.objs.size+1)::(us++ds)):=.cons rfl (r.append hd)
  have hl:(Value.ref (s.heap.objs.size+1)::us++ds).length=ps.length:=by
    have e:=r2.length
    rw[F.len _ _ _ _ hq]at e
    exact e.symm
  refine wpAny_call (make_map (f:=f) I.kIn M.makes M.init (beq_iff_eq.mp M.fn) (codeAny_mono (F.run _ X.stack _ _ ⟨Value.ref (s.heap.objs.size+1)::us,[]⟩ (Value.ref (s.heap.objs.size+1)::(us++ds)) _ _ E (hr.make C us [])
    (I2.env0.make C us []) (hb _ (Value.ref (s.heap.objs.size+1)::us) I2.kIn hl) r2 hq) fun r s' hq'=>?_))
  cases r with
  |error e=>exact hx pins σ _ _ e s' I2 hq'
  |ok fl =>
    cases fl with
    |ret u =>
      obtain ⟨v,H',I3,rv,ev,q3⟩:=I2.after hq'
      subst ev
      exact ⟨rv,⟨V.ref (s.heap.objs.size+1),H',I3,rfl,q3⟩⟩
    |next=>exact False.elim hq'
    |brk=>exact False.elim hq'
    |cont=>exact False.elim hq'
theorem pe_make (M : Mk X.K C f) (F : FnOk X.prog X.w X.K X.mg X.base CX k f fd ps sp) (hr : Room (k + 1) X.A) (hg : Gl X x) (hm : X.mg x = some (.ref C)) (hb : Binds X.K fd ps ds) (hd : Vals dvs ds) (hx : Xn CX X E)
    (ha:PA X (e::es) t) (hdb:(x == ("__debug__":Str))=false:=by decide) (he:starEach (e::es) X.env=(false,eval e X.env)::starEach es X.env:=by rfl) (hpl:(backTo pos (starEach es X.env)).any (·.1)=false:=by rfl) :
    PE X (.Call (.Name x p) (e::es) [] pos) (tMake C sp dvs E t):=by
  intro pins s σ H Q I h
  refine wpAny_Call_Name_kw (Te I hg hm ?_ hdb)
  refine PySem.W.callWith_K (h₀:=X.base) I.ok.mod.kin M.kp (thn (ha pos pins s σ H _ I h) fun us s1 ⟨vs,H1,I1,r,q⟩=>⟨I1.kIn,?_⟩) he hpl
  exact run_make M F hr hb hd hx I1 r q
end
section
variable {X:Cx} {CX:CXT} {k:Nat} {f C:Addr} {fd:FuncData} {ps ks:List Str} {sp:Sp} {E:XK} {x m:Str} {p pos apos kpos:Pos} {e o:Expr} {es:List Expr} {kws:List Keyword} {te ta:TE} {t tk:TA} {nm:Option Str}
structure KBinds (K:PySem.W.Frag) (fd:FuncData) (ps ks:List Str) (g:List Value->List Value->List Value) (gV:List V->List V->List V):Prop where
 to:∀(s:Shared) (us ws:List Value),K.In s.heap->(g us ws).length=ps.length->BindsTo s fd ⟨us,ks.zip ws⟩ (ps.zip (g us ws))
 rel:∀{vs:List V} {us:List Value} {zs:List V} {ws:List Value},Vals vs us->Vals zs ws->Vals (gV vs zs) (g us ws)
variable {g:List Value->List Value->List Value} {gV:List V->List V->List V}
end
structure FnScope (N P:List Str) (sc:Scope):Prop where
 kind:sc.kind=.function
 co:sc.isCoroutine=false
 gen:sc.isGenerator=false
 nd:N.Nodup
 pre:N.take P.length=P
 par:∀x∈P,sc.names.lookup x=some .local∨sc.names.lookup x=some .cell
 nofree:∀y∈sc.names,y.2≠.free
theorem RD {kindOf:Str->Option NameKind} {x:Str}:∀{binds:List (Str × Value)} {m:Str->Option Value},(∀v,(x,v) ∉ binds)->bindL kindOf binds m x=m x
 |[],_,_=>rfl
 |(n,v)::r,m,h=>by
  unfold bindL
  rw[RD fun w hw=>h w (List.mem_cons_of_mem _ hw)]
  split
  ·have:x≠n:=by rintro rfl; exact h v List.mem_cons_self
   simp[this]
  ·rfl
theorem Ry {kindOf:Str->Option NameKind} {x:Str}:∀{binds:List (Str × Value)} {m:Str->Option Value},(∀v,(x,v) ∉ binds)->bindC kindOf binds m x=m x
 |[],_,_=>rfl
 |(n,v)::r,m,h=>by
  unfold bindC
  rw[Ry fun w hw=>h w (List.mem_cons_of_mem _ hw)]
  split
  ·rfl
  ·have:x≠n:=by rintro rfl; exact h v List.mem_cons_self
   simp[this]
theorem SU {kindOf : Str -> Option NameKind} {x : Str} {v : Value} : ∀ {P : List Str} {vs : List Value} {i : Nat} {m : Str -> Option Value},P.Nodup -> P[i]? = some x -> vs[i]? = some v -> kindOf x = some .local ->
    bindL kindOf (P.zip vs) m x=some v
  |[],_,_,_,_,h,_,_=>by simp at h
  |_::_,[],_,_,_,_,h,_=>by simp at h
  |p::P,w::vs,0,m,nd,h1,h2,hk=>by
    simp at h1 h2; subst h1; subst h2
    show bindL kindOf ((p,w)::P.zip vs) m p=_
    unfold bindL
    rw[RD fun v hv=>(List.nodup_cons.mp nd).1 (List.of_mem_zip hv).1,if_pos hk]
    simp
  |p::P,w::vs,i+1,m,nd,h1,h2,hk=>by
    show bindL kindOf ((p,w)::P.zip vs) m x=_
    unfold bindL
    exact SU (i:=i) (List.nodup_cons.mp nd).2 (by simpa using h1) (by simpa using h2) hk
theorem SL {kindOf : Str -> Option NameKind} {x : Str} {v : Value} : ∀ {P : List Str} {vs : List Value} {i : Nat} {m : Str -> Option Value},P.Nodup -> P[i]? = some x -> vs[i]? = some v -> kindOf x ≠ some .local ->
    bindC kindOf (P.zip vs) m x=some v
  |[],_,_,_,_,h,_,_=>by simp at h
  |_::_,[],_,_,_,_,h,_=>by simp at h
  |p::P,w::vs,0,m,nd,h1,h2,hk=>by
    simp at h1 h2; subst h1; subst h2
    show bindC kindOf ((p,w)::P.zip vs) m p=_
    unfold bindC
    rw[Ry fun v hv=>(List.nodup_cons.mp nd).1 (List.of_mem_zip hv).1,if_neg hk]
    simp
  |p::P,w::vs,i+1,m,nd,h1,h2,hk=>by
    show bindC kindOf ((p,w)::P.zip vs) m x=_
    unfold bindC
    exact SL (i:=i) (List.nodup_cons.mp nd).2 (by simpa using h1) (by simpa using h2) hk
def start (N:List Str) (vs:List V):St:=vs.map some++List.replicate (N.length - vs.length) none
def SG (CX:CXT) (P:Program) (w:World) (K:PySem.W.Frag) (mg:Str->Option Value) (base:Heap) (N:List Str) (qual:Str) (scope:Scope) (f:Addr) (cd:Value) (A:Around) (outer:List Env) (s:Shared) (H:Hp) (E:XK):Cx where
 prog:=P
 w:=w
 K:=K
 mg:=mg
 base:=base
 A:=A.deeper (envOfC qual scope s.heap.objs.size f cd)
 N:=N
 s₀:=s
 H₀:=H
 env:=envOfC qual scope s.heap.objs.size f cd
 outer:=outer
 stack:=envOfC qual scope s.heap.objs.size f cd::outer
 ex:=[]
 calm:=true
 fn:=fun _=>true
 pn:=[]
 xe:=fun e s'=>wpAny (model P w) (A.deeper (envOfC qual scope s.heap.objs.size f cd)) (leaving (envOfC qual scope s.heap.objs.size f cd) e) (fun _ s''=>CX outer H s E e s'') (fun e' s''=>CX outer H s E e' s'') s'
theorem cell_has {sc:Scope} {n:Nat} {x:Str} (h:sc.names.lookup x=some .cell):∃c,(cellsFrom n sc.names []).lookup x=some c:=by
 have q:=PySem.W.cellsFrom_some sc.names n [] (.inl h)
 exact Option.isSome_iff_exists.mp q
theorem inv_start {CX : CXT} {P : Program} {w : World} {K : PySem.W.Frag} {mg : Str -> Option Value} {base : Heap} {N ps : List Str} {qual : Str} {scope : Scope} {f : Addr} {cd : Value} {A : Around} {outer : List Env} {s s1 : Shared} {H : Hp} {E : XK} {us : List Value} {vs : List V}
    (S:FnScope N ps scope) (hd:A.handled=none) (e0:Env0 P w K mg base A outer s H) (hl:vs.length=ps.length) (r:Vals vs us)
    (x:InCallC s s.heap.objs.size (bindL (envOfC qual scope s.heap.objs.size f cd).kindOf (ps.zip us) fun _=>none) (cellsFrom (s.heap.objs.size+1) scope.names []) (bindC (envOfC qual scope s.heap.objs.size f cd).kindOf (ps.zip us) fun _=>none) s1) :
    Inv (SG CX P w K mg base N qual scope f cd A outer s H E) [] (start N vs) H s1:=by
  have hpl:ps.length<=N.length:=by have:=congrArg List.length S.pre; rw[List.length_take]at this; omega
  obtain ⟨h1,tk,rfl,hk⟩:=x.done
  have noA:∀b:Addr,b ∉ (SG CX P w K mg base N qual scope f cd A outer s H E).ex:=fun b z=>absurd (show b∈([]:List Addr) from z) (by simp)
  refine ⟨⟨e0.mod,S.kind,rfl,rfl,Nat.le_refl _,fun y z c h1 h2=>?_,fun y hy=>?_,fun y c _ h=>?_,fun _=>hd,Around.frames_deeper e0.frames,.inr ⟨rfl,rfl⟩,fun b z=>absurd z (noA b),e0.bs,e0.bsz,fun b _ _=>noA b,fun b z=>absurd z (noA b),e0.funs,e0.frf⟩,
    rfl,e0.bare,Un.kept hk,⟨_,x.toInCall.ns,fun i y v h1 h2 h3=>?_⟩,fun y c h=>⟨_,x.cell y c h⟩,e0.hok.fresh (Nat.le_refl _),fun y c h=>?_,fun p hp=>absurd (show p∈([]:List (Addr × Obj)) from hp) (by simp),e0.hok.kept hk,?_⟩
  · exact name_of_addr x.apart (PySem.mem_of_lookup h1) (PySem.mem_of_lookup h2)
  · have hy:scope.names.lookup y=some .cell∨scope.names.lookup y=some .free:=hy
    rcases hy with hy|hy
    · exact cell_has hy
    · exact absurd rfl (S.nofree _ (PySem.mem_of_lookup hy))
  · exact Nat.le_of_lt (x.above y c (PySem.mem_of_lookup h))
  · have hi : i < vs.length:=by
      unfold start at h2
      by_cases hi:i < vs.length
      · exact hi
      · rw[List.getElem?_append_right (by simpa using hi)]at h2
        rw[List.getElem?_replicate]at h2
        split at h2 <;> cases h2
    have ha:vs[i]?=some v:=by
      unfold start at h2
      rw[List.getElem?_append_left (by simpa using hi),List.getElem?_map]at h2
      cases e:vs[i]? with
      |none=>rw[e]at h2; cases h2
      |some a=>rw[e]at h2; cases h2; rfl
    obtain ⟨u,hu,rv⟩:=r.get ha
    have hp:ps[i]?=some y:=by
      rw[← S.pre,List.getElem?_take_of_lt (by omega)]; exact h1
    have ndP:ps.Nodup:=by rw[← S.pre]; exact S.nd.sublist (List.take_sublist _ _)
    refine ⟨u,rv,?_⟩
    rcases S.par y (List.mem_of_getElem? hp) with k|k
    · exact .inl ⟨k,SU ndP hp hu k⟩
    · obtain ⟨c,e⟩:=cell_has (n:=s.heap.objs.size+1) k
      refine .inr ⟨.inl k,c,e,?_⟩
      have q:=x.cell y c e
      rw[SL ndP hp hu (by show scope.names.lookup y≠_; rw[k]; decide)]at q
      exact q
  · exact e0.hok.fresh (Nat.le_of_lt (x.above y c (PySem.mem_of_lookup h)))
  · unfold start
    show _=N.length
    rw[List.length_append,List.length_map,List.length_replicate]
    omega
theorem fn_of {CX : CXT} {P : Program} {w : World} {K : PySem.W.Frag} {mg : Str -> Option Value} {base : Heap} {k : Nat} {f : Addr} {name qual : Str} {params : Arguments} {body : List Stmt} {scope : Scope} {dV kV doc pm cdv ct oc : Value} {an od : Option Addr}
    {osl:Array (Option Value)} {N ps:List Str} {sp:Sp} (lk:K.lookup f=some ⟨oc,od,.func (PySem.W.fnOf name qual params body scope dV kV doc pm an cdv ct),osl⟩) (hcd:PySem.W.codeIn K cdv qual=true) (S:FnScope N ps scope)
    (len:∀vs H Q E,sp vs H Q E->vs.length=ps.length)
    (hbody:∀(A:Around) (outer:List Env) (s:Shared) (H:Hp) (vs:List V) (Q:VK) (E:XK),Room k (A.deeper (envOfC qual scope s.heap.objs.size f cdv))->sp vs H Q E ->
      ∃t,PSs (SG CX P w K mg base N qual scope f cdv A outer s H E) body t∧t { nx:=fun _ H'=>Q .non H',rt:=Q } (start N vs) H) :
    FnOk P w K mg base CX (k+1) f (PySem.W.fnOf name qual params body scope dV kV doc pm an cdv ct) ps sp:=by
  refine ⟨len,fun A outer s H args us vs Q E hr e0 hb r hsp=>?_⟩
  have hl:=len _ _ _ _ hsp
  have KX:K.In s.heap:=e0.mod.kin.keeps fun b o e=>(e0.bs b o e).1
  have lim:s.heap.NoLimit:=e0.mod.nolimit.keeps fun b o e=>(e0.bs b o e).1
  have hkind:∀y∈ps.zip us,scope.names.lookup y.1=some .local∨(scope.names.lookup y.1=some .cell∧((cellsFrom (s.heap.objs.size+1) scope.names []).lookup y.1).isSome=true):=fun ⟨n,v⟩ hy=>by
    rcases S.par n (List.of_mem_zip hy).1 with q|q
    · exact .inl q
    · exact .inr ⟨q,PySem.W.cellsFrom_some _ _ _ (.inl q)⟩
  refine codeAny_call_function hr.depth (KX _ _ lk) rfl S.co S.gen rfl (PySem.W.codeRec_of KX hcd) (hb _ _ _ _ ?_)
  refine wpAny_newFunctionEnv_cells S.kind hkind fun env he s1 x=>?_
  subst he
  refine ⟨lim.keeps x.toInCall.keep,codeAny_func ?_⟩
  obtain ⟨t,ht,hq⟩:=hbody A outer s H vs Q E (hr.deeper _) hsp
  have I:Inv (SG CX P w K mg base N qual scope f cdv A outer s H E) [] (start N vs) H s1:=inv_start S hr.hd e0 hl r x
  refine wpAny_mono (ht [] s1 (start N vs) H _ I hq) (fun fl s' hs=>?_) fun e s' hs=>hs
  have fin:∀{σ':St} {H':Hp} {v:V} {u:Value},Inv (SG CX P w K mg base N qual scope f cdv A outer s H E) [] σ' H' s'->RelV v u->Q v H'->CE outer P w H s Q u s' :=
    fun {σ' H' v u} J rv q=>⟨v,H',J.os,J.bare,J.base,J.hok,rv,q⟩
  cases fl with
  |ret u =>
    obtain ⟨v,σ',H',J,rv,q⟩:=hs
    exact fin J rv q
  |next =>
    obtain ⟨σ',H',J,q⟩:=hs
    exact fin (v:=V.non) (u:=Value.none) J rfl q
  |brk =>
    obtain ⟨_,_,_,q⟩:=hs
    exact False.elim q
  |cont =>
    obtain ⟨_,_,_,q⟩:=hs
    exact False.elim q
end L2
namespace L2
open PySem PySem.Spec PyProof.Rows
section
variable {X:Cx} {x:Str} {p pos:Pos} {e:Expr} {es:List Expr} {t:TA} {id T:String} {r:List V->Hp->VK->Prop}
def tCB (r:List V->Hp->VK->Prop) (t:TA):TE:=fun σ H Q=>t σ H fun vs H1=>r vs H1 Q
theorem Tq (hc : CallR X (.builtin id) r) (hg : Gl X x) (hm : X.mg x = none) (hv : bootBuiltins x = some (.builtin id)) (ha : PA X (e :: es) t) (hn : x ≠ "__name__" := by decide) (hdb : (x == ("__debug__" : Str)) = false := by decide)
    (he:starEach (e::es) X.env=(false,eval e X.env)::starEach es X.env:=by rfl) (hpl:(backTo pos (starEach es X.env)).any (·.1)=false:=by rfl):PE X (.Call (.Name x p) (e::es) [] pos) (tCB r t):=by
  intro pins s σ H Q I h
  refine wpAny_Call_Name_kw (ld_blt I hg hm hv ?_ hn hdb)
  exact PyProof.Rows.callWith_builtin1 (thn (ha pos pins s σ H _ I h) fun us s1 ⟨vs,H1,I1,r1,q1⟩=>hc pins s1 σ H1 vs us Q I1 r1 q1) he hpl
end
end L2
namespace HT
open PySem PyProof.Rows
section
open PySem.SeqAt
open PySem.AutoSeq1 (wpAny_loadPart')
open PySem.MeetsSeq PySem.MeetsSeq2 PySem.MeetsSeq3
end
section
variable {prog:Program} {w:World} {A:Around} {E:Value->Shared->Prop} {s:Shared}
def sIx (n d:Nat):Option Int->Nat
 |none=>d
 |some v=>if v < 0 then (v+(n:Int)).toNat else min v.toNat n
end
end HT
namespace L2
open PySem PySem.Spec PyProof.Rows
section
variable {X:Cx} {e:Expr} {te:TE} {lo hi:Option Expr} {tl th:TO} {pos p2:Pos}
end
end L2
namespace L2
open PySem PySem.Spec PyProof.Rows
def ixN (n:Nat) (i:Int):Option Nat:=if 0<=i then (if i < n then some i.toNat else none) else if -(n:Int)<=i then some (i+n).toNat else none
def atI {α:Type} (xs:List α) (i:Int):Option α:=(ixN xs.length i).bind fun j=>xs[j]?
theorem ixN_seq {n:Nat} {i:Int} {j:Nat} (h:ixN n i=some j):seqIndex? i n=some j∧j < n∧-(n:Int)<=i∧i < n:=by
 unfold ixN at h
 by_cases h0:0<=i
 ·rw[if_pos h0]at h
  by_cases h1:i < n
  ·rw[if_pos h1]at h
   have e:i.toNat=j:=Option.some.inj h
   exact ⟨by rw[seqIndex_of h0 h1,e],by omega,by omega,h1⟩
  ·rw[if_neg h1]at h; cases h
 ·rw[if_neg h0]at h
  by_cases h1:-(n:Int)<=i
  ·rw[if_pos h1]at h
   have e:(i+n).toNat=j:=Option.some.inj h
   exact ⟨by rw[seqIndex_neg (by omega) h1,e],by omega,h1,by omega⟩
  ·rw[if_neg h1]at h; cases h
theorem Qf {α:Type} {xs:List α} {i:Int} {v:α} (h:atI xs i=some v):∃j,seqIndex? i xs.length=some j∧xs[j]?=some v∧j < xs.length∧-(xs.length:Int)<=i∧i < xs.length:=by
 unfold atI at h
 cases e:ixN xs.length i with
 |none=>rw[e]at h; cases h
 |some j =>
  rw[e]at h
  obtain ⟨h1,h2,h3,h4⟩:=ixN_seq e
  exact ⟨j,h1,h,h2,h3,h4⟩
theorem atI_nat {α:Type} {xs:List α} {j:Nat} {v:α} (h:xs[j]?=some v):atI xs (j:Int)=some v:=by
 have hj:j < xs.length:=(List.getElem?_eq_some_iff.mp h).1
 have e:ixN xs.length (j:Int)=some j:=by
  unfold ixN
  rw[if_pos (by omega),if_pos (by omega)]; simp
 unfold atI; rw[e]; exact h
def Qh (b:Expr):Prop:=∀o i,subscripted b false o i=operate [o,i] (getItem o i)
def IxR (X:Cx) (r:R2):Prop :=
 ∀(value slice:Expr) (pins:List (Addr × Obj)) (s:Shared) (σ:St) (H:Hp) (x y:V) (v u:Value) (Q:VK),Inv X pins σ H s->RelV x v->RelV y u->r x y H Q ->
  subscripted slice false v u=operate [v,u] (getItem v u)->wpAny (model X.prog X.w) X.A (subscriptTail value slice v u) (EP X pins σ Q) X.xe s
def MtR (X:Cx) (id:String) (r:V->List V->Hp->VK->Prop):Prop :=
 ∀(pins:List (Addr × Obj)) (s:Shared) (σ:St) (H:Hp) (x:V) (xs:List V) (v:Value) (us:List Value) (Q:VK),Inv X pins σ H s->RelV x v->Vals xs us->r x xs H Q ->
  wpAny (model X.prog X.w) X.A (call (.builtin id) (v::us)) (EP X pins σ Q) X.xe s
section
variable {X:Cx} {a b:Expr} {ta tb:TE} {pos:Pos}
theorem IxR.or {r r':R2} (h:IxR X r) (h':IxR X r'):IxR X (fun x y H Q=>r x y H Q∨r' x y H Q):=by
 intro value slice pins s σ H x y v u Q I rx ry q hs
 rcases q with q|q
 ·exact h value slice pins s σ H x y v u Q I rx ry q hs
 ·exact h' value slice pins s σ H x y v u Q I rx ry q hs
theorem pe_ix {r:R2} (hr:IxR X r) (ha:PE X a ta) (hb:PE X b tb) (hs:Qh b):PE X (.Subscript a b pos) (tOp r ta tb):=by
 intro pins s σ H Q I h
 exact Subscript_ (binT ha hb I h fun v u s2 x y H2 I2 rx ry q=>hr a b pins s2 σ H2 x y v u Q I2 rx ry q (hs _ _))
def rIxL (K:PySem.W.Frag):R2:=fun x y H Q=>∃p xs i v,x=.ref p∧y=.int i∧SqL K H p xs∧atI xs i=some v∧Q v H
def rIxT (K:PySem.W.Frag):R2:=fun x y H Q=>∃p xs i v,x=.ref p∧y=.int i∧SqT K H p xs∧atI xs i=some v∧Q v H
def rIxS:R2:=fun x y H Q=>∃z i c,x=.str z∧y=.int i∧z.length<=sizeLine∧atI z.cps.toList i=some c∧Q (.str ⟨#[c]⟩) H
theorem ix_list:IxR X (rIxL X.K):=by
  intro value slice pins s σ H x y v u Q I rx ry h hs
  obtain ⟨p,xs,i,z,rfl,rfl,hq,he,q⟩:=h
  cases rx
  obtain ⟨t,rfl⟩:=ry
  obtain ⟨its,r,pl,hz⟩:=I.list hq
  obtain ⟨j,h1,h2,h3,h4,h5⟩:=Qf he
  obtain ⟨w,ew,rw'⟩:=r.get h2
  have hl:=r.length
  have hn:=Ty
  have fin:EP X pins σ Q w s:=⟨z,H,I,rw',q⟩
  by_cases h0:0<=i
  · have hj : i.toNat = j:=by
      rw[seqIndex_of h0 h5]at h1
      exact Option.some.inj h1
    exact item_listR pl.isList h0 (by omega) (by rw[hj]; simpa using ew) fin hs
  · have hj : (i + (its.toArray.size : Int)).toNat = j:=by
      rw[seqIndex_neg (by omega) h4]at h1
      rw[List.size_toArray,← hl]
      exact Option.some.inj h1
    exact subscriptTail_builtinR (x:=w) pl.isList.typeIs slot_list_getitem.lookup
      (wpAny_getItem_list_neg (Q:=fun r s'=>r=w∧EP X pins σ Q r s') pl.isList (by omega) (by rw[List.size_toArray] <;> omega) (by omega) (by rw[hj]; simpa using ew) ⟨rfl,fin⟩) hs
theorem ix_tup:IxR X (rIxT X.K):=by
 intro value slice pins s σ H x y v u Q I rx ry h hs
 obtain ⟨p,xs,i,z,rfl,rfl,hq,he,q⟩:=h
 cases rx
 obtain ⟨t,rfl⟩:=ry
 obtain ⟨its,r,pl,hz⟩:=I.tuple hq
 obtain ⟨j,h1,h2,h3,h4,h5⟩:=Qf he
 obtain ⟨w,ew,rw'⟩:=r.get h2
 have hl:=r.length
 have hn:=Ty
 have fin:EP X pins σ Q w s:=⟨z,H,I,rw',q⟩
 exact subscriptTail_builtinR (x:=w) pl.typeIs slot_tuple_getitem.lookup
  (getItem_tuple (j:=j) (Q:=fun r s'=>r=w∧EP X pins σ Q r s') pl (by omega) (by omega) (by rw[List.size_toArray,← hl]; exact h1) (by simpa using ew) ⟨rfl,fin⟩) hs
theorem ix_str:IxR X rIxS:=by
 intro value slice pins s σ H x y v u Q I rx ry h hs
 obtain ⟨z,i,c,rfl,rfl,hz,he,q⟩:=h
 obtain ⟨t,rfl⟩:=rx
 obtain ⟨t',rfl⟩:=ry
 obtain ⟨j,h1,h2,h3,h4,h5⟩:=Qf he
 have hl:z.cps.toList.length=z.length:=by simp[Str.length]
 rw[hl]at h1 h4 h5
 have hn:=Ty
 exact tail_any (typeIs_str s z t) slot_str_getitem.lookup (getItem_str (c:=c) (by
  have e1:decide (i < -(2 ^ 63:Int))=false:=decide_eq_false (by omega)
  have e2:decide (i ≥ 2 ^ 63)=false:=decide_eq_false (by omega)
  rw[e1,e2,Bool.or_false]) (by rw[h1]; simpa using h2) ⟨.str ⟨#[c]⟩,H,I.tok _,⟨_,rfl⟩,q⟩) hs
def rIx (K:PySem.W.Frag):R2:=fun x y H Q=>rIxL K x y H Q∨rIxT K x y H Q∨rIxS x y H Q
theorem ix_seq:IxR X (rIx X.K):=ix_list.or (ix_tup.or ix_str)
theorem Inv.lst {pins : List (Addr × Obj)} {σ : St} {H : Hp} {s : Shared} {p : Addr} {xs : List V} (I : Inv X pins σ H s) (h : H p = some (.lst xs)) :
    ∃(its:List Value) (n:Nat),Vals xs its∧s.heap.get? p=some { cls:=.type "list",data:=.seq its.toArray n }∧xs.length<=sizeLine:=by
  obtain ⟨z,its,n,r,e⟩:=I.hok p _ h
  exact ⟨its,n,r,e,z⟩
def Vg:V->Bool
 |.non=>true
 |.bl _=>true
 |.int _=>true
 |.str _=>true
 |_=>false
def eqV:V->V->Bool
 |.non,.non=>true
 |.bl a,.bl b=>a == b
 |.bl a,.int b=>(if a then 1 else 0) == b
 |.int a,.bl b=>a == (if b then 1 else 0)
 |.int a,.int b=>a == b
 |.str a,.str b=>a == b
 |_,_=>false
theorem eqAt_V {A:Around} {s:Shared} {y x:V} {u v:Value} (ry:RelV y u) (rx:RelV x v) (fy:Vg y=true) (fx:Vg x=true):SeqAt.EqAt A s u v (eqV y x):=by
 cases y with
 |non =>
  cases ry
  cases x with
  |non=>cases rx; exact SeqAt.EqAt.same _
  |bl b=>cases rx; exact SeqAt.EqAt.none_bool b
  |int b=>obtain ⟨t,rfl⟩:=rx; exact SeqAt.EqAt.none_int b t
  |str b=>obtain ⟨t,rfl⟩:=rx; exact SeqAt.EqAt.none_str b t
  |_=>exact absurd (show false=true from fx) Bool.false_ne_true
 |bl a =>
  cases ry
  cases x with
  |non=>cases rx; exact SeqAt.EqAt.bool_none a
  |bl b=>cases rx; exact SeqAt.EqAt.bool_bool a b
  |int b=>obtain ⟨t,rfl⟩:=rx; exact SeqAt.EqAt.bool_int a b t
  |str b=>obtain ⟨t,rfl⟩:=rx; exact SeqAt.EqAt.bool_str a b t
  |_=>exact absurd (show false=true from fx) Bool.false_ne_true
 |int a =>
  obtain ⟨t',rfl⟩:=ry
  cases x with
  |non=>cases rx; exact SeqAt.EqAt.int_none a t'
  |bl b=>cases rx; exact SeqAt.EqAt.int_bool a t' b
  |int b=>obtain ⟨t,rfl⟩:=rx; exact SeqAt.EqAt.int_int a t' b t
  |str b=>obtain ⟨t,rfl⟩:=rx; exact SeqAt.EqAt.int_str a t' b t
  |_=>exact absurd (show false=true from fx) Bool.false_ne_true
 |str a =>
  obtain ⟨t',rfl⟩:=ry
  cases x with
  |non=>cases rx; exact SeqAt.EqAt.str_none a t'
  |bl b=>cases rx; exact SeqAt.EqAt.str_bool a t' b
  |int b=>obtain ⟨t,rfl⟩:=rx; exact SeqAt.EqAt.str_int a t' b t
  |str b=>obtain ⟨t,rfl⟩:=rx; exact SeqAt.EqAt.str_str a t' b t
  |_=>exact absurd (show false=true from fx) Bool.false_ne_true
 |_=>exact absurd (show false=true from fy) Bool.false_ne_true
def eqU (x:V) (u:Value):Bool:=match u with
 |.none=>eqV .non x
 |.bool b=>eqV (.bl b) x
 |.int i _=>eqV (.int i) x
 |.str z _=>eqV (.str z) x
 |_=>false
theorem eqU_of {x y:V} {u:Value} (r:RelV y u) (f:Vg y=true):eqU x u=eqV y x:=by
 cases y with
 |non=>cases r; rfl
 |bl b=>cases r; rfl
 |int i=>obtain ⟨t,rfl⟩:=r; rfl
 |str z=>obtain ⟨t,rfl⟩:=r; rfl
 |_=>exact absurd (show false=true from f) Bool.false_ne_true
theorem VP {x:V}:∀{xs:List V} {us:List Value},Vals xs us->xs.all Vg=true->us.any (eqU x)=xs.any fun y=>eqV y x
 |_,_,.nil,_=>rfl
 |y::xs,u::us,.cons r t,f=>by
  rw[List.all_cons,Bool.and_eq_true]at f
  rw[List.any_cons,List.any_cons,eqU_of r f.1,VP t f.2]
theorem WU {A:Around} {s:Shared} {x:V} {v:Value} (rx:RelV x v) (fx:Vg x=true):∀{xs:List V} {us:List Value},Vals xs us->xs.all Vg=true->∀u∈us,SeqAt.EqAt A s u v (eqU x u)
 |_,_,.nil,_=>fun u hu=>by cases hu
 |y::xs,u::us,.cons r t,f=>fun u' hu=>by
  rw[List.all_cons,Bool.and_eq_true]at f
  rcases List.mem_cons.mp hu with rfl|hu
  ·rw[eqU_of r f.1]; exact eqAt_V r rx f.1 fx
  ·exact WU rx fx t f.2 u' hu
def inV (x:V) (xs:List V):Bool:=xs.any fun y=>eqV y x
def rIn (K:PySem.W.Frag) (neg:Bool):R2:=fun x y H Q=>∃p xs,y=.ref p∧(SqL K H p xs∨SqT K H p xs)∧Vg x=true∧xs.all Vg=true∧Q (.bl (if neg then !inV x xs else inV x xs)) H
theorem op_in_seq:OpR X (compareOp .In) (rIn X.K false):=by
 intro pins s σ H x y v u Q I rx ry h
 obtain ⟨p,xs,rfl,hq,fx,fs,q⟩:=h
 cases ry
 rcases hq with hq|hq
 ·obtain ⟨its,r,pl,hz⟩:=I.list hq
  refine SeqAt.in_listAt (eqU x) pl.isList (fun w hw=>WU rx fx r fs w (by simpa using hw)) ⟨.bl _,H,I,rfl,?_⟩
  rw[show its.toArray.any (eqU x)=its.any (eqU x) by simp,VP r fs]
  exact q
 ·obtain ⟨its,r,pl,hz⟩:=I.tuple hq
  refine SeqAt.in_tupleAt (eqU x) pl (fun w hw=>WU rx fx r fs w (by simpa using hw)) ⟨.bl _,H,I,rfl,?_⟩
  rw[show its.toArray.any (eqU x)=its.any (eqU x) by simp,VP r fs]
  exact q
theorem R7:OpR X (compareOp .NotIn) (rIn X.K true):=by
 intro pins s σ H x y v u Q I rx ry h
 obtain ⟨p,xs,rfl,hq,fx,fs,q⟩:=h
 cases ry
 rcases hq with hq|hq
 ·obtain ⟨its,r,pl,hz⟩:=I.list hq
  refine SeqAt.notIn_listAt (eqU x) pl.isList (fun w hw=>WU rx fx r fs w (by simpa using hw)) ⟨.bl _,H,I,rfl,?_⟩
  rw[show its.toArray.any (eqU x)=its.any (eqU x) by simp,VP r fs]
  exact q
 ·obtain ⟨its,r,pl,hz⟩:=I.tuple hq
  refine SeqAt.notIn_tupleAt (eqU x) pl (fun w hw=>WU rx fx r fs w (by simpa using hw)) ⟨.bl _,H,I,rfl,?_⟩
  rw[show its.toArray.any (eqU x)=its.any (eqU x) by simp,VP r fs]
  exact q
theorem Qi:CallR X (.builtin "len") (fun xs H Q=>∃p ys,xs=[.ref p]∧(SqL X.K H p ys∨SqT X.K H p ys)∧Q (.int ys.length) H):=by
 intro pins s σ H xs us Q I r h
 obtain ⟨p,ys,rfl,hq,q⟩:=h
 obtain ⟨u,rfl,rx⟩:=Q7 r
 cases rx
 have hn:=Ty
 rcases hq with hq|hq
 ·obtain ⟨its,r',pl,hz⟩:=I.list hq
  have hlen:=r'.length
  exact Calls.call_len_list pl.isList (by simp only[List.size_toArray] <;> omega) ⟨.int ys.length,H,I.tok _,⟨s.toks+1,by rw[List.size_toArray,hlen]⟩,q⟩
 ·obtain ⟨its,r',pl,hz⟩:=I.tuple hq
  have hlen:=r'.length
  exact len_tuple pl (by simp only[List.size_toArray] <;> omega) ⟨.int ys.length,H,I.tok _,⟨s.toks+1,by rw[List.size_toArray,hlen]⟩,q⟩
theorem CallR.or {f:Value} {r r':List V->Hp->VK->Prop} (h:CallR X f r) (h':CallR X f r'):CallR X f (fun xs H Q=>r xs H Q∨r' xs H Q):=by
 intro pins s σ H xs us Q I rs q
 rcases q with q|q
 ·exact h pins s σ H xs us Q I rs q
 ·exact h' pins s σ H xs us Q I rs q
def tyV (K:PySem.W.Frag) (T:String) (x:V) (H:Hp):Prop:=match x with
  |.str _=>T="str"
  |.int _=>T="int"
  | .ref p => (T = "list" ∧ ∃ xs,SqL K H p xs) ∨ (T = "tuple" ∧ ∃ o,K.lookup p = some o ∧ o.cls = .type "tuple" ∧ o.dict = none) ∨
      (T="dict"∧((∃kvs,H p=some (.dK kvs))∨∃kvs,H p=some (.dT kvs)))∨(T="set"∧∃S n,H p=some (.set S n))
  |_=>False
theorem tyV_is {pins : List (Addr × Obj)} {σ : St} {H : Hp} {s : Shared} {T : String} {x : V} {v : Value} (I : Inv X pins σ H s) (r : RelV x v) (ty : tyV X.K T x H) :
    s.TypeIs v T∧∀a,v=.ref a->∃ob,s.heap.get? a=some ob∧ob.dict=none:=by
  cases x with
  |str z =>
    obtain ⟨t,rfl⟩:=r
    cases (show T="str" from ty)
    exact ⟨typeIs_str s z t,fun _ e=>nomatch e⟩
  |int i =>
    obtain ⟨t,rfl⟩:=r
    cases (show T="int" from ty)
    exact ⟨typeIs_int s i t,fun _ e=>nomatch e⟩
  |ref p =>
    cases r
    rcases ty with ⟨rfl,xs,hq⟩|⟨rfl,o,hk,hc,hd⟩|⟨rfl,hk⟩|⟨rfl,S,n,hk⟩
    · obtain ⟨its,_,pl,_⟩:=I.list hq
      refine ⟨pl.isList.typeIs,fun a e=>?_⟩
      cases e
      obtain ⟨o,n,e,c,hd,_⟩:=pl
      exact ⟨o,e,hd⟩
    · refine ⟨⟨o,I.kIn p o hk,hc⟩,fun a e=>?_⟩
      cases e
      exact ⟨o,I.kIn _ o hk,hd⟩
    · have z : ∃ o,s.heap.get? p = some o ∧ o.ExactDict:=by
        rcases hk with ⟨kvs,hk⟩|⟨kvs,hk⟩
        · obtain ⟨_,_,_,_,o,_,_,e,ex,_⟩:=I.hok p _ hk
          exact ⟨o,e,ex⟩
        · obtain ⟨_,_,_,_,o,_,_,e,ex,_⟩:=I.hok p _ hk
          exact ⟨o,e,ex⟩
      obtain ⟨o,e,ex⟩:=z
      refine ⟨⟨o,e,ex.1⟩,fun a e2=>?_⟩
      cases e2
      exact ⟨o,e,ex.2.1⟩
    · obtain ⟨o,_,_,_,e,ex,_⟩:=I.hok p _ hk
      refine ⟨⟨o,e,ex.1⟩,fun a e2=>?_⟩
      cases e2
      exact ⟨o,e,ex.2.1⟩
  |_=>exact False.elim ty
def tBM0 (K:PySem.W.Frag) (T:String) (r:V->List V->Hp->VK->Prop) (to:TE):TE:=fun σ H Q=>to σ H fun x H1=>tyV K T x H1∧r x [] H1 Q
def tBM (K:PySem.W.Frag) (T:String) (r:V->List V->Hp->VK->Prop) (to:TE) (t:TA):TE:=fun σ H Q=>to σ H fun x H1=>tyV K T x H1∧t σ H1 fun xs H2=>r x xs H2 Q
variable {o e:Expr} {es:List Expr} {to:TE} {t:TA} {name:Str} {apos cpos:Pos} {T id:String} {r:V->List V->Hp->VK->Prop}
theorem pe_bm0 (pa : PlainAttrs T) (slot : Slot T name id) (hty : typeOf (.builtin id) = pure (.type "method_descriptor")) (hm : MtR X id r) (ho : PE X o to)
    (hbase:attributeBase o name X.env (eval o X.env)=eval o X.env:=by rfl) (hline:(apos.endLine == cpos.line)=true:=by rfl):PE X (.Call (.Attribute o name apos) [] [] cpos) (tBM0 X.K T r to):=by
  intro pins s σ H Q I h
  refine wpAny_Call_method0_late hbase hline (thn (ho pins s σ H _ I h) fun v s1 ⟨x,H1,I1,r1,ty,q1⟩=>?_)
  obtain ⟨h1,h2⟩:=tyV_is I1 r1 ty
  exact ⟨T,id,pa,slot,hty,h1,h2,Calls.callWith_builtin rfl (PySem.evalArgs_none (hm pins s1 σ H1 x [] v [] Q I1 r1 .nil q1))⟩
theorem pe_bm (pa : PlainAttrs T) (slot : Slot T name id) (hty : typeOf (.builtin id) = pure (.type "method_descriptor")) (hm : MtR X id r) (ho : PE X o to) (ha : PA X (e :: es) t)
    (hbase:attributeBase o name X.env (eval o X.env)=eval o X.env:=by rfl)
    (hfew:((backTo cpos (starEach (e::es) X.env)).all (fun x=>!x.1)&&(backToKw cpos (keywordEach [] X.env)).all (fun x=>x.1.isSome)
      && decide ((e::es).length+([]:List Keyword).length+(if ([]:List Keyword).isEmpty then 0 else 1) < 30))=true:=by rfl)
    (hline:(apos.endLine == cpos.line)=true:=by rfl) (hs:starEach (e::es) X.env=(false,eval e X.env)::starEach es X.env:=by rfl) (hplain:(backTo cpos (starEach es X.env)).any (·.1)=false:=by rfl) :
    PE X (.Call (.Attribute o name apos) (e::es) [] cpos) (tBM X.K T r to t):=by
  intro pins s σ H Q I h
  refine wpAny_Call_method_late hbase hfew hline rfl (thn (ho pins s σ H _ I h) fun v s1 ⟨x,H1,I1,r1,ty,q1⟩=>?_)
  obtain ⟨h1,h2⟩:=tyV_is I1 r1 ty
  refine ⟨T,id,pa,slot,hty,h1,h2,?_⟩
  have hA:=ha cpos pins s1 σ H1 _ I1 q1
  rw[hs]at hA ⊢
  refine Calls.callWith_builtin (by show (false || (backTo cpos (starEach es X.env)).any (·.1))=false; rw[hplain] <;> rfl) (Calls.evalArgs_plain ?_)
  exact thn hA fun us s2 ⟨vs,H2,I2,r2,q2⟩=>hm pins s2 σ H2 x vs v us Q I2 r1 r2 q2
end
end L2
namespace L2
open PySem PySem.Spec PyProof.Rows
def MtM (X:Cx) (id:String) (r:V->List V->Hp->VK->Prop):Prop :=
 ∀(pins:List (Addr × Obj)) (s:Shared) (σ:St) (H:Hp) (x:V) (xs:List V) (v:Value) (us:List Value) (Q:VK),Inv X pins σ H s->RelV x v->Vals xs us->r x xs H Q ->
  wpAny (model X.prog X.w) X.A (call (.builtin id) (v::us)) (EP X pins σ Q) X.xe s
theorem Vals.one:∀{x:V} {us:List Value},Vals [x] us->∃u,us=[u]∧RelV x u
 |_,_,.cons r .nil=>⟨_,rfl,r⟩
theorem Vals.zero:∀{us:List Value},Vals [] us->us=[]
 |_,.nil=>rfl
section
variable {X:Cx} {pins:List (Addr × Obj)} {σ:St} {H:Hp} {s:Shared} {l b:Addr} {xs ys zs:List V}
theorem Inv.lset {its its' : List Value} {n : Nat} {f : Array Value -> Array Value} {t' : Nat} (I : Inv X pins σ H s) (hH : H l = some (.lst xs))
    (e:s.heap.get? l=some { cls:=.type "list",data:=.seq its.toArray n }) (hf:f its.toArray=its'.toArray) (hv:Vals ys its') (hz:ys.length<=sizeLine) :
    Inv X pins σ (upd H l (.lst ys)) { s with heap:=s.heap.update l (Obj.mapSeq f),toks:=t' }:=by
  have q:=PySem.IsL.update e f
  rw[hf]at q
  refine I.write (x:=l) (e:=l) (by rw[hH]; exact trivial) (.inl rfl) (fun b' u hb hu=>(Heap.get?_update_other s.heap (Obj.mapSeq f) (Ne.symm hb)).trans hu) ⟨_,q⟩ ?_
  exact ⟨hz,its',_,hv,q⟩
theorem Inv.fresh (I:Inv X pins σ H s):H s.heap.objs.size=none:=I.hok.fresh (Nat.le_refl _)
theorem Inv.lstM (I:Inv X pins σ H s) (hH:H l=some (.lst xs)):xs.length<=sizeLine∧∃(its:List Value) (n:Nat),Vals xs its∧xs.length=its.length∧s.heap.get? l=some { cls:=.type "list",data:=.seq its.toArray n }:=by
 obtain ⟨z,its,n,r,e⟩:=I.hok l _ hH
 exact ⟨z,its,n,r,r.length,e⟩
theorem notLongL {n:Nat} (h:n<=sizeLine):Builtin.List.listTooLong n=false:=by
 unfold Builtin.List.listTooLong
 exact decide_eq_false (by omega)
end
section
variable {X:Cx}
end
section
variable {prog:Program} {w:World} {A:Around} {E:Value->Shared->Prop} {s:Shared}
end
section
variable {X:Cx}
end
end L2
namespace L2
open PySem PySem.Spec PyProof.Rows
section
variable {κ:Type} [DecidableEq κ]
def VN (kvs:List (κ × V)) (k:κ):Option V:=(kvs.find? fun kv=>decide (kv.1=k)).map (·.2)
def Ua (kvs:List (κ × V)) (k:κ) (v:V):List (κ × V) :=
 if (kvs.any fun kv=>decide (kv.1=k))=true then kvs.map (fun kv=>if kv.1=k then (kv.1,v) else kv) else kvs++[(k,v)]
def dropK (kvs:List (κ × V)) (k:κ):List (κ × V):=kvs.filter fun kv=>decide (kv.1≠k)
theorem TC {p:κ × V} {r:List (κ × V)} {k:κ} (e:p.1=k):VN (p::r) k=some p.2:=by simp[VN,List.find?_cons,e]
theorem Tz {p:κ × V} {r:List (κ × V)} {k:κ} (e:¬ p.1=k):VN (p::r) k=VN r k:=by simp[VN,List.find?_cons,e]
theorem Pj (k:κ):∀kvs:List (κ × V),(kvs.any fun kv=>decide (kv.1=k))=(VN kvs k).isSome
 |[]=>rfl
 |p::r=>by
  rw[List.any_cons]
  by_cases e:p.1=k
  ·simp only[TC e,decide_eq_true e,Bool.true_or,Option.isSome_some]
  ·rw[Tz e,decide_eq_false e,Bool.false_or]; exact Pj k r
theorem U1 (kvs:List (κ × V)) (k:κ) (v:V):(Ua kvs k v).length<=kvs.length+1:=by
 unfold Ua
 split
 ·rw[List.length_map]; omega
 ·rw[List.length_append,List.length_cons,List.length_nil]; omega
theorem RelO.isSome_eq {o:Option V} {u:Option Value} (r:RelO o u):o.isSome=u.isSome:=by
 cases o with
 |none=>cases u with
  |none=>rfl
  |some _=>exact (show False from r).elim
 |some _=>cases u with
  |none=>exact (show False from r).elim
  |some _=>rfl
theorem RelO.getD {o:Option V} {u:Option Value} {d:V} {d':Value} (r:RelO o u) (rd:RelV d d'):RelV (o.getD d) (u.getD d'):=by
 cases o with
 |none=>cases u with
  |none=>exact rd
  |some _=>exact (show False from r).elim
 |some _=>cases u with
  |none=>exact (show False from r).elim
  |some _=>exact r
theorem KV.val {kvs:List (κ × V)} {vs:List (κ × Value)} (r:KV kvs vs) (k:κ):RelO (VN kvs k) (valueAt vs k):=by
 unfold KV at r
 induction r with
 |nil=>exact True.intro
 |@cons p q ps qs h t ih =>
  obtain ⟨h1,h2⟩:=h
  by_cases e:p.1=k
  ·have e':q.1=k:=h1.symm.trans e
   have b:valueAt (q::qs) k=some q.2:=by simp[valueAt,List.find?_cons,e']
   rw[TC e,b]; exact h2
  ·have e':¬ q.1=k:=fun z=>e (h1.trans z)
   have b:valueAt (q::qs) k=valueAt qs k:=by simp[valueAt,List.find?_cons,e']
   rw[Tz e,b]; exact ih
theorem KV.any {kvs:List (κ × V)} {vs:List (κ × Value)} (r:KV kvs vs) (k:κ):(kvs.any fun kv=>decide (kv.1=k))=vs.any fun kv=>decide (kv.1=k):=by
 unfold KV at r
 induction r with
 |nil=>rfl
 |cons h t ih=>rw[List.any_cons,List.any_cons,ih,h.1]
theorem KV.repl {kvs : List (κ × V)} {vs : List (κ × Value)} (r : KV kvs vs) (k : κ) {y : V} {u : Value} (ry : RelV y u) :
    KV (kvs.map fun kv=>if kv.1=k then (kv.1,y) else kv) (vs.map fun kv=>if kv.1=k then (kv.1,u) else kv):=by
  unfold KV at r ⊢
  induction r with
  |nil=>exact .nil
  |@cons p q ps qs h t ih =>
    rw[List.map_cons,List.map_cons]
    refine .cons ?_ ih
    obtain ⟨h1,h2⟩:=h
    by_cases e:p.1=k
    · rw[if_pos e,if_pos (h1.symm.trans e)]; exact ⟨h1,ry⟩
    · rw[if_neg e,if_neg (fun z=>e (h1.trans z))]; exact ⟨h1,h2⟩
theorem KV.put {kvs:List (κ × V)} {vs:List (κ × Value)} (r:KV kvs vs) (k:κ) {y:V} {u:Value} (ry:RelV y u):KV (Ua kvs k y) (stored vs k u):=by
 unfold Ua stored
 rw[r.any k]
 by_cases e:(vs.any fun kv=>decide (kv.1=k))=true
 ·rw[if_pos e,if_pos e]; exact r.repl k ry
 ·rw[if_neg e,if_neg e]; exact Paired.snoc r ⟨rfl,ry⟩
theorem KV.drop {kvs:List (κ × V)} {vs:List (κ × Value)} (r:KV kvs vs) (k:κ):KV (dropK kvs k) (without vs k):=by
 unfold KV at r ⊢
 unfold dropK without
 induction r with
 |nil=>exact .nil
 |@cons p q ps qs h t ih =>
  obtain ⟨h1,h2⟩:=h
  rw[List.filter_cons,List.filter_cons]
  by_cases e:p.1=k
  ·have a:¬ decide (p.1≠k)=true:=by simp[e]
   have b:¬ decide (q.1≠k)=true:=by simp[h1.symm.trans e]
   rw[if_neg a,if_neg b]; exact ih
  ·have e':¬ q.1=k:=fun z=>e (h1.trans z)
   have a:decide (p.1≠k)=true:=by simp[e]
   have b:decide (q.1≠k)=true:=by simp[e']
   rw[if_pos a,if_pos b]; exact .cons ⟨h1,h2⟩ ih
theorem KV.length {kvs:List (κ × V)} {vs:List (κ × Value)} (r:KV kvs vs):kvs.length=vs.length:=Paired.length r
end
theorem RH {P:Program} {w:World} {k:Key} {u:Value} (r:RelV (kV k) u):(ZQ P w).is k u=true:=by
 cases k with
 |inl i=>obtain ⟨t,e⟩:=(show ∃t,u=Value.int i t from r); subst e; exact Pr P w i t
 |inr x=>obtain ⟨t,e⟩:=(show ∃t,u=Value.str x t from r); subst e; exact Pi P w x t
theorem Rf {P:Program} {w:World}:∀{ks:List Key} {us:List Value},Vals (ks.map kV) us->ItemsAre (ZQ P w) ks us
 |[],_,r=>by rw[List.map_nil]at r; cases r; exact .nil
 |k::ks,_,r=>by
  rw[List.map_cons]at r
  cases r with
  |cons h t=>exact .cons (RH h) (Rf t)
abbrev KT (H:Hp):List (List Key × V)->List (List Key × Addr × Value)->Prop:=Paired fun p q=>p.1=q.1∧H q.2.1=some (.tup (p.1.map kV))∧RelV p.2 q.2.2
theorem KT.val {H:Hp} {kvs:List (List Key × V)} {xs:List (List Key × Addr × Value)} (r:KT H kvs xs) (k:List Key):RelO (VN kvs k) ((atKey xs k).map (·.2)):=by
 induction r with
 |nil=>exact True.intro
 |@cons p q ps qs h t ih =>
  obtain ⟨h1,_,h2⟩:=h
  by_cases e:p.1=k
  ·have e':q.1=k:=h1.symm.trans e
   have b:atKey (q::qs) k=some q.2:=by simp[atKey,List.find?_cons,e']
   rw[TC e,b]; exact h2
  ·have e':¬ q.1=k:=fun z=>e (h1.trans z)
   have b:atKey (q::qs) k=atKey qs k:=by simp[atKey,List.find?_cons,e']
   rw[Tz e,b]; exact ih
theorem KT.repl {H : Hp} {kvs : List (List Key × V)} {xs : List (List Key × Addr × Value)} (r : KT H kvs xs) (k : List Key) {y : V} {u : Value} (ry : RelV y u) :
    KT H (kvs.map fun kv=>if kv.1=k then (kv.1,y) else kv) (xs.map (putAt k u)):=by
  induction r with
  |nil=>exact .nil
  |@cons p q ps qs h t ih =>
    rw[List.map_cons,List.map_cons]
    refine .cons ?_ ih
    obtain ⟨h1,h2,h3⟩:=h
    unfold putAt
    by_cases e:p.1=k
    · rw[if_pos e,if_pos (h1.symm.trans e)]; exact ⟨h1,h2,ry⟩
    · rw[if_neg e,if_neg (fun z=>e (h1.trans z))]; exact ⟨h1,h2,h3⟩
theorem KT.put {H : Hp} {kvs : List (List Key × V)} {xs : List (List Key × Addr × Value)} (r : KT H kvs xs) (k : List Key) {b : Addr} {y : V} {u : Value} (hb : H b = some (.tup (k.map kV))) (ry : RelV y u) :
    KT H (Ua kvs k y) (storedH xs k b u):=by
  have e:(kvs.any fun kv=>decide (kv.1=k))=(atKey xs k).isSome:=by
    rw[Pj,(r.val k).isSome_eq,Option.isSome_map]
  unfold Ua storedH
  rw[e]
  by_cases q:(atKey xs k).isSome=true
  · rw[if_pos q,if_pos q]; exact r.repl k ry
  · rw[if_neg q,if_neg q]; exact Paired.snoc r ⟨rfl,hb,ry⟩
theorem KT.keeps {H H':Hp} {kvs:List (List Key × V)} {xs:List (List Key × Addr × Value)} (r:KT H kvs xs) (ht:∀b ys,H b=some (.tup ys)->H' b=some (.tup ys)):KT H' kvs xs :=
 Paired.mapP r fun _ _ z=>⟨z.1,ht _ _ z.2.1,z.2.2⟩
section
variable {P:Program} {w:World} {H:Hp} {h:Heap} {a:Addr}
theorem rd_of {u:HO} (ok:HOk P w H h) (e:Rd H a u):ObjOk P w H h a u:=e.ok ok
theorem UN {kvs:List (Key × V)} (ok:HOk P w H h) (e:Rd H a (.dK kvs)):kvs.length<=sizeLine∧(a == sysModules)=false∧∃vs,KV kvs vs∧h.DictOf (ZQ P w) a vs :=
 show ObjOk P w H h a (.dK kvs) from rd_of ok e
theorem dk_of {kvs:List (Key × V)} (ok:HOk P w H h) (e:H a=some (.dK kvs)):kvs.length<=sizeLine∧(a == sysModules)=false∧∃vs,KV kvs vs∧h.DictOf (ZQ P w) a vs:=UN ok (.inl e)
theorem Uk {ks:List Key} (ok:HOk P w H h) (e:H a=some (.tup (ks.map kV))):(tupleKind (ZQ P w)).is h ks a:=by
 obtain ⟨_,its,r,o,h1,h2,n,h3⟩:=(show ObjOk P w H h a (.tup (ks.map kV)) from ok a _ e)
 exact ⟨o,its.toArray,n,h1,h2,h3,by simpa using Rf r⟩
theorem T4 {kvs : List (List Key × V)} (ok : HOk P w H h) (e : Rd H a (.dT kvs)) : kvs.length <= sizeLine ∧ (a == sysModules) = false ∧
    ∃xs,KT H kvs xs∧h.DictOfH (tupleKind (ZQ P w)) a xs:=by
  obtain ⟨z,y,xs,r,o,es,ep,h1,h2,h3,h4,h5⟩:=(show ObjOk P w H h a (.dT kvs) from rd_of ok e)
  refine ⟨z,y,xs,r,o,es,ep,h1,h2,h3,h4,fun x hx=>?_,h5⟩
  have all:∀{l:List (List Key × V)} {m:List (List Key × Addr × Value)},KT H l m->∀x∈m,(tupleKind (ZQ P w)).is h x.1 x.2.1:=by
    intro l m q
    induction q with
    |nil=>intro x hx; exact nomatch hx
    |@cons p q ps qs hq t ih =>
      intro x hx
      rcases List.mem_cons.mp hx with e|hx
      · subst e
        exact Uk ok (by rw[← hq.1]; exact hq.2.1)
      · exact ih x hx
  exact all r x hx
theorem dt_of {kvs : List (List Key × V)} (ok : HOk P w H h) (e : H a = some (.dT kvs)) : kvs.length <= sizeLine ∧ (a == sysModules) = false ∧
    ∃xs,KT H kvs xs∧h.DictOfH (tupleKind (ZQ P w)) a xs:=T4 ok (.inl e)
end
def DGet (H:Hp) (a:Addr) (y:V) (r:Option V):Prop :=
 (∃kvs k,Rd H a (.dK kvs)∧y=kV k∧r=VN kvs k)∨∃kvs k b,Rd H a (.dT kvs)∧y=.ref b∧H b=some (.tup (k.map kV))∧r=VN kvs k
def DPut (H:Hp) (a:Addr) (y v:V) (H':Hp):Prop :=
 (∃kvs k,H a=some (.dK kvs)∧y=kV k∧kvs.length < sizeLine∧H'=upd H a (.dK (Ua kvs k v))) ∨
 ∃kvs k b,H a=some (.dT kvs)∧y=.ref b∧H b=some (.tup (k.map kV))∧kvs.length < sizeLine∧H'=upd H a (.dT (Ua kvs k v))
theorem DGet.k {H:Hp} {a:Addr} {kvs:List (Key × V)} {k:Key} (e:H a=some (.dK kvs)):DGet H a (kV k) (VN kvs k):=.inl ⟨kvs,k,.inl e,rfl,rfl⟩
theorem DGet.t {H:Hp} {a b:Addr} {kvs:List (List Key × V)} {k:List Key} (e:H a=some (.dT kvs)) (eb:H b=some (.tup (k.map kV))):DGet H a (.ref b) (VN kvs k):=.inr ⟨kvs,k,b,.inl e,rfl,eb,rfl⟩
theorem DPut.k {H:Hp} {a:Addr} {kvs:List (Key × V)} {k:Key} {v:V} (e:H a=some (.dK kvs)) (hl:kvs.length < sizeLine):DPut H a (kV k) v (upd H a (.dK (Ua kvs k v))):=.inl ⟨kvs,k,e,rfl,hl,rfl⟩
theorem DPut.t {H : Hp} {a b : Addr} {kvs : List (List Key × V)} {k : List Key} {v : V} (e : H a = some (.dT kvs)) (eb : H b = some (.tup (k.map kV))) (hl : kvs.length < sizeLine) :
    DPut H a (.ref b) v (upd H a (.dT (Ua kvs k v))):=.inr ⟨kvs,k,b,e,rfl,eb,hl,rfl⟩
section
variable {X:Cx} {pins:List (Addr × Obj)} {σ:St} {H:Hp} {s:Shared} {a:Addr} {y v:V} {u r:Value} {o:Option V} {A:Around} {E:Value->Shared->Prop}
theorem Inv.big (I:Inv X pins σ H s):sysModules < s.heap.objs.size:=by
 have h:mainGlobals < s.heap.objs.size:=(I.mod.glob.keeps I.bk).lt
 exact Nat.lt_trans (by decide) h
theorem d_getItem {Q : Value -> Shared -> Prop} (hu : A.units + 1 < cLine) (I : Inv X pins σ H s) (g : DGet H a y (some v)) (ry : RelV y u) (h : ∀ w' s',Inv X pins σ H s' -> RelV v w' -> Q w' s') :
    wpAny (model X.prog X.w) A (getItem (.ref a) u) Q E s:=by
  rcases g with ⟨kvs,k,e,ey,l⟩|⟨kvs,k,b,e,ey,eb,l⟩
  · subst ey
    obtain ⟨z,hd,vs,rel,dd⟩:=UN I.hok e
    obtain ⟨w',hw,rw'⟩:=RelO.some_of (v:=v) (o:=valueAt vs k) (by rw[l]; exact rel.val k)
    exact wpAny_getItem_of (RH ry) dd.mapOf hw (h w' _ (I.tok _) rw')
  · subst ey
    cases (show u=Value.ref b from ry)
    obtain ⟨z,hd,xs,rel,dd⟩:=T4 I.hok e
    obtain ⟨w',hw,rw'⟩:=RelO.some_of (v:=v) (o:=(atKey xs k).map (·.2)) (by rw[l]; exact rel.val k)
    obtain ⟨p,hp,hp2⟩:=Option.map_eq_some_iff.mp hw
    refine wpAny_getItem_heap (tupleKind_room_in1 hu) (Uk I.hok eb) dd hp ?_
    rw[hp2]
    exact h w' _ (I.tok _) rw'
theorem d_in {Q : Value -> Shared -> Prop} (hu : A.units + 1 < cLine) (I : Inv X pins σ H s) (g : DGet H a y o) (ry : RelV y u) (h : ∀ s',Inv X pins σ H s' -> Q (.bool o.isSome) s') :
    wpAny (model X.prog X.w) A (compareOp .In u (.ref a)) Q E s:=by
  rcases g with ⟨kvs,k,e,ey,l⟩|⟨kvs,k,b,e,ey,eb,l⟩
  · subst ey
    obtain ⟨z,hd,vs,rel,dd⟩:=UN I.hok e
    refine wpAny_in_of (RH ry) hd dd.mapOf ?_
    rw[← (rel.val k).isSome_eq,← l]
    exact h _ (I.tok _)
  · subst ey
    cases (show u=Value.ref b from ry)
    obtain ⟨z,hd,xs,rel,dd⟩:=T4 I.hok e
    refine wpAny_in_heap (tupleKind_room_in1 hu) (Uk I.hok eb) hd dd ?_
    have q:=(rel.val k).isSome_eq
    rw[Option.isSome_map]at q
    rw[← q,← l]
    exact h _ (I.tok _)
theorem d_write {h' : Heap} {t' : Nat} {ob : HO} (I : Inv X pins σ H s) (mu : Mut (H a)) (hs : Heap.SameBut a s.heap h') (he : ∃ q,h'.get? a = some q) (new : ObjOk X.prog X.w (upd H a ob) h' a ob) :
    Inv X pins σ (upd H a ob) { s with heap:=h',toks:=t' } :=
  I.write (x:=a) (e:=a) mu (.inl rfl) (fun b q hb z=>(hs.2 b hb).trans z) he new
theorem dk_new {P : Program} {w : World} {H' : Hp} {h' : Heap} {kvs : List (Key × V)} {vs : List (Key × Value)} (z : kvs.length <= sizeLine) (hd : (a == sysModules) = false) (rel : KV kvs vs) (dd : h'.DictOf (ZQ P w) a vs) :
    ObjOk P w H' h' a (.dK kvs):=⟨z,hd,vs,rel,dd⟩
theorem d_setItem {H' : Hp} {Q : Unit -> Shared -> Prop} (hu : A.units + 1 < cLine) (I : Inv X pins σ H s) (g : DPut H a y v H') (ry : RelV y u) (rv : RelV v r) (h : ∀ s',Inv X pins σ H' s' -> Q () s') :
    wpAny (model X.prog X.w) A (setItem (.ref a) u r) Q E s:=by
  rcases g with ⟨kvs,k,e,ey,l,eH⟩|⟨kvs,k,b,e,ey,eb,l,eH⟩
  · subst ey eH
    obtain ⟨z,hd,vs,rel,dd⟩:=dk_of I.hok e
    have hz:vs.length<=sizeLine:=by rw[← rel.length]; exact z
    have hl:(Ua kvs k v).length<=sizeLine:=by have:=U1 kvs k v; omega
    refine wpAny_setItem_pairs (hsz:=hz) (RH ry) dd fun h' dd' hs=>h _ ?_
    have he:∃q,h'.get? a=some q:=let ⟨q,_,_,hq,_⟩:=dd'; ⟨q,hq⟩
    exact d_write I (by rw[e]; exact True.intro) hs he (dk_new hl hd (rel.put k rv) dd')
  · subst ey eH
    cases (show u=Value.ref b from ry)
    obtain ⟨z,hd,xs,rel,dd⟩:=dt_of I.hok e
    have hz:xs.length<=sizeLine:=by rw[← Paired.length rel]; exact z
    have hl:(Ua kvs k v).length<=sizeLine:=by have:=U1 kvs k v; omega
    refine wpAny_setItem_heap (hsz:=hz) (tupleKind_room_in1 hu) (Uk I.hok eb) dd fun h' dd' hs=>h _ ?_
    obtain ⟨q,es,ep,hq,h2,h3,h4,_,h5⟩:=dd'
    refine d_write I (by rw[e]; exact True.intro) hs ⟨q,hq⟩ ⟨hl,hd,_,(rel.put k eb rv).keeps fun c ys ec=>?_,q,es,ep,hq,h2,h3,h4,h5⟩
    rw[Zp (ne_of ec e (fun z=>nomatch z))]
    exact ec
end
section
variable {X:Cx} {pins:List (Addr × Obj)} {σ:St} {H:Hp} {s:Shared} {a:Addr} {kvs:List (Key × V)} {k:Key} {u:Value} {A:Around} {E:Value->Shared->Prop}
theorem d_len {Q:Value->Shared->Prop} (I:Inv X pins σ H s) (e:Rd H a (.dK kvs)) (h:∀t s',Inv X pins σ H s'->Q (.int kvs.length t) s'):wpAny (model X.prog X.w) A (call (.builtin "len") [.ref a]) Q E s:=by
 obtain ⟨z,hd,vs,rel,dd⟩:=UN I.hok e
 refine call_len_dict hd dd (by rw[← rel.length]; rw[sizeLine_eq]at z; omega) ?_
 rw[← rel.length]
 exact h _ _ (I.tok _)
end
def NoSl (i:Expr):Prop:=∀ov iv,subscripted i false ov iv=operate [ov,iv] (getItem ov iv)
theorem subD_of {prog : Program} {w : World} {A : Around} {E : Value -> Shared -> Prop} {s : Shared} {env : Env} {value slice : Expr} {pos : Pos} {T id : String} {Q : Value -> Shared -> Prop}
    (hl:typeLookup (.type T) "__getitem__"=pure (some (.builtin id))) (hs:NoSl slice)
    (h:wpAny (model prog w) A (eval value env) (fun o s₁=>wpAny (model prog w) A (eval slice env) (fun i s₂=>s₂.TypeIs o T∧wpAny (model prog w) A (getItem o i) Q E s₂) E s₁) E s) :
    wpAny (model prog w) A (eval (.Subscript value slice pos) env) Q E s:=by
  refine Subscript_ (wpAny_mono h (fun o s₁ h₁=>wpAny_mono h₁ (fun i s₂ h₂=>?_) fun _ _ x=>x) fun _ _ x=>x)
  obtain ⟨hT,h₂⟩:=h₂
  unfold subscriptTail
  refine wpAny_bind ?_
  rw[getitemInPython_of_ne hT.not_modules]
  refine wpAny_bind (wpAny_specialOf hT hl ?_)
  have fin:wpAny (model prog w) A (subscripted slice false o i) (fun r s₃=>wpAny (model prog w) A (letTemporaryGo value o r >>= fun _=>pure r) Q E s₃) E s₂:=by
    rw[hs o i]
    exact wpAny_operating (wpAny_mono h₂ (fun r s₃ h₃=>wpAny_bind (wpAny_letTemporaryGo (wpAny_pure h₃))) fun _ _ x=>x)
  first
    |exact wpAny_pure (wpAny_bind fin)
    |exact wpAny_bind (wpAny_pure (wpAny_bind fin))
    |exact wpAny_bind fin
theorem dict_typeIs {X:Cx} {pins:List (Addr × Obj)} {σ:St} {H:Hp} {s:Shared} {a:Addr} {y:V} {o:Option V} (I:Inv X pins σ H s) (g:DGet H a y o):s.TypeIs (.ref a) "dict":=by
 rcases g with ⟨kvs,k,e,_,_⟩|⟨kvs,k,b,e,_,_,_⟩
 ·obtain ⟨_,_,vs,_,dd⟩:=UN I.hok e
  exact dd.typeIs
 ·obtain ⟨_,_,xs,_,dd⟩:=T4 I.hok e
  exact dd.typeIs
def tDGet (td ty:TE):TE:=fun σ H Q=>td σ H fun x H1=>ty σ H1 fun y H2=>∃a v,x=.ref a∧DGet H2 a y (some v)∧Q v H2
def tDIn (ty td:TE):TE:=fun σ H Q=>ty σ H fun y H1=>td σ H1 fun x H2=>∃a o,x=.ref a∧DGet H2 a y o∧Q (.bl o.isSome) H2
def sDPut (td ty tv:TE):TS:=fun D σ H=>tv σ H fun v H1=>td σ H1 fun x H2=>ty σ H2 fun y H3=>∃a H4,x=.ref a∧DPut H3 a y v H4∧D.nx σ H4
section
variable {X:Cx} {o i e value:Expr} {pos pos' tpos:Pos} {td ty tv:TE}
theorem pe_dget (hu:X.A.units+1 < cLine) (ho:PE X o td) (hi:PE X i ty) (hs:NoSl i):PE X (.Subscript o i pos) (tDGet td ty):=by
 intro pins s σ H Q I h
 refine subD_of PySem.F.slot_dict_getitem.lookup hs (thn (ho pins s σ H _ I h) fun u s1 ⟨x,H1,I1,rx,q1⟩=>thn (hi pins s1 σ H1 _ I1 q1) fun iv s2 ⟨y,H2,I2,ry,a,v,ex,g,q2⟩=>?_)
 subst ex
 obtain rfl:u=Value.ref a:=rx
 exact ⟨dict_typeIs I2 g,d_getItem hu I2 g ry fun w' s3 I3 rw'=>⟨v,H2,I3,rw',q2⟩⟩
theorem pc_din (hu:X.A.units+1 < cLine) (hi:PE X i ty) (ho:PE X o td):PC X .In i o (tDIn ty td):=by
 intro pins s σ H Q I h
 refine thn (hi pins s σ H _ I h) fun iv s1 ⟨y,H1,I1,ry,q1⟩=>thn (ho pins s1 σ H1 _ I1 q1) fun u s2 ⟨x,H2,I2,rx,a,ov,ex,g,q2⟩=>?_
 subst ex
 obtain rfl:u=Value.ref a:=rx
 exact d_in hu I2 g ry fun s3 I3=>⟨.bl ov.isSome,H2,I3,rfl,q2⟩
theorem ps_dput (hu : X.A.units + 1 < cLine) (ho : PE X o td) (hi : PE X i ty) (hv : PE X value tv) (hs : swapsWith value (some (.Subscript o i pos')) pos.line X.env = pure false) :
    PS X (.Assign [.Subscript o i pos'] value pos) (sDPut td ty tv):=by
  intro pins s σ H D I h
  refine wpAny_Assign_Subscript (thn (hv pins s σ H _ I h) fun r s1 ⟨v,H1,I1,rv,q1⟩=>thn (ho pins s1 σ H1 _ I1 q1) fun u s2 ⟨x,H2,I2,rx,q2⟩=>thn (hi pins s2 σ H2 _ I2 q2) fun iv s3 ⟨y,H3,I3,ry,a,H4,ex,g,q3⟩=>?_) hs
  subst ex
  obtain rfl:u=Value.ref a:=rx
  exact d_setItem hu I3 g ry rv fun s4 I4=>⟨σ,H4,I4,q3⟩
end
theorem dk_empty {P:Program} {w:World} {H:Hp} (h:Heap) (hb:sysModules < h.objs.size):ObjOk P w H (h.push { cls:=.type "dict",data:=.dict #[] }) h.objs.size (.dK []) :=
 ⟨Nat.zero_le _,beq_eq_false_iff_ne.mpr (Ne.symm (Nat.ne_of_lt hb)),[],.nil,Heap.DictOf.new h⟩
theorem dt_empty {P:Program} {w:World} {H:Hp} (h:Heap) (hb:sysModules < h.objs.size):ObjOk P w H (h.push { cls:=.type "dict",data:=.dict #[] }) h.objs.size (.dT []) :=
 ⟨Nat.zero_le _,beq_eq_false_iff_ne.mpr (Ne.symm (Nat.ne_of_lt hb)),[],.nil,_,#[],0,Heap.get?_push_size _ rfl,⟨rfl,rfl,rfl⟩,rfl,rfl,List.nodup_nil⟩
def tDNewK:TE:=fun _ H Q=>∀p,H p=none->Q (.ref p) (upd H p (.dK []))
def tDNewT:TE:=fun _ H Q=>∀p,H p=none->Q (.ref p) (upd H p (.dT []))
section
variable {X:Cx} {pos:Pos}
theorem pe_dnewK:PE X (.Dict [] [] pos) tDNewK:=fun pins s σ H Q I h =>
 wpAny_Dict_empty ⟨.ref s.heap.objs.size,_,I.laid (a:=s.heap.objs.size) (o:=.dK []) (t':=s.toks) (fun _ _ q=>Heap.get?_push_of_some _ q) (Nat.le_refl _) (dk_empty s.heap I.big),rfl,h _ (I.hok.fresh (Nat.le_refl _))⟩
theorem pe_dnewT:PE X (.Dict [] [] pos) tDNewT:=fun pins s σ H Q I h =>
 wpAny_Dict_empty ⟨.ref s.heap.objs.size,_,I.laid (a:=s.heap.objs.size) (o:=.dT []) (t':=s.toks) (fun _ _ q=>Heap.get?_push_of_some _ q) (Nat.le_refl _) (dt_empty s.heap I.big),rfl,h _ (I.hok.fresh (Nat.le_refl _))⟩
end
structure M1 (X:Cx) (o:Expr) (m:Str) (apos:Pos) (e:Expr) (cpos:Pos):Prop where
 base:attributeBase o m X.env (eval o X.env)=eval o X.env
 few:((backTo cpos (starEach [e] X.env)).all (fun x=>!x.1)&&(backToKw cpos (keywordEach [] X.env)).all (fun x=>x.1.isSome)
  && decide (([e]:List Expr).length+([]:List Keyword).length+(if ([]:List Keyword).isEmpty then 0 else 1) < 30))=true
 line:(apos.endLine == cpos.line)=true
 trees:backTo cpos (starEach [e] X.env)=[(false,eval e X.env)]
structure M2 (X:Cx) (o:Expr) (m:Str) (apos:Pos) (e f:Expr) (cpos:Pos):Prop where
 base:attributeBase o m X.env (eval o X.env)=eval o X.env
 few:((backTo cpos (starEach [e,f] X.env)).all (fun x=>!x.1)&&(backToKw cpos (keywordEach [] X.env)).all (fun x=>x.1.isSome)
  && decide (([e,f]:List Expr).length+([]:List Keyword).length+(if ([]:List Keyword).isEmpty then 0 else 1) < 30))=true
 line:(apos.endLine == cpos.line)=true
 trees:backTo cpos (starEach [e,f] X.env)=[(false,eval e X.env),(false,eval f X.env)]
def IsD (H:Hp) (a:Addr):Prop:=(∃kvs,Rd H a (.dK kvs))∨∃kvs,Rd H a (.dT kvs)
theorem isD_at {X : Cx} {pins : List (Addr × Obj)} {σ : St} {H : Hp} {s : Shared} {a : Addr} (I : Inv X pins σ H s) (d : IsD H a) :
    s.TypeIs (.ref a) "dict"∧(∀b,Value.ref a=.ref b->∃ob,s.heap.get? b=some ob∧ob.dict=none)∧(a == sysModules)=false:=by
  rcases d with ⟨kvs,e⟩|⟨kvs,e⟩
  · obtain ⟨_,hd,vs,_,dd⟩:=UN I.hok e
    refine ⟨dd.typeIs,fun b q=>?_,hd⟩
    cases q
    obtain ⟨ob,_,_,h1,h2,_⟩:=dd
    exact ⟨ob,h1,h2.2.1⟩
  · obtain ⟨_,hd,xs,_,dd⟩:=T4 I.hok e
    refine ⟨dd.typeIs,fun b q=>?_,hd⟩
    cases q
    obtain ⟨ob,_,_,h1,h2,_⟩:=dd
    exact ⟨ob,h1,h2.2.1⟩
section
variable {X:Cx} {pins:List (Addr × Obj)} {σ:St} {H:Hp} {s:Shared} {a:Addr} {y d:V} {u r:Value} {o:Option V} {A:Around} {E:Value->Shared->Prop}
theorem d_get1 {Q : Value -> Shared -> Prop} (hu : A.units + 1 < cLine) (I : Inv X pins σ H s) (g : DGet H a y o) (ry : RelV y u) (h : ∀ w' s',Inv X pins σ H s' -> RelV (o.getD .non) w' -> Q w' s') :
    wpAny (model X.prog X.w) A (call (.builtin "dict.get") [.ref a,u]) Q E s:=by
  rcases g with ⟨kvs,k,e,ey,l⟩|⟨kvs,k,b,e,ey,eb,l⟩
  · subst ey
    obtain ⟨z,hd,vs,rel,dd⟩:=UN I.hok e
    refine call_meetsIn PySem.F.slot_dict_get dd.typeIs PySem.F.entry_dict_get (PySem.F.args_dict_get_2 _ _) (meets_dict_get (ZQ X.prog X.w) a (RH ry) hd) ⟨_,dd.mapOf,h _ _ (I.tok _) ?_⟩
    rw[l]
    exact (rel.val k).getD rfl
  · subst ey
    cases (show u=Value.ref b from ry)
    obtain ⟨z,hd,xs,rel,dd⟩:=T4 I.hok e
    refine call_meetsIn PySem.F.slot_dict_get dd.typeIs PySem.F.entry_dict_get (PySem.F.args_dict_get_2 _ _) (meetsH_dict_get (tupleKind (ZQ X.prog X.w)) a b hd) ⟨tupleKind_room_in1 hu,k,xs,Uk I.hok eb,dd,h _ _ (I.tok _) ?_⟩
    rw[l]
    exact (rel.val k).getD rfl
theorem d_get2 {Q : Value -> Shared -> Prop} (hu : A.units + 1 < cLine) (I : Inv X pins σ H s) (g : DGet H a y o) (ry : RelV y u) (rd : RelV d r) (h : ∀ w' s',Inv X pins σ H s' -> RelV (o.getD d) w' -> Q w' s') :
    wpAny (model X.prog X.w) A (call (.builtin "dict.get") [.ref a,u,r]) Q E s:=by
  rcases g with ⟨kvs,k,e,ey,l⟩|⟨kvs,k,b,e,ey,eb,l⟩
  · subst ey
    obtain ⟨z,hd,vs,rel,dd⟩:=UN I.hok e
    refine call_meetsIn PySem.F.slot_dict_get dd.typeIs PySem.F.entry_dict_get (PySem.F.args_dict_get_3 _ _ _) (meets_dict_get_default (ZQ X.prog X.w) a (RH ry) hd r) ⟨_,dd.mapOf,h _ _ (I.tok _) ?_⟩
    rw[l]
    exact (rel.val k).getD rd
  · subst ey
    cases (show u=Value.ref b from ry)
    obtain ⟨z,hd,xs,rel,dd⟩:=T4 I.hok e
    refine call_meetsIn PySem.F.slot_dict_get dd.typeIs PySem.F.entry_dict_get (PySem.F.args_dict_get_3 _ _ _) (meetsH_dict_get_default (tupleKind (ZQ X.prog X.w)) a b hd r) ⟨tupleKind_room_in1 hu,k,xs,Uk I.hok eb,dd,h _ _ (I.tok _) ?_⟩
    rw[l]
    exact (rel.val k).getD rd
end
def tDGet1 (td ty:TE):TE:=fun σ H Q=>td σ H fun x H1=>∃a,x=.ref a∧IsD H1 a∧ty σ H1 fun y H2=>∃o,DGet H2 a y o∧Q (o.getD .non) H2
def tDGet2 (td ty tx:TE):TE:=fun σ H Q=>td σ H fun x H1=>∃a,x=.ref a∧IsD H1 a∧ty σ H1 fun y H2=>tx σ H2 fun z H3=>∃o,DGet H3 a y o∧Q (o.getD z) H3
section
variable {X:Cx} {o e f:Expr} {apos cpos:Pos} {td ty tx:TE}
theorem pe_dget1 (hu:X.A.units+1 < cLine) (ho:PE X o td) (he:PE X e ty) (m:M1 X o "get" apos e cpos):PE X (.Call (.Attribute o "get" apos) [e] [] cpos) (tDGet1 td ty):=by
 intro pins s σ H Q I h
 refine wpAny_Call_method m.base m.few m.line PySem.F.plainAttrs_dict PySem.F.slot_dict_get PySem.F.type_dict_get (thn (ho pins s σ H _ I h) fun u s1 ⟨x,H1,I1,rx,a,ex,d,q1⟩=>?_)
 subst ex
 obtain rfl:u=Value.ref a:=rx
 obtain ⟨t1,t2,_⟩:=isD_at I1 d
 refine ⟨t1,t2,?_⟩
 rw[m.trees]
 refine Calls.callWith_builtin rfl (Calls.evalArgs_plain (Calls.spliced_cons (thn (he pins s1 σ H1 _ I1 q1) fun iv s2 ⟨y,H2,I2,ry,ov,g,q2⟩=>Calls.spliced_nil ?_)))
 exact d_get1 hu I2 g ry fun w' s3 I3 rw'=>⟨_,H2,I3,rw',q2⟩
theorem pe_dget2 (hu:X.A.units+1 < cLine) (ho:PE X o td) (he:PE X e ty) (hf:PE X f tx) (m:M2 X o "get" apos e f cpos):PE X (.Call (.Attribute o "get" apos) [e,f] [] cpos) (tDGet2 td ty tx):=by
 intro pins s σ H Q I h
 refine wpAny_Call_method m.base m.few m.line PySem.F.plainAttrs_dict PySem.F.slot_dict_get PySem.F.type_dict_get (thn (ho pins s σ H _ I h) fun u s1 ⟨x,H1,I1,rx,a,ex,d,q1⟩=>?_)
 subst ex
 obtain rfl:u=Value.ref a:=rx
 obtain ⟨t1,t2,_⟩:=isD_at I1 d
 refine ⟨t1,t2,?_⟩
 rw[m.trees]
 refine Calls.callWith_builtin rfl (Calls.evalArgs_plain (Calls.spliced_cons (thn (he pins s1 σ H1 _ I1 q1) fun iv s2 ⟨y,H2,I2,ry,q2⟩ =>
  Calls.spliced_cons (thn (hf pins s2 σ H2 _ I2 q2) fun fv s3 ⟨z,H3,I3,rz,ov,g,q3⟩=>Calls.spliced_nil ?_))))
 exact d_get2 hu I3 g ry rz fun w' s4 I4 rw'=>⟨_,H3,I4,rw',q3⟩
end
section
variable {X:Cx} {pins:List (Addr × Obj)} {σ:St} {H:Hp} {s:Shared} {a:Addr} {kvs:List (Key × V)} {A:Around} {E:Value->Shared->Prop}
end
section
variable {X:Cx} {pins:List (Addr × Obj)} {σ:St} {H:Hp} {s:Shared} {a:Addr} {y:V} {u:Value} {A:Around} {E:Value->Shared->Prop}
end
end L2
namespace Att
open PySem PySem.W PySem.Calls PyProof.Rows
theorem Ta {P:Params} {h:Heap}:∀(ns:List Int) (vs:List Value),WellAll P h vs (ns.map WData.int)->IntsAre vs ns:=by
 intro ns
 induction ns with
 |nil =>
  intro vs w
  rw[List.map_nil]at w
  cases w
  exact .nil
 |cons n ns ih =>
  intro vs w
  rw[List.map_cons]at w
  cases w with
  |cons a b =>
   cases a
   exact .cons _ _ (ih _ b)
theorem script_of {l : OpenLaw} {n : Nat} (hn : l.most = some n) {P : Params} {h : Heap} {args : List WData} {vals : List Value}
    (hpre:l.row.toRowW.claim.pre args=true) (hwl:WellAll P h vals args) :
    ∃a vs ns,vals=[Value.ref a]∧args=[WData.list (ns.map WData.int)]∧h.get? a=some { cls:=.type "list",data:=.seq vs.toArray }∧IntsAre vs ns∧ns.length<=n:=by
  have hsh:WShape.hasAll [] args [.list .int]=true:=(pre_splitW hpre).1
  have hc:l.pre.holds [] { args:=args }=true:=(pre_splitW hpre).2
  obtain ⟨d,r,rfl,h1,h2⟩:=hasAllW_cons hsh
  obtain rfl:=hasAllW_nil h2
  obtain ⟨xs,rfl,h3⟩:=hasW_list h1
  obtain ⟨ns,rfl⟩:=items_int h3
  have hlen:ns.length<=n:=by
    unfold OpenLaw.pre at hc
    have h4:(WTm.not (.lt (.lit (.int (n:Int))) (.len (.arg 0)))).holds [] { args:=[.list (ns.map .int)] }=true:=by
      have h4:=(holds_andW hc).1
      rw[hn]at h4
      exact h4
    have h5:=condW_of h4 (w_not (w_lt w_lit (w_len_list (w_arg rfl))))
    rw[List.length_map]at h5
    refine Nat.le_of_not_lt fun q=>?_
    have q':(n:Int) < ((ns.length:Nat):Int):=by omega
    first
      |(rw[decide_eq_true q']at h5; exact absurd h5 (by decide))
      |(simp at h5; omega)
  cases hwl with
  |cons w1 w2 =>
    cases w2
    cases w1 with
    |list ho hall=>exact ⟨_,_,ns,rfl,rfl,ho,Ta ns _ hall,hlen⟩
theorem post_true (l:OpenLaw) (args:List WData):l.row.toRowW.claim.post args (.bool true) args=true :=
 postW_of (r:=l.row.toRowW) (X:=(true == true))
  (show WShape.has [] (.bool true) .bool=true by first|rfl|decide|simp[WShape.has,WShape.arms,WShape.armsAll])
  (show (WTm.eq .res (.lit (.bool true))).value [] { args:=args,res:=some (.bool true),after:=args }=some (.bool (true == true)) from w_eq_bool (w_res rfl) w_lit) rfl
theorem attach_call {l : OpenLaw} {n : Nat} {q : Program} {loose : List Str} {XP : (Str -> Option Value) -> Heap -> Prop} {YP : World -> Heap -> Prop} {d : DefRec}
    (hn:l.most=some n) (hdf:d.params.defaults=[])
    (call:∀(w:World) (s₀ s₁:Shared) (mg mb:Str->Option Value) (fa:Addr) (o:Obj) (pm cd doc:Value) (a:Addr) (vs:List Value) (ns:List Int),
      Ground q loose [] XP w s₀ mg mb s₁.heap->YP w s₁.heap ->
      s₁.heap.get? fa=some o->o.data=.func (docDef d.name d.params d.body d.scope pm cd doc)->s₁.heap.CodeRec cd d.name->mg d.name=some (.ref fa) ->
      s₁.heap.get? a=some { cls:=.type "list",data:=.seq vs.toArray }->IntsAre vs ns->ns.length<=n->s₁.gens=#[] ->
      codeAny (model l.prog w) callerA (.call (.ref fa) ⟨[.ref a],[]⟩) (fun r s'=>r=.ok (.ret (.bool true))∧OldK s₁.heap s'.heap∧s'.os=s₁.os∧AllBare s'.gens) s₁) :
    WalkO q loose XP YP l.row.toRowW d [] (fun f vs=>PySem.call f vs):=by
  intro w s₀ s₁ mg mb G Y fa o pm cd doc dV kV ho hd hcd hD hmg hg args vals as hpre hlay hrd hwl hlo
  obtain rfl:dV=.none:=Dflts.none hD hdf
  obtain rfl:kV=.none:=Dflts.noKw hD
  obtain ⟨a,vs,ns,rfl,rfl,hobj,hints,hlen⟩:=script_of hn hpre hwl
  refine enter_call (codeAny_mono (call w s₀ s₁ mg mb fa o pm cd doc a vs ns G Y ho (fd_plain hd) hcd hmg hobj hints hlen hg) fun r s' hq=>?_)
  obtain ⟨rfl,h2,h3,h4⟩:=hq
  exact ⟨.inl ⟨.bool true,.bool true,[],rfl,fun _=>rfl,.bool true,post_true l _,fun _=>⟨List.Pairwise.nil,fun _ hm=>(nomatch hm)⟩⟩,h2,h3,h4⟩
section
variable {prog:Program} {w:World} {A:Around} {E:Value->Shared->Prop} {s:Shared} {K:Frag}
end
end Att
namespace L2
open PySem PySem.Spec PyProof.Rows
theorem RJ:∀{vs:List Value} {ns:List Int},IntsAre vs ns->Vals (ns.map V.int) vs
 |_,_,.nil=>.nil
 |_,_,.cons n t h=>.cons ⟨t,rfl⟩ (RJ h)
def Only (H:Hp):Prop:=∀b,H b=none∨∃o xs,H b=some (.frz o (.lst xs))
theorem law_call {P : Program} {w : World} {K : PySem.W.Frag} {mg mb : Str -> Option Value} {CX : CXT} {k : Nat} {fa a : Addr} {fd : FuncData} {x : Str} {sp : Sp} {s₁ : Shared} {vs : List Value} {ns : List Int}
    (KX:K.In s₁.heap) (hns:s₁.heap.Ns mainGlobals mg) (hb:s₁.heap.Ns builtinsNs mb) (hbb:∀x:Str,x≠"__name__"->mb x=bootBuiltins x) (hlim:s₁.heap.NoLimit) (hg:s₁.gens=#[])
    (ha:s₁.heap.get? a=some { cls:=.type "list",data:=.seq vs.toArray }) (hi:IntsAre vs ns) (hl:ns.length<=sizeLine) (hr:Room k callerA)
    (F:∀base:Heap,K.In base->base.Ns mainGlobals mg->FnOk P w K mg base CX k fa fd [x] sp) (hbind:∀(s:Shared) (u:Value),BindsTo s fd ⟨[u],[]⟩ [(x,u)])
    (hsp:∀H:Hp,Only H->SqL K H a (ns.map V.int)->sp [.ref a] H (fun v _=>v=.bl true) fun _ _ _=>False)
    (hCX:∀H e s',CX [] H s₁ (fun _ _ _=>False) e s'->False) :
    codeAny (model P w) callerA (.call (.ref fa) ⟨[.ref a],[]⟩) (fun r s'=>r=.ok (.ret (.bool true))∧OldK s₁.heap s'.heap∧s'.os=s₁.os∧AllBare s'.gens) s₁:=by
  have rv:=RJ hi
  have lenV:=hi.length
  have core : ∀ H : Hp,Only H -> SqL K H a (ns.map V.int) -> HOk P w H s₁.heap -> (∀ b,H b ≠ none -> b = a) -> (H a ≠ none -> K.lookup a = none) ->
      codeAny (model P w) callerA (.call (.ref fa) ⟨[.ref a],[]⟩) (fun r s'=>r=.ok (.ret (.bool true))∧OldK s₁.heap s'.heap∧s'.os=s₁.os∧AllBare s'.gens) s₁:=by
    intro H hO hS hok hA hK
    have base_of:∀{b:Addr} {o:Obj},s₁.heap.get? b=some o->H b=none->(QG s₁.heap H).get? b=some o:=fun e n=>hidT_get e n
    have noA:∀{b:Addr} {o:Obj} {es:Array DictEntry} {ep:Nat},s₁.heap.get? b=some o->o.data=.dict es ep->H b=none:=fun {b o es ep} e d=>by
      cases q:H b with
      |none=>rfl
      |some u =>
        have e':b=a:=hA b (by rw[q]; simp)
        subst e'
        rw[ha]at e; cases e
        have d':Data.seq vs.toArray _=Data.dict es ep:=d
        cases d'
    have nsK:∀{b:Addr} {m:Str->Option Value},s₁.heap.Ns b m->(QG s₁.heap H).Ns b m:=fun {b m} ⟨o,es,ep,e,d,r⟩=>⟨o,es,ep,base_of e (noA e d),d,r⟩
    have hKb:K.In (QG s₁.heap H):=fun b o e=>base_of (KX b o e) (by
      cases q:H b with
      |none=>rfl
      |some u =>
        have e':b=a:=hA b (by rw[q]; simp)
        subst e'
        rw[hK (by rw[q]; simp)]at e; cases e)
    have hM:Mod K mg (QG s₁.heap H):=⟨hKb,nsK hns,⟨mb,nsK hb,hbb⟩,let ⟨mc,h1,h2⟩:=hlim; ⟨mc,nsK h1,h2⟩⟩
    have e0:Env0 P w K mg (QG s₁.heap H) callerA [] s₁ H:=⟨rfl,hM,fun b o e=>of_hidT e,Nat.le_of_eq (hidT_size _ _),trivial,fun b hb=>absurd (show b∈([]:List Addr) from hb) (by simp),hok,.of_eq hg⟩
    refine codeAny_mono ((F _ hKb (nsK hns)).run callerA [] s₁ H ⟨[.ref a],[]⟩ [.ref a] [.ref a] _ _ hr e0 (hbind s₁ (.ref a)) (.cons rfl .nil) (hsp H hO hS)) fun r s' h=>?_
    cases r with
    |error e=>exact (hCX H e s' h).elim
    |ok fl =>
      cases fl with
      |next=>exact False.elim h
      |brk=>exact False.elim h
      |cont=>exact False.elim h
      |ret u =>
        obtain ⟨v,H',os,bare,un,hok',r',q⟩:=h
        have q':v=.bl true:=q
        subst q'
        obtain rfl:u=Value.bool true:=r'
        refine ⟨rfl,OldK.of_keep fun b o e=>?_,os,bare⟩
        cases q:H b with
        |none=>exact un.keep b o e q (by intro z; exact absurd (show b∈([]:List Addr) from z) (by simp)) (by simp)
        |some u =>
          rcases hO b with z|⟨ob,xs,z⟩
          · rw[q]at z; cases z
          · have z2:=un.frzs b ob _ z
            obtain ⟨e1,_⟩:=hok b _ z
            obtain ⟨e2,_⟩:=hok' b _ z2
            rw[e]at e1; cases e1
            exact e2
  cases hk:K.lookup a with
  |some o =>
    have e:=KX a o hk
    rw[ha]at e
    cases e
    refine core (fun _=>none) (fun _=>.inl rfl) (.inr ⟨_,vs.toArray,_,hk,rfl,rfl,rfl,by rw[List.size_toArray,lenV]; exact hl,by simpa using rv⟩) (fun b u z=>by have z':(none:Option HO)=some u:=z; cases z') (fun b z=>absurd rfl z) fun z=>absurd rfl z
  |none =>
    refine core (fun b=>if b=a then some (.frz { cls:=.type "list",data:=.seq vs.toArray } (.lst (ns.map V.int))) else none) (fun b=>?_) (.inl (.inr ⟨{ cls:=.type "list",data:=.seq vs.toArray },if_pos rfl⟩)) (fun b u z=>?_) (fun b z=>?_) fun _=>hk
    · by_cases hb:b=a
      · exact .inr ⟨_,_,if_pos hb⟩
      · exact .inl (if_neg hb)
    · by_cases hb:b=a
      · have z':=(if_pos hb).symm.trans z
        cases z'
        subst hb
        exact ⟨ha,by rw[List.length_map]; exact hl,vs,_,rv,ha⟩
      · have z':=(if_neg hb).symm.trans z
        cases z'
    · by_cases hb:b=a
      · exact hb
      · exact absurd (if_neg hb) z
end L2
namespace L2
open PySem PySem.Spec PyProof.Rows
end L2
namespace L2
open PySem PySem.Spec PyProof.Rows
abbrev CX0:CXT:=fun _ _ _ _ _ _=>False
abbrev E0:XK:=fun _ _ _=>False
structure Fun (K:PySem.W.Frag) (x qual:Str) (st:Stmt) (f:Addr) (fd:FuncData):Prop where
 ex:∃(oc:Value) (od:Option Addr) (kV doc pm:Value) (an:Option Addr) (cdv ct:Value) (osl:Array (Option Value)),
  fd=PySem.W.fnOf x qual (Zz st) (Zv st) (Zg st) .none kV doc pm an cdv ct∧K.lookup f=some ⟨oc,od,.func fd,osl⟩∧PySem.W.codeIn K cdv qual=true
 kp:PySem.W.keepIn K (.ref f)=true
section
variable {P:Program} {w:World} {K:PySem.W.Frag} {mg:Str->Option Value} {base:Heap}
theorem Fun.ok {x qual : Str} {st : Stmt} {f : Addr} {fd : FuncData} {N ps : List Str} {k : Nat} {sp : Sp} (F : Fun K x qual st f fd) (S : FnScope N ps (Zg st)) (len : ∀ vs H Q E,sp vs H Q E -> vs.length = ps.length)
    (hbody:∀(cdv:Value) (A:Around) (outer:List Env) (s:Shared) (H:Hp) (vs:List V) (Q:VK) (E:XK),Room k (A.deeper (envOfC qual (Zg st) s.heap.objs.size f cdv))->sp vs H Q E ->
      ∃t,PSs (SG CX0 P w K mg base N qual (Zg st) f cdv A outer s H E).nox (Zv st) t∧t { nx:=fun _ H'=>Q .non H',rt:=Q } (start N vs) H):FnOk P w K mg base CX0 (k+1) f fd ps sp:=by
  obtain ⟨oc,od,kV,doc,pm,an,cdv,ct,osl,rfl,lk,hcd⟩:=F.ex
  refine fn_of lk hcd S len fun A outer s H vs Q E hr hsp=>?_
  obtain ⟨t,h,q⟩:=hbody cdv A outer s H vs Q E hr hsp
  exact ⟨t,h.nox,q⟩
theorem Fun.binds {x qual : Str} {st : Stmt} {f : Addr} {fd : FuncData} {ps : List Str} (F : Fun K x qual st f fd)
    (h:∀(kV doc pm:Value) (an:Option Addr) (cdv ct:Value) (us:List Value),us.length=ps.length->bindArgs (PySem.W.fnOf x qual (Zz st) (Zv st) (Zg st) .none kV doc pm an cdv ct) ⟨us,[]⟩=pure (ps.zip us)):Binds K fd ps []:=by
  obtain ⟨oc,od,kV,doc,pm,an,cdv,ct,osl,rfl,lk,hcd⟩:=F.ex
  exact .all (h kV doc pm an cdv ct)
theorem ZN {x qual : Str} {st : Stmt} {f : Addr} {oc : Value} {od an : Option Addr} {osl : Array (Option Value)} {kV doc pm cdv ct : Value} (l : K.lookup f = some ⟨oc,od,.func (PySem.W.fnOf x qual (Zz st) (Zv st) (Zg st) .none kV doc pm an cdv ct),osl⟩)
    (c:PySem.W.codeIn K cdv qual=true) (k:PySem.W.keepIn K (.ref f)=true):Fun K x qual st f (PySem.W.fnOf x qual (Zz st) (Zv st) (Zg st) .none kV doc pm an cdv ct):=⟨⟨oc,od,kV,doc,pm,an,cdv,ct,osl,rfl,l,c⟩,k⟩
end
section
variable {X:Cx}
end
def Same (H H':Hp):Prop:=∀b o,H b=some o->H' b=some o
theorem Same.refl (H:Hp):Same H H:=fun _ _ h=>h
theorem Same.trans {H H1 H2:Hp} (a:Same H H1) (b:Same H1 H2):Same H H2:=fun c o h=>b c o (a c o h)
theorem Same.free {H H':Hp} (e:Same H H') {l:Addr} (h:H' l=Option.none):H l=Option.none:=by
 cases q:H l with
 |none=>rfl
 |some o =>
  rw[e l o q]at h
  cases h
theorem Same.seq {K:PySem.W.Frag} {H H':Hp} {a:Addr} {xs:List V} (e:Same H H') (h:SqL K H a xs):SqL K H' a xs:=by
 rcases h with (h|⟨o,h⟩)|h
 ·exact .inl (.inl (e _ _ h))
 ·exact .inl (.inr ⟨o,e _ _ h⟩)
 ·exact .inr h
end L2
namespace L2
open PySem PySem.Spec PyProof.Rows
section
variable {X:Cx}
theorem call_lenD:CallR X (.builtin "len") (fun xs H Q=>∃a kvs,xs=[V.ref a]∧H a=some (.dK kvs)∧Q (.int kvs.length) H):=by
 intro pins s σ H xs us Q I r h
 obtain ⟨a,kvs,rfl,ha,q⟩:=h
 obtain ⟨u,rfl,ru⟩:=Q7 r
 cases ru
 exact d_len I (.inl ha) fun t s' I'=>⟨.int kvs.length,H,I',⟨t,rfl⟩,q⟩
end
end L2
namespace L2
open PySem PySem.Spec PyProof.Rows
section
variable {κ:Type} [DecidableEq κ]
end
end L2
namespace L2
open PySem PySem.Spec PyProof.Rows
mutual
inductive DV (H:Hp):V->PyData->Prop
 |non:DV H .non .none
 |bl (b:Bool):DV H (.bl b) (.bool b)
 |int (i:Int):DV H (.int i) (.int i)
 |str (x:Str):DV H (.str x) (.str x)
 |lst {a:Addr} {xs:List V} {ds:List PyData} (e:H a=some (.lst xs)) (r:DVs H xs ds):DV H (.ref a) (.list ds)
 |tup {a:Addr} {xs:List V} {ds:List PyData} (e:H a=some (.tup xs)) (r:DVs H xs ds):DV H (.ref a) (.tuple ds)
inductive DVs (H:Hp):List V->List PyData->Prop
 |nil:DVs H [] []
 |cons {x:V} {xs:List V} {d:PyData} {ds:List PyData} (h:DV H x d) (r:DVs H xs ds):DVs H (x::xs) (d::ds)
end
section
variable {X:Cx} {pins:List (Addr × Obj)} {σ:St} {H:Hp} {s:Shared}
end
section
variable {X:Cx}
end
section
variable {X:Cx} {st:Stmt} {rest:List Stmt} {t u:TS}
end
section
variable {X:Cx} {e:Expr} {es:List Expr} {te:TE} {pos:Pos}
def tFmt (te:TE):TE:=fun σ H Q=>te σ H fun x H1=>∃i,x=.int i∧i.natAbs.log2 < 1920∧Q (.str (toString i)) H1
theorem pe_fmt (he:PE X e te):PE X (.FormattedValue e (-1) none pos) (tFmt te):=by
 intro pins s σ H Q I h
 refine PyProof.Rows.FormattedValue_plain (thn (he pins s σ H _ I h) fun v s1 ⟨x,H1,I1,r1,i,ex,hb,q⟩=>?_)
 subst ex
 obtain ⟨t,rfl⟩:=r1
 exact PySem.wpAny_formatField_int hb ⟨.str (toString i),H1,I1.tok _,⟨_,rfl⟩,q⟩
def PJ (X:Cx) (n:Nat) (es:List Expr) (t:TA):Prop :=
 ∀(pins:List (Addr × Obj)) (s:Shared) (σ:St) (H:Hp) (acc:Str) (Q:VK),Inv X pins σ H s->acc.length+n * es.length<=sizeLine ->
  t σ H (fun _ H1=>∀z:Str,Q (.str z) H1)->wpAny (model X.prog X.w) X.A (joinParts acc (evalEach es X.env)) (EP X pins σ Q) X.xe s
def tPart1 (n:Nat) (te:TE) (t:TA):TA:=fun σ H Q=>te σ H fun x H1=>(∃y:Str,x=.str y∧y.length<=n)∧t σ H1 Q
theorem pj_nil {n:Nat}:PJ X n [] tNil:=by
 intro pins s σ H acc Q I hl h
 exact PyProof.Rows.joinParts_nil ⟨.str acc,H,I.tok _,⟨_,rfl⟩,h acc⟩ (by simpa using hl)
theorem pj_cons {n:Nat} {t:TA} (he:PE X e te) (hr:PJ X n es t) (hs:evalEach (e::es) X.env=eval e X.env::evalEach es X.env:=by rfl):PJ X n (e::es) (tPart1 n te t):=by
 intro pins s σ H acc Q I hl h
 rw[hs]
 refine PyProof.Rows.joinParts_cons (thn (he pins s σ H _ I h) fun v s1 ⟨x,H1,I1,r1,⟨y,ex,hy⟩,q⟩=>?_)
 subst ex
 obtain ⟨t',rfl⟩:=r1
 have hz:acc.length+n * es.length+n<=sizeLine:=by
  rw[List.length_cons,Nat.mul_succ]at hl; omega
 have hap:(acc++y).length=acc.length+y.length:=strLen_append ..
 have hm:(acc++y).length<=sizeLine:=by rw[hap]; omega
 exact ⟨hm,hr pins s1 σ H1 (acc++y) Q I1 (by rw[hap]; omega) q⟩
def tJoin (t:TA):TE:=fun σ H Q=>t σ H fun _ H1=>∀z:Str,Q (.str z) H1
theorem pe_join {v₁ v₂ : Expr} {rest : List Expr} {n : Nat} {t : TA} (h : PJ X n (v₁ :: v₂ :: rest) t) (hn : n * (v₁ :: v₂ :: rest).length <= 16000000)
    (hs:evalEach (v₁::v₂::rest) X.env=eval v₁ X.env::eval v₂ X.env::evalEach rest X.env:=by rfl):PE X (.JoinedStr (v₁::v₂::rest) pos) (tJoin t):=by
  intro pins s σ H Q I q
  refine PyProof.Rows.JoinedStr_many ?_
  rw[← hs]
  refine h pins s σ H Str.empty Q I ?_ q
  rw[sizeLine_eq]
  have:Str.empty.length=0:=rfl
  omega
theorem tFmt_part {i:Int} {n:Nat} (h:i.natAbs.log2 < 1920) (hn:1921<=n):(toString i:Str).length<=n:=Nat.le_trans (PyProof.Rows.int_text_len_1921 h) hn
end
end L2
namespace L2
open PySem PySem.Spec PyProof.Rows
theorem ObjOk.ex {P:Program} {w:World} {H:Hp} {h:Heap} {a:Addr} {o:HO} (x:ObjOk P w H h a o):∃ob,h.get? a=some ob:=by
 cases o with
 |lst xs=>obtain ⟨_,_,_,_,e⟩:=x; exact ⟨_,e⟩
 |tup xs=>obtain ⟨_,_,_,ob,e,_⟩:=x; exact ⟨_,e⟩
 |dK kvs=>obtain ⟨_,_,_,_,o,_,_,e,_⟩:=x; exact ⟨_,e⟩
 |dT kvs=>obtain ⟨_,_,_,_,o,_,_,e,_⟩:=x; exact ⟨_,e⟩
 |set S n=>obtain ⟨o,_,_,_,e,_⟩:=x; exact ⟨_,e⟩
 |ins C dx fs=>obtain ⟨_,_,_,e,_⟩:=x; exact ⟨_,e⟩
 |own y=>exact x
 |xd fs=>obtain ⟨_,⟨_,_,_,e,_⟩,_⟩:=x; exact ⟨_,e⟩
 |rng lo hi=>obtain ⟨_,_,_,e⟩:=x; exact ⟨_,e⟩
 |frz ob u=>obtain ⟨e,_⟩:=x; exact ⟨_,e⟩
 |tbl ps=>exact ⟨_,x⟩
 |met f y=>exact ⟨_,x⟩
 |ext φ=>obtain ⟨_,e,_⟩:=x; exact e
theorem Un.on {fs : List Addr} {H H1 : Hp} {h0 h1 h2 : Heap} (u : Un fs [] H H1 h0 h1) (kB : ∀ b o o1,h0.get? b = some o -> b ∉ fs -> h1.get? b = some o1 -> h2.get? b = some o1)
    (ks:∀b o o1,h0.get? b=some o->b∈fs->h1.get? b=some o1->∃sl,h2.get? b=some { o1 with slots:=sl }):Un fs [] H H1 h0 h2 where
  keep:=fun b o e n hb hx=>kB b o o e hb (u.keep b o e n hb hx)
  slot:=fun b o e n hb hx=>by
    obtain ⟨sl,e1⟩:=u.slot b o e n hb hx
    obtain ⟨sl2,e2⟩:=ks b o _ e hb e1
    exact ⟨sl2,e2⟩
  free:=u.free
  there:=fun b o e hx=>by
    obtain ⟨o1,e1⟩:=u.there b o e hx
    by_cases hb:b∈fs
    · obtain ⟨sl,e2⟩:=ks b o o1 e hb e1
      exact ⟨_,e2⟩
    · exact ⟨o1,kB b o o1 e hb e1⟩
  tups:=u.tups
  frzs:=u.frzs
  tbls:=u.tbls
structure Fly (P:Program) (w:World) (outer:List Env) (H:Hp) (s:Shared) (H':Hp) (a:Addr) (cls:Value) (s':Shared):Prop where
 os:s'.os=s.os
 bare:AllBare s'.gens
 un:Un (frs outer) [] H H' s.heap s'.heap
 hok:HOk P w H' s'.heap
 fl:∃B a0,Heap.FlyingW B outer a cls a0 s'.heap∧(∀b o ob,H' b=some o->s'.heap.get? b=some ob->B.get? b=some ob) ∧
  ∀b o ob,s.heap.get? b=some o->b ∉ frs outer->s'.heap.get? b=some ob->B.get? b=some ob
def CXw (P:Program) (w:World):CXT:=fun outer H s E e s'=>∃a cls H',e=.ref a∧Fly P w outer H s H' a cls s'∧E cls none H'
theorem HOk.flown {P:Program} {w:World} {H:Hp} {h h' B:Heap} (x:HOk P w H h) (c1:∀b o ob,H b=some o->h.get? b=some ob->B.get? b=some ob) (st:B.StaysIn h'):HOk P w H h':=fun b o e =>
 (x b o e).stay (fun c u hc q=>by
  rcases hc with rfl|hc
  ·exact st _ _ (c1 _ _ _ e q)
  ·exact st _ _ (c1 _ _ _ hc q)) (fun _ q=>q) fun _ _ q=>q
section
variable {P:Program} {w:World} {K:PySem.W.Frag} {mg:Str->Option Value} {base:Heap} {N:List Str} {qual:Str} {scope:Scope} {f:Addr} {cd:Value} {A:Around} {outer:List Env} {s:Shared} {H:Hp} {E:XK}
theorem Zt:Xn (CXw P w) (SG (CXw P w) P w K mg base N qual scope f cd A outer s H E) E:=by
 intro pins σ H1 s1 e s' I hcx
 obtain ⟨a,cls,H',rfl,fly,hE⟩:=hcx
 have I':=I.call' (ch:=[]) fly.os fly.un fly.hok fly.bare (fun _ z=>nomatch z)
 obtain ⟨B,a0,fl,c1,c2⟩:=fly.fl
 have hfr:(A.deeper (envOfC qual scope s.heap.objs.size f cd)).frames=some (envOfC qual scope s.heap.objs.size f cd::outer):=I.ok.frames
 refine wpAny_leaves_onW (L:=s.heap.objs.size) hfr rfl fl fun h' fl' up=>⟨a,cls,H',rfl,?_,hE⟩
 have hub:Un (frs outer) [] H H' s.heap s'.heap:=I'.base
 have nL:∀b o,s.heap.get? b=some o->b ∉ frs outer->b ∉ frs (envOfC qual scope s.heap.objs.size f cd::outer):=fun b o e hb hm=>by
  unfold frs at hm hb
  rw[List.filterMap_cons]at hm
  rcases List.mem_cons.mp hm with z|z
  ·exact absurd (Heap.lt_size e) (by rw[z]; exact Nat.lt_irrefl _)
  ·exact hb z
 have kB:∀b o o1,s.heap.get? b=some o->b ∉ frs outer->s'.heap.get? b=some o1->B.get? b=some o1:=fun b o o1 e hb e1=>by
  obtain ⟨o2,e2⟩:=(show Un (frs outer) [] H H1 s.heap s1.heap from I.base).there b o e (by simp)
  exact c2 b o2 o1 e2 (nL b o e hb) e1
 refine ⟨I'.os,I'.bare,hub.on (fun b o o1 e hb e1=>fl'.1 _ _ (kB b o o1 e hb e1)) (fun b o o1 e hb e1=>?_),fly.hok.flown c1 fl'.1,B,a0,fl',fun b o ob e eb=>?_,fun b o ob e hb eb=>?_⟩
 ·obtain ⟨_,o',ho',hnf⟩:=I'.funs.mem hb
  have ho':s'.heap.get? b=some o':=ho'
  rw[e1]at ho'
  cases ho'
  exact up b o1 e1 hnf
 ·obtain ⟨ob2,e2⟩:=(fly.hok b o e).ex
  have e3:=c1 b o ob2 e e2
  have e4:=fl'.1 _ _ e3
  have eb:h'.get? b=some ob:=eb
  rw[e4]at eb
  cases eb
  exact e3
 ·obtain ⟨ob2,e2⟩:=hub.there b o e (by simp)
  have e3:=kB b o ob2 e hb e2
  have e4:=fl'.1 _ _ e3
  have eb:h'.get? b=some ob:=eb
  rw[e4]at eb
  cases eb
  exact e3
end
def Throws (X:Cx) (E:XK):Prop:=∀(pins:List (Addr × Obj)) (σ:St) (H:Hp) (s:Shared) (h':Heap) (e:Addr) (cls:Value) (args:List Value),Inv X pins σ H s->Heap.MadeExcOf s.heap h' e cls args->E cls none H->X.xe (.ref e) { s with heap:=h' }
section
variable {P:Program} {w:World} {K:PySem.W.Frag} {mg:Str->Option Value} {base:Heap} {N:List Str} {qual:Str} {scope:Scope} {f:Addr} {cd:Value} {A:Around} {outer:List Env} {s:Shared} {H:Hp} {E:XK}
theorem VH:Throws (SG (CXw P w) P w K mg base N qual scope f cd A outer s H E) E:=by
 intro pins σ H1 s1 h1 e cls args I hx hE
 have hfr:(A.deeper (envOfC qual scope s.heap.objs.size f cd)).frames=some (envOfC qual scope s.heap.objs.size f cd::outer):=I.ok.frames
 have hst:s1.heap.FunFrames base (envOfC qual scope s.heap.objs.size f cd::outer):=I.stack
 have hl:s1.heap.FunFrames (PySem.W.hideAll s1.heap (frs (envOfC qual scope s.heap.objs.size f cd::outer))) (envOfC qual scope s.heap.objs.size f cd::outer) :=
  PySem.W.funFrames_hide hst fun env he a ha=>List.mem_filterMap.mpr ⟨env,he,ha⟩
 refine wpAny_leaves_madeW (base:=PySem.W.hideAll s1.heap (frs (envOfC qual scope s.heap.objs.size f cd::outer))) (h:=s1.heap) (L:=s.heap.objs.size) hfr rfl (fun b o q=>PySem.W.of_hideAll _ q) hl hx fun h' t fl' _ _ up=>⟨e,cls,H1,rfl,?_,hE⟩
 have hub:Un (frs outer) [] H H1 s.heap s1.heap:=I.base
 have nL:∀b o,s.heap.get? b=some o->b ∉ frs outer->b ∉ frs (envOfC qual scope s.heap.objs.size f cd::outer):=fun b o e hb hm=>by
  unfold frs at hm hb
  rw[List.filterMap_cons]at hm
  rcases List.mem_cons.mp hm with z|z
  ·exact absurd (Heap.lt_size e) (by rw[z]; exact Nat.lt_irrefl _)
  ·exact hb z
 have tB:∀b o ob,H1 b=some o->s1.heap.get? b=some ob->(PySem.W.hideAll s1.heap (frs (envOfC qual scope s.heap.objs.size f cd::outer))).get? b=some ob:=fun b o ob e eb =>
  PySem.W.hideAll_get _ eb fun hm=>by
   have:=I.stkFree b hm
   rw[e]at this
   cases this
 have kB:∀b o o1,s.heap.get? b=some o->b ∉ frs outer->s1.heap.get? b=some o1->(PySem.W.hideAll s1.heap (frs (envOfC qual scope s.heap.objs.size f cd::outer))).get? b=some o1:=fun b o o1 e hb e1 =>
  PySem.W.hideAll_get _ e1 (nL b o e hb)
 refine ⟨I.os,I.bare,hub.on (fun b o o1 e hb e1=>fl'.1 _ _ (kB b o o1 e hb e1)) (fun b o o1 e hb e1=>?_),I.hok.flown tB fl'.1,_,_,fl',fun b o ob e eb=>?_,fun b o ob e hb eb=>?_⟩
 ·obtain ⟨_,o',ho',hnf⟩:=I.funs.mem hb
  have ho':s1.heap.get? b=some o':=ho'
  rw[e1]at ho'
  cases ho'
  exact up b o1 (hx.keeps b o1 e1) hnf
 ·obtain ⟨ob2,e2⟩:=(I.hok b o e).ex
  have e3:=tB b o ob2 e e2
  have e4:=fl'.1 _ _ e3
  have eb:h'.get? b=some ob:=eb
  rw[e4]at eb
  cases eb
  exact e3
 ·obtain ⟨ob2,e2⟩:=hub.there b o e (by simp)
  have e3:=kB b o ob2 e hb e2
  have e4:=fl'.1 _ _ e3
  have eb:h'.get? b=some ob:=eb
  rw[e4]at eb
  cases eb
  exact e3
end
theorem exc_of_in {K : PySem.W.Frag} {h : Heap} {C : Addr} {bmB : List Value} {newId : String} (X : K.In h) (q : PySem.W.excIn K C bmB newId = true) :
    ∃bm Nn nm qn bs hdct sn sub ab col dd k0 k1 k2 k3 k5 mN,h.get? C=some (excClassObj nm qn C Nn bs bm hdct sn sub ab col dd k0 k1 k2 k3 k5 newId)∧h.Ns Nn mN∧mN "__init__"=none∧OwnTail h bmB bm:=by
  unfold PySem.W.excIn at q
  split at q
  · rename_i dd cd sl ho
    split at q
    · rename_i C' bm k0 k1 k2 k3 n k5 hm hs
      simp only[Bool.and_eq_true,beq_iff_eq,Bool.not_eq_true']at q
      obtain ⟨⟨⟨⟨⟨e1,e2⟩,hdel⟩,ht⟩,hok⟩,hni⟩:=q
      subst e1 e2
      obtain ⟨nm,bs,mro,ns,qn,hd,sn,sub,ab,col,del⟩:=cd
      dsimp only at hm hdel hok hni
      subst hm hdel
      obtain ⟨l⟩:=sl
      have hs:l=_:=hs
      subst hs
      exact ⟨bm,ns,nm,qn,bs,hd,sn,sub,ab,col,dd,k0,k1,k2,k3,k5,_,X _ _ ho,.of_isNs (PySem.W.isNs_of_in X hok),PySem.W.nsMap_none_of_in X hok hni,PySem.W.tail_of_in X ht⟩
    · cases q
  · cases q
section
variable {X:Cx} {x:Str} {C:Addr} {bmB:List Value} {B newId initId:String} {E:XK} {e₀:Expr} {rest:List Expr} {np cpos pos:Pos} {t:TA}
def tRaise (C:Addr) (E:XK) (t:TA):TS:=fun _ σ H=>t σ H fun vs H1=>vs.length<=sizeLine∧E (.ref C) none H1
theorem ps_raise (FB : ExcBaseFacts B newId initId bmB) (q : PySem.W.excIn X.K C bmB newId = true) (hg : Gl X x) (hm : X.mg x = some (.ref C)) (hc : X.calm = true) (hE : Throws X E) (ha : PA X (e₀ :: rest) t)
    (he:starEach (e₀::rest) X.env=(false,eval e₀ X.env)::starEach rest X.env:=by rfl) (hpl:(backTo cpos (starEach rest X.env)).any (·.1)=false:=by rfl) (hdb:(x == ("__debug__":Str))=false:=by decide) :
    PS X (.Raise (some (.Call (.Name x np) (e₀::rest) [] cpos)) none pos) (tRaise C E t):=by
  intro pins s σ H D I h
  obtain ⟨bm,Nn,nm,qn,bs,hdct,sn,sub,ab,col,dd,k0,k1,k2,k3,k5,mN,hC,hN,hni,T⟩:=exc_of_in I.mod.kin q
  refine wpAny_Raise_call_subT (C:=C) (nm:=nm) (q:=qn) (N:=Nn) (bs:=bs) (bm:=bm) (hdct:=hdct) (sn:=sn) (sub:=sub) (ab:=ab) (col:=col) (dd:=dd) (k0:=k0) (k1:=k1) (k2:=k2) (k3:=k3) (k5:=k5)
    FB (mN:=mN) (T.hasType FB.hasBase) (I.ok.hd hc) (by rw[he]; show (false || (backTo cpos (starEach rest X.env)).any (·.1))=false; rw[hpl]; rfl) hni (Te I hg hm ⟨rfl,?_⟩ hdb)
  have hw:=ha cpos pins s σ H _ I h
  rw[he]at hw ⊢
  refine Calls.evalArgs_plain (thn hw fun us s1 ⟨vs,H1,I1,r,hl,hq⟩=>?_)
  exact ⟨rfl,by rw[← r.length]; exact hl,I1.bk _ _ hC,hN.keeps I1.bk,T.keeps I1.bk,fun h' e hmx=>hE pins σ H1 s1 h' e _ _ I1 hmx hq⟩
end
theorem Fun.okX {P : Program} {w : World} {K : PySem.W.Frag} {mg : Str -> Option Value} {base : Heap} {x qual : Str} {st : Stmt} {f : Addr} {fd : FuncData} {N ps : List Str} {k : Nat} {sp : Sp} (F : Fun K x qual st f fd) (S : FnScope N ps (Zg st)) (len : ∀ vs H Q E,sp vs H Q E -> vs.length = ps.length)
    (hbody:∀(cdv:Value) (A:Around) (outer:List Env) (s:Shared) (H:Hp) (vs:List V) (Q:VK) (E:XK),Room k (A.deeper (envOfC qual (Zg st) s.heap.objs.size f cdv))->sp vs H Q E ->
      ∃t,PSs (SG (CXw P w) P w K mg base N qual (Zg st) f cdv A outer s H E) (Zv st) t∧t { nx:=fun _ H'=>Q .non H',rt:=Q } (start N vs) H):FnOk P w K mg base (CXw P w) (k+1) f fd ps sp:=by
  obtain ⟨oc,od,kV,doc,pm,an,cdv,ct,osl,rfl,lk,hcd⟩:=F.ex
  exact fn_of lk hcd S len fun A outer s H vs Q E hr hsp=>hbody cdv A outer s H vs Q E hr hsp
theorem US {P:Program} {w:World} {X:Cx}:Xn (CXw P w) X E0:=fun _ _ _ _ _ _ _ ⟨_,_,_,_,_,h⟩=>h.elim
end L2
namespace L2
open PySem PySem.Spec PyProof.Rows
section
variable {X:Cx} {pins:List (Addr × Obj)} {σ:St}
end
section
variable {X:Cx} {pins:List (Addr × Obj)} {σ:St} {CX:CXT} {k:Nat} {f C:Addr} {fd:FuncData} {ps:List Str} {sp:Sp} {dvs:List V} {ds:List Value} {E:XK} {m:Str} {pos apos:Pos} {e o:Expr} {es:List Expr} {ta:TE} {t:TA}
end
section
variable {X:Cx} {pins:List (Addr × Obj)} {σ:St} {H:Hp} {s:Shared} {a:Addr}
end
def excO (a C:Addr):HO:=.ext fun h=>∃ob,h.get? a=some ob∧ob.cls=.ref C
section
variable {X:Cx} {pins:List (Addr × Obj)} {σ:St} {H H':Hp} {s s':Shared} {h' B:Heap}
end
section
variable {X:Cx} {P:Program} {w:World}
end
structure ExcK (K:PySem.W.Frag) (C:Addr):Prop where
 ga:PySem.W.findIn K (.ref C) "__getattribute__"=some (some (.builtin "BaseException.__getattribute__"))
 gt:PySem.W.findIn K (.ref C) "__getattr__"=some none
 cl:PySem.W.findIn K (.ref C) "__class__"=some (some (.builtin "object.__class__"))
 ob:PySem.W.mroIn K C (.type "object")=some true
 be:PySem.W.mroIn K C (.type "BaseException")=some true
 sp:PySem.W.specialIn K (.builtin "object.__class__") "__get__"=some (some (.builtin "getset_descriptor.__get__"))
 tk:PySem.W.takesIn K (.builtin "object.__class__")=some true
 is:(PySem.W.clsIn K C).isSome=true
end L2
namespace L2
open PySem PySem.Spec PyProof.Rows
section
open PySem.W Builtin Builtin.ObjectAttr Builtin.Getset_descriptor
variable {prog:Program} {w:World} {A:Around} {E:Value->Shared->Prop} {h:Heap} {g:Array GenState} {d:Drawn} {t:Nat} {os:OsState} {K:Frag} {a C:Addr} {o:Obj}
end
section
variable {X:Cx}
def clsV:V->Option Value
 |.ref D=>some (.ref D)
 |.ty n=>some (.type n)
 |_=>none
theorem clsV_rel {v:V} {c u:Value} (h:clsV v=some c) (r:RelV v u):u=c:=by
 cases v with
 |ref D=>cases h; exact r
 |ty n=>cases h; exact r
 |_=>cases h
theorem call_isi:CallR X (.builtin "isinstance") (fun xs H Q=>∃x t cv c b,xs=[x,cv]∧TyOf X.K H x t∧clsV cv=some c∧PySem.W.kitOne X.K t c=some b∧Q (.bl b) H):=by
 intro pins s σ H xs us Q I r h
 obtain ⟨x,t,cv,c,b,rfl,ty,hc,hk,q⟩:=h
 obtain ⟨u,v,rfl,ru,rv⟩:=vals2 r
 cases clsV_rel hc rv
 exact isinst_ok I ru ty hk fun tk=>⟨.bl b,H,I.tok _,rfl,q⟩
end
end L2
namespace L2
open PySem PySem.Spec PyProof.Rows
abbrev Ye (X:Cx) (scope:Scope) (cl:List (Str × Addr)) (x:Str) (cn:List Str) (C:Addr) (s₂:Shared) (H₂:Hp) (fp:List Addr):Cx where
 prog:=X.prog
 w:=X.w
 K:=X.K
 mg:=X.mg
 base:=X.base
 A:=X.A
 N:=x::cn
 s₀:=s₂
 H₀:=H₂
 env:=compEnvC scope cl C X.env
 outer:=X.stack
 stack:=X.stack
 ex:=fp
 fn:=fun _=>false
 calm:=X.calm
 pn:=[]
 xe:=fun _ _=>False
def YI (js:List Nat) (v:Option V) (σ:St):St:=v::js.map fun j=>(σ[j]?).join
def VM (X:Cx) (ifs:List Expr) (t:TT):Prop :=
 ∀(pins:List (Addr × Obj)) (s:Shared) (σ:St) (H:Hp) (Q:Bool->Hp->Prop),Inv X pins σ H s->t σ H Q ->
  wpAny (model X.prog X.w) X.A (forIn ifs true fun c r=>if r=true then do let ok ← isTrue c X.env (eval c X.env); pure (ForInStep.yield ok) else pure (ForInStep.yield r)) (TP X pins σ Q) X.xe s
def tNoIf:TT:=fun _ H Q=>Q true H
theorem pifs_nil {X:Cx}:VM X [] tNoIf:=fun _ _ _ H _ I h=>wpAny_tests_nil ⟨H,I,h⟩
theorem pifs_one {X:Cx} {c:Expr} {t:TT} (h:PT X c t):VM X [c] t:=fun pins s σ H Q I q=>wpAny_tests_one (h pins s σ H Q I q)
structure CompOk (X:Cx) (scope:Scope) (cl:List (Str × Addr)) (x:Str) (cn:List Str) (js:List Nat):Prop where
 clos:closureFor scope X.env=pure cl
 nocell:∀y∈scope.names,y.2≠.cell
 kind:scope.kind=.function
 names:∀y∈scope.names,y.2=.local->scope.names.lookup y.1=some .local
 hx:scope.names.lookup x=some .local
 sub:∀y c,cl.lookup y=some c->X.env.cells.lookup y=some c
 has:∀p∈(relabel scope X.env).names,p.2=.cell∨p.2=.free->∃c,cl.lookup p.1=some c
 cap:∀(k:Nat) y,cn[k]?=some y->∃j,js[k]?=some j∧X.N[j]?=some y∧Vis X.env.scope y∧(X.env.kindOf y=some .cell∨X.env.kindOf y=some .free)∧((compEnvC scope cl 0 X.env).kindOf y=some .cell∨(compEnvC scope cl 0 X.env).kindOf y=some .free)
 len:js.length=cn.length
 nd:(x::cn).Nodup
def Rk (names:List (Str × NameKind)) (env:Env):List (Str × Addr):=names.foldl (fun cs p=>if p.2 == .free then (match env.cells.lookup p.1 with|some c=>(p.1,c)::cs|none=>cs) else cs) []
theorem Ur (env : Env) : ∀ (names : List (Str × NameKind)) (cs : List (Str × Addr)),(∀ p ∈ cs,env.cells.lookup p.1 = some p.2) ->
    ∀p∈names.foldl (fun cs p=>if p.2 == .free then (match env.cells.lookup p.1 with|some c=>(p.1,c)::cs|none=>cs) else cs) cs,env.cells.lookup p.1=some p.2
  |[],cs,h=>h
  |q::r,cs,h=>by
    refine Ur env r _ ?_
    dsimp only
    split
    · split
      · rename_i c e
        intro p hp
        rcases List.mem_cons.mp hp with rfl|hp
        · exact e
        · exact h p hp
      · exact h
    · exact h
def SF (k:Option NameKind):Bool:=k == some .cell || k == some .free
theorem Tp {k:Option NameKind} (h:SF k=true):k=some .cell∨k=some .free:=by
 unfold SF at h
 rcases Bool.or_eq_true_iff.mp h with q|q
 ·exact .inl (by simpa using q)
 ·exact .inr (by simpa using q)
theorem Yi {X : Cx} {scope : Scope} {x : Str} {cn : List Str} {js : List Nat} (clos : closureFor scope X.env = pure (Rk scope.names X.env)) (nocell : ∀ y ∈ scope.names,y.2 ≠ .cell) (kind : scope.kind = .function)
    (names:∀y∈scope.names,y.2=.local->scope.names.lookup y.1=some .local) (hx:scope.names.lookup x=some .local)
    (has:((relabel scope X.env).names.all fun p=>!(SF (some p.2)) || ((Rk scope.names X.env).lookup p.1).isSome)=true) (len:js.length=cn.length)
    (cap:((cn.zip js).all fun p=>(X.N[p.2]? == some p.1)&&SF (X.env.scope.names.lookup p.1)&&SF ((relabel scope X.env).names.lookup p.1))=true)
    (nd:(x::cn).Nodup):CompOk X scope (Rk scope.names X.env) x cn js where
  clos:=clos
  nocell:=nocell
  kind:=kind
  names:=names
  hx:=hx
  sub:=fun y c h=>Ur X.env scope.names [] (fun _ z=>(nomatch z)) (y,c) (PySem.mem_of_lookup h)
  has:=fun p hp hk=>by
    have q:=List.all_eq_true.mp has p hp
    have hk':SF (some p.2)=true:=by rcases hk with z|z <;> rw[z] <;> rfl
    rw[hk']at q
    exact Option.isSome_iff_exists.mp (by simpa using q)
  cap:=fun k y e=>by
    have hk:k < cn.length:=(List.getElem?_eq_some_iff.mp e).1
    have hj:js[k]?=some (js[k]'(by omega)):=List.getElem?_eq_getElem _
    have hz:(y,js[k]'(by omega))∈cn.zip js:=by
      refine List.mem_of_getElem? (i:=k) ?_
      rw[List.getElem?_zip_eq_some]
      exact ⟨e,hj⟩
    have q:=List.all_eq_true.mp cap _ hz
    simp only[Bool.and_eq_true,beq_iff_eq]at q
    obtain ⟨⟨q1,q2⟩,q3⟩:=q
    have c2:=Tp q2
    refine ⟨_,hj,q1,?_,c2,Tp q3⟩
    rcases c2 with z|z
    · exact .inr (.inl z)
    · exact .inr (.inr z)
  len:=len
  nd:=nd
section
variable {X:Cx} {scope:Scope} {cl:List (Str × Addr)} {x:Str} {cn:List Str} {js:List Nat} {pins:List (Addr × Obj)} {σ:St} {H₂:Hp} {s₂:Shared} {fp:List Addr}
theorem CompOk.ok (O:CompOk X scope cl x cn js) (I:Inv X pins σ H₂ s₂) (hf:∀b∈fp,U5 X pins H₂ b) {C:Addr} (hC:s₂.heap.objs.size<=C) (ho:∀b∈fp,∃o,s₂.heap.get? b=some o):(Ye X scope cl x cn C s₂ H₂ fp).Ok where
 mod:=I.mod
 kind:=by show (relabel scope X.env).kind=.function; exact O.kind
 glob:=I.ok.glob
 blt:=I.ok.blt
 above:=hC
 inj:=fun y z c h1 h2=>I.ok.inj y z c (O.sub y c h1) (O.sub z c h2)
 has:=fun y hy=>by
  have hy:(relabel scope X.env).names.lookup y=some .cell∨(relabel scope X.env).names.lookup y=some .free:=hy
  rcases hy with hy|hy
  ·exact O.has _ (PySem.mem_of_lookup hy) (.inl rfl)
  ·exact O.has _ (PySem.mem_of_lookup hy) (.inr rfl)
 cab:=fun _ _ h=>(by cases h)
 hd:=I.ok.hd
 frames:=I.ok.frames
 stk:=.inl rfl
 exf:=fun b hb=>by
  obtain ⟨o,e⟩:=ho b hb
  exact ⟨Nat.ne_of_lt (Nat.lt_of_lt_of_le (Heap.lt_size e) hC),fun y c h=>(hf b hb).2.2.2.2.1 y c (O.sub y c h)⟩
 bs:=I.bs
 bsz:=Nat.le_trans I.ok.bsz I.sz
 noex:=fun b o e hb=>by
  rcases (hf b hb).2.2.2.1 with z|z
  ·exact I.ok.noex b o e z
  ·exact absurd (Nat.lt_of_lt_of_le (Heap.lt_size e) (Nat.le_trans I.ok.bsz z)) (Nat.lt_irrefl _)
 exfs:=fun b hb hm=>(List.mem_cons.mp (I.stkSub b hm)).elim (hf b hb).2.1 (hf b hb).2.2.1
 funs:=I.stack
 frf:=I.stkFree
theorem CompOk.start (O : CompOk X scope cl x cn js) (I : Inv X pins σ H₂ s₂) (hf : ∀ b ∈ fp,U5 X pins H₂ b) (ho : ∀ b ∈ fp,∃ o,s₂.heap.get? b = some o) {h₁ : Heap} {m : Str -> Option Value} {tk : Nat}
    (hns:h₁.Ns (s₂.heap.objs.size+1) m) (hk:∀b o,s₂.heap.get? b=some o->h₁.get? b=some o) (hD:h₁.get? s₂.heap.objs.size=some { cls:=.type "list",data:=.seq ([]:List Value).toArray }) :
    Inv (Ye X scope cl x cn (s₂.heap.objs.size+1) s₂ H₂ fp) [] (YI js none σ) (upd H₂ s₂.heap.objs.size (.lst [])) { s₂ with heap:=h₁,toks:=tk }:=by
  have fD:H₂ s₂.heap.objs.size=none:=I.hok.fresh (Nat.le_refl _)
  have fC:H₂ (s₂.heap.objs.size+1)=none:=I.hok.fresh (Nat.le_succ _)
  have neD:s₂.heap.objs.size+1≠s₂.heap.objs.size:=Nat.succ_ne_self _
  obtain ⟨m0,hn0,hl0⟩:=I.loc
  refine ⟨O.ok I hf (Nat.le_succ _) ho,rfl,I.bare,?_,⟨m,hns,fun i y v e1 e2 e3=>?_⟩,fun y c e=>?_,?_,fun y c e=>?_,(fun p hp=>nomatch hp),?_,?_⟩
  · exact Un.laid hk (Nat.le_refl _) fD
  · cases i with
    |zero=>exact nomatch (show (none:Option V)=some v from Option.some.inj e2)
    |succ k =>
      obtain ⟨j,hj,hjN,hvis,hcell,hk2⟩:=O.cap k y (by simpa using e1)
      have e4:(σ[j]?).join=some v:=by
        have z:(js.map fun j=>(σ[j]?).join)[k]?=some (some v):=by simpa [YI] using e2
        rw[List.getElem?_map,hj]at z
        simpa using z
      have e5:σ[j]?=some (some v):=by
        cases q:σ[j]? with
        |none=>rw[q]at e4; cases e4
        |some o=>rw[q]at e4; simp at e4; rw[e4]
      obtain ⟨u,r,l⟩:=hl0 j y v hjN e5 hvis
      refine ⟨u,r,.inr ⟨hk2,?_⟩⟩
      rcases l with ⟨kl,_⟩|⟨_,c,ec,z⟩
      · rcases hcell with q|q
        · rw[kl]at q; cases q
        · rw[kl]at q; cases q
      · have hy : ∃ c',cl.lookup y = some c':=by
          rcases hk2 with q|q
          · exact O.has _ (PySem.mem_of_lookup (show (relabel scope X.env).names.lookup y=some .cell from q)) (.inl rfl)
          · exact O.has _ (PySem.mem_of_lookup (show (relabel scope X.env).names.lookup y=some .free from q)) (.inr rfl)
        obtain ⟨c',hc'⟩:=hy
        have ecc:=O.sub y c' hc'
        rw[ec]at ecc
        cases ecc
        exact ⟨c,hc',z.keeps hk⟩
  · obtain ⟨v,z⟩:=I.cell y c (O.sub y c e)
    exact ⟨v,z.keeps hk⟩
  · show upd H₂ s₂.heap.objs.size (.lst []) (s₂.heap.objs.size+1)=none
    rw[Zp neD]; exact fC
  · obtain ⟨v,o,ho',_⟩:=I.cell y c (O.sub y c e)
    rw[Zp (Nat.ne_of_lt (Heap.lt_size ho'))]
    exact I.freeC y c (O.sub y c e)
  · exact I.hok.laid hk (Nat.le_refl _) ⟨Nat.zero_le _,[],0,.nil,hD⟩
  · show (YI js none σ).length=(x::cn).length
    simp[YI,O.len]
end
theorem UU {prog : Program} {w : World} {A : Around} {R : Result -> Shared -> Prop} {s : Shared} {elt target iter : Expr} {ifs : List Expr} {scope : Scope} {pos : Pos} {it acc : Value} {env : Env} (I : Nat -> Shared -> Prop)
    (turn:∀n s,I n s->wpAny (model prog w) A (pyNext it) (fun r s₁=>match r with
      |none=>R (.ok .next) s₁
      | some v => wpAny (model prog w) A (letOwnedTupleGo target it v) (fun _ s₁' => wpAny (model prog w) A (assign target env v) (fun _ s₂ =>
          wpAny (model prog w) A (forIn ifs true fun c r=>if r=true then do let ok ← isTrue c env (eval c env); pure (ForInStep.yield ok) else pure (ForInStep.yield r)) (fun ok s₃ =>
            if ok=true then wpAny (model prog w) A (eval elt env) (fun x s₄=>wpAny (model prog w) A (call (.builtin "list.append") [acc,x]) (fun _ s₅=>∃m,m < n∧I m s₅) (fun _ _=>False) s₄) (fun _ _=>False) s₃
            else ∃m,m < n∧I m s₃) (fun _ _=>False) s₂) (fun _ _=>False) s₁') (fun _ _=>False) s₁) (fun _ _=>False) s)
    (n:Nat) (h:I n s):codeAny (model prog w) A (.compLoop (.ListComp elt [⟨target,iter,ifs,0⟩] scope pos) 0 it acc env) R s:=by
  refine codeAny_loop rfl I (fun n s hI=>?_) n h
  show wpAny _ A ((compTurn (.ListComp elt [⟨target,iter,ifs,0⟩] scope pos) 0 it acc env).onRaise (fun x=>do noteFrame x env; theTreesLotGoes x)) _ _ s
  refine wpAny_noted ?_
  rw[compTurn_list]
  refine wpAny_bind (wpAny_standAt (wpAny_bind (wpAny_mono (turn n s hI) (fun r s₁ h₁=>?_) fun _ _ h'=>h'.elim)))
  cases r with
  |none=>exact wpAny_pure h₁
  |some v =>
    refine wpAny_bind (wpAny_mono h₁ (fun _ s₁' h₁'=>?_) fun _ _ h'=>h'.elim)
    refine wpAny_bind (wpAny_mono h₁' (fun _ s₂ h₂=>wpAny_bind (wpAny_mono h₂ (fun ok s₃ h₃=>?_) fun _ _ h'=>h'.elim)) fun _ _ h'=>h'.elim)
    cases ok with
    |false =>
      rw[if_neg Bool.false_ne_true]at h₃
      exact wpAny_pure ⟨rfl,h₃⟩
    |true =>
      rw[if_pos rfl]at h₃
      exact wpAny_bind (wpAny_bind (wpAny_mono h₃ (fun x s₄ h₄=>wpAny_bind (wpAny_mono h₄ (fun _ s₅ h₅=>wpAny_pure (wpAny_pure ⟨rfl,h₅⟩)) fun _ _ h'=>h'.elim)) fun _ _ h'=>h'.elim))
def tComp (wi:TI) (js:List Nat) (tc:Addr->Shared->Hp->List Addr->TT) (te:Addr->Shared->Hp->List Addr->TE):TE:=fun σ H Q=>wi σ H fun J H1=>∀D,H1 D=none->∀C s₂ H₂ fp,∃W:Nat->Nat->List V->Hp->Prop,(∃m,W 0 m [] (upd H1 D (.lst [])))∧∀i m ys H2,W i m ys H2->H2 D=some (.lst ys) ∧
 ((J.stop i H2∧Q (.ref D) H2)∨(J.go i H2∧∀x H',J.yld i H2 x H'->tc C s₂ H₂ fp (YI js (some x) σ) H' fun b H3=>if b=true then te C s₂ H₂ fp (YI js (some x) σ) H3 fun v H4=>H4 D=some (.lst ys)∧ys.length < sizeLine∧∃m',m' < m∧W (i+1) m' (ys++[v]) (upd H4 D (.lst (ys++[v])))
  else ∃m',m' < m∧W (i+1) m' ys H3))
section
variable {X:Cx} {scope:Scope} {cl:List (Str × Addr)} {x:Str} {cn:List Str} {js:List Nat} {elt iter:Expr} {ifs:List Expr} {px pos:Pos} {wi:TI} {tc:Addr->Shared->Hp->List Addr->TT} {te:Addr->Shared->Hp->List Addr->TE}
theorem Sb (O : CompOk X scope cl x cn js) (hc : X.calm = true) (ht : ∀ C s₂ H₂ fp,VM (Ye X scope cl x cn C s₂ H₂ fp) ifs (tc C s₂ H₂ fp)) (he : ∀ C s₂ H₂ fp,PE (Ye X scope cl x cn C s₂ H₂ fp) elt (te C s₂ H₂ fp))
    {pins:List (Addr × Obj)} {σ:St} {s₂:Shared} {itv:Value} {R:V->Hp->Prop} {RR:Value->Addr->Result->Shared->Prop} {E:Value->Shared->Prop}
    (h:PIE X pins σ (.Name x px) (fun J H1=>∀D,H1 D=none->∀C s₂ H₂ fp,∃W:Nat->Nat->List V->Hp->Prop,(∃m,W 0 m [] (upd H1 D (.lst [])))∧∀i m ys H2,W i m ys H2->H2 D=some (.lst ys) ∧
      ((J.stop i H2∧R (.ref D) H2)∨(J.go i H2∧∀x H',J.yld i H2 x H'->tc C s₂ H₂ fp (YI js (some x) σ) H' fun b H3=>if b=true then te C s₂ H₂ fp (YI js (some x) σ) H3 fun v H4=>H4 D=some (.lst ys)∧ys.length < sizeLine∧∃m',m' < m∧W (i+1) m' (ys++[v]) (upd H4 D (.lst (ys++[v])))
        else ∃m',m' < m∧W (i+1) m' ys H3))) itv s₂)
    (hRR:∀D C H' s',Inv X pins σ H' s'->R (.ref D) H'->H' C=none->C≠X.env.locals->X.s₀.heap.objs.size<=C->(∀y c,X.env.cells.lookup y=some c->c≠C)->(∀p∈X.pn++pins,p.1≠C)->(∃m,s'.heap.Ns C m)->RR (.ref D) C (.ok .next) s') :
    wpAny (model X.prog X.w) X.A (newList []) (fun acc s₃=>wpAny (model X.prog X.w) X.A (newFunctionEnv scope X.env.globals cl [] X.env.qual none .none (some X.env)) (fun cenv s₄ =>
      codeAny (model X.prog X.w) X.A (.compStart (.ListComp elt [⟨.Name x px,iter,ifs,0⟩] scope pos) 0 itv acc { cenv with scope:=relabel scope X.env }) (RR acc cenv.locals) s₄) E s₃) E s₂:=by
  obtain ⟨it,fp,tn,J,H₂,rfl,I2,T,st2,f2,hR⟩:=h
  have ho:∀b∈fp,∃o,s₂.heap.get? b=some o:=fun b hb=>let ⟨o,e,_⟩:=T.obj _ _ st2 b hb; ⟨o,e⟩
  obtain ⟨W,⟨m0,w0⟩,turn⟩:=hR s₂.heap.objs.size (I2.hok.fresh (Nat.le_refl _)) (s₂.heap.objs.size+1) s₂ H₂ fp
  refine wpAny_newObj_type (wpAny_newFunctionEnv O.nocell (by intro y hy; simp at hy) (fun h₁ hns₁ hsb₁=>?_) O.kind)
  dsimp only at hns₁ hsb₁ ⊢
  generalize hH2:s₂.heap.push { cls:=.type "list",dict:=none,data:=.seq ([]:List Value).toArray }=HH at hns₁ hsb₁ ⊢
  have hsz:HH.objs.size=s₂.heap.objs.size+1:=by rw[← hH2,Heap.size_push]
  have old:∀b o,s₂.heap.get? b=some o->h₁.get? b=some o:=fun b o e=>by
    refine hsb₁.extBut b o ?_ (Heap.get?_push_of_some _ (hH2 ▸ Heap.get?_push_of_some _ e))
    rw[hsz]
    exact Nat.ne_of_lt (Nat.lt_succ_of_lt (Heap.lt_size e))
  have hD:h₁.get? s₂.heap.objs.size=some { cls:=.type "list",data:=.seq ([]:List Value).toArray }:=by
    refine hsb₁.extBut _ _ ?_ (Heap.get?_push_of_some _ (hH2 ▸ Heap.get?_push_size _ rfl))
    rw[hsz]
    exact Nat.ne_of_lt (Nat.lt_succ_self _)
  rw[hsz]at hns₁
  show codeAny _ _ (.compStart _ 0 (.ref it) (.ref s₂.heap.objs.size) (compEnvC scope cl HH.objs.size X.env)) (RR (.ref s₂.heap.objs.size) HH.objs.size) _
  rw[hsz]
  have I3:=O.start I2 f2 ho (tk:=s₂.toks+([]:List (Str × Value)).length) hns₁ old hD
  have st3:tn 0 h₁:=T.keep 0 _ _ st2 fun b hb o e=>old b o e
  have fpD:∀b∈fp,b≠s₂.heap.objs.size:=fun b hb=>by obtain ⟨o,e⟩:=ho b hb; exact Nat.ne_of_lt (Heap.lt_size e)
  have stat:∀{pl:List (Addr × Obj)} {H':Hp},(∀b∈fp,H' b=none)->(∀p∈pl,∀b∈fp,p.1≠b)->∀b∈fp,U5 (Ye X scope cl x cn (s₂.heap.objs.size+1) s₂ H₂ fp) pl H' b:=fun {pl H'} hn hp b hb =>
    ⟨hn b hb,(I3.ok.exf b hb).1,fun hm=>I3.ok.exfs b hb hm,.inl hb,(I3.ok.exf b hb).2,fun p hpm=>hp p (by simpa using hpm) b hb⟩
  have loop : ∀ s₃ : Shared,s₃ = { s₂ with heap:=h₁,toks:=s₂.toks + ([] : List (Str × Value)).length } ->
      codeAny (model X.prog X.w) X.A (.compLoop (.ListComp elt [⟨.Name x px,iter,ifs,0⟩] scope pos) 0 (.ref it) (.ref s₂.heap.objs.size) (compEnvC scope cl (s₂.heap.objs.size+1) X.env)) (RR (.ref s₂.heap.objs.size) (s₂.heap.objs.size+1)) s₃:=by
    rintro s₃ rfl
    refine UU (fun n s'=>∃i ys v H',Inv (Ye X scope cl x cn (s₂.heap.objs.size+1) s₂ H₂ fp) [] (YI js v σ) H' s'∧tn i s'.heap∧(∀b∈fp,H' b=none)∧W i n ys H') ?_ m0
      ⟨0,[],none,_,I3,st3,fun b hb=>by rw[Zp (fpD b hb)]; exact (f2 b hb).1,w0⟩
    rintro n s4 ⟨i,ys,v4,H4,I4,st4,fr4,w4⟩
    obtain ⟨hD4,tr⟩:=turn i n ys H4 w4
    rcases tr with ⟨stop,qn⟩|⟨go,step⟩
    · refine wpAny_mono (T.done (Ye X scope cl x cn (s₂.heap.objs.size+1) s₂ H₂ fp) rfl rfl rfl hc i [] s4 _ H4 (fun _ _=>False) I4 (stat fr4 (fun _ z=>nomatch z)) st4 stop) (fun r s5 ⟨hr,I5⟩=>?_) fun _ _ q=>q
      subst hr
      have I6:Inv X pins σ H4 s5:=I2.call' (ch:=fp) I5.os I5.base I5.hok I5.bare fun b hb=>⟨(f2 b hb).2.2.2.1,(f2 b hb).2.1,(f2 b hb).2.2.2.2.1,(f2 b hb).2.2.2.2.2⟩
      obtain ⟨m,hn,_⟩:=I5.loc
      refine hRR _ _ H4 s5 I6 qn I5.free (Nat.ne_of_gt (Nat.lt_succ_of_lt I2.lt)) (Nat.le_succ_of_le I2.sz) (fun y c e z=>?_) (fun p hp z=>?_) ⟨m,hn⟩
      · obtain ⟨v,o,ho',_⟩:=I2.cell y c e
        exact absurd (Heap.lt_size ho') (by rw[z]; exact Nat.not_lt.mpr (Nat.le_succ _))
      · exact absurd (Heap.lt_size (I2.pin p hp).1) (by rw[z]; exact Nat.not_lt.mpr (Nat.le_succ _))
    · refine wpAny_mono (T.item (Ye X scope cl x cn (s₂.heap.objs.size+1) s₂ H₂ fp) rfl rfl rfl hc i [] s4 _ H4 (fun _ _=>False) I4 (stat fr4 (fun _ z=>nomatch z)) st4 go) (fun r s4' ⟨u,hr,h5⟩=>?_) fun _ _ q=>q
      subst hr
      refine wpAny_mono h5 (fun _ s5 ⟨x5,H5,I5,r5,y5,st5,fr5⟩=>?_) fun _ _ q=>q
      have I5p:=I5.pinned (stat fr5 (fun _ z=>nomatch z)) (T.obj _ _ st5)
      refine wpAny_assign_Name (TV (X:=Ye X scope cl x cn (s₂.heap.objs.size+1) s₂ H₂ fp) (i:=0) (E:=fun _ _=>False) I5p O.nd rfl (.inl (lookup_relabel_local O.hx)) r5 (fun s6 I6=>?_) (.inr (lookup_relabel_local O.hx)))
      have I6:Inv (Ye X scope cl x cn (s₂.heap.objs.size+1) s₂ H₂ fp) ([]++Wx fp s5.heap) (YI js (some x5) σ) H5 s6:=I6
      have again:∀{s7:Shared} {H7:Hp},Inv (Ye X scope cl x cn (s₂.heap.objs.size+1) s₂ H₂ fp) ([]++Wx fp s5.heap) (YI js (some x5) σ) H7 s7->tn (i+1) s7.heap∧∀b∈fp,H7 b=none:=fun {s7 H7} I7=>by
        refine ⟨T.keep _ _ _ st5 fun b hb o e=>(I7.pin (b,o) (List.mem_append_right _ (List.mem_append_right _ (Xb hb e)))).1,fun b hb=>?_⟩
        obtain ⟨o,e,d⟩:=T.obj _ _ st5 b hb
        exact (I7.pin (b,o) (List.mem_append_right _ (List.mem_append_right _ (Xb hb e)))).2.1
      refine wpAny_mono (ht _ _ _ _ _ s6 _ H5 _ I6 (step x5 H5 y5)) (fun ok s7 ⟨H7,I7,q7⟩=>?_) fun _ _ q=>q
      cases ok with
      |false =>
        rw[if_neg Bool.false_ne_true]
        rw[if_neg Bool.false_ne_true]at q7
        obtain ⟨m',hm,w7⟩:=q7
        obtain ⟨st7,fr7⟩:=again I7
        exact ⟨m',hm,i+1,ys,some x5,H7,I7.unpinned,st7,fr7,w7⟩
      |true =>
        rw[if_pos rfl]
        rw[if_pos rfl]at q7
        refine wpAny_mono (he _ _ _ _ _ s7 _ H7 _ I7 q7) (fun u8 s8 ⟨v8,H8,I8,r8,hD8,hz8,m',hm,w8⟩=>?_) fun _ _ q=>q
        obtain ⟨st8,fr8⟩:=again I8
        obtain ⟨z8,its,k8,rv8,e8⟩:=I8.hok _ _ hD8
        have hl8:=rv8.length
        refine append_at (E:=fun _ _=>False) (hsz:=by rw[List.size_toArray]; omega) e8 fun h9 hs9 e9=>?_
        have I9:Inv (Ye X scope cl x cn (s₂.heap.objs.size+1) s₂ H₂ fp) ([]++Wx fp s5.heap) (YI js (some x5) σ) (upd H8 s₂.heap.objs.size (.lst (ys++[v8]))) { s8 with heap:=h9 }:=by
          refine I8.write (x:=s₂.heap.objs.size) (e:=s₂.heap.objs.size) (t':=s8.toks) (by rw[hD8]; exact True.intro) (.inl rfl) (fun b u hb q=>(hs9.2 b hb).trans q) ⟨_,e9⟩ ?_
          refine ⟨by rw[List.length_append,List.length_singleton]; omega,its++[u8],k8+1,rv8.append (.cons r8 .nil),?_⟩
          rw[e9,List.push_toArray]
        obtain ⟨st9,fr9⟩:=again I9
        exact ⟨m',hm,i+1,ys++[v8],some x5,_,I9.unpinned,st9,fr9,w8⟩
  exact codeAny_compStart_list (loop _ rfl) (T.self _ 0 _ _ _ st3 (loop _ rfl))
theorem pe_comp (O : CompOk X scope cl x cn js) (hc : X.calm = true) (hi : PI X (.Name x px) iter wi) (ht : ∀ C s₂ H₂ fp,VM (Ye X scope cl x cn C s₂ H₂ fp) ifs (tc C s₂ H₂ fp)) (he : ∀ C s₂ H₂ fp,PE (Ye X scope cl x cn C s₂ H₂ fp) elt (te C s₂ H₂ fp))
    (hs:∀v,foldedSetIterable iter X.env v=pure v:=by intro _; rfl):PE X (.ListComp elt [⟨.Name x px,iter,ifs,0⟩] scope pos) (tComp wi js tc te):=by
  intro pins s σ H Q I h
  rw[eval_ListComp]
  refine wpAny_comprehension_free (use:=none) rfl hs O.clos O.kind O.names (thn (hi pins s σ H _ I h) fun v s1 h1=>thn h1 fun itv s2 h2=>?_)
  refine Sb O hc ht he (R:=Q) (RR:=fun acc C=>compPost (model X.prog X.w) X.A X.xe none (EP X pins σ Q) acc C) h2 ?_
  intro D C H' s' I' q hC hL h0 hcl hp ⟨m,hn⟩
  refine ⟨m,hn,fun h'' hs''=>⟨.ref D,H',?_,rfl,q⟩⟩
  exact I'.turned (t':=s'.toks) (fun b o hb e=>(hs''.2 b hb).trans e) hC hL (.inr h0) hcl hp
def tSetComp (j:Nat) (wi:TI) (js:List Nat) (tc:Addr->Shared->Hp->List Addr->TT) (te:Addr->Shared->Hp->List Addr->TE):TS:=fun D σ H=>tComp wi js tc te σ H fun v H1=>D.nx (σ.set j (some v)) H1
theorem TU {j : Nat} {y : Str} {py spos : Pos} (O : CompOk X scope cl x cn js) (hc : X.calm = true) (hi : PI X (.Name x px) iter wi) (ht : ∀ C s₂ H₂ fp,VM (Ye X scope cl x cn C s₂ H₂ fp) ifs (tc C s₂ H₂ fp)) (he : ∀ C s₂ H₂ fp,PE (Ye X scope cl x cn C s₂ H₂ fp) elt (te C s₂ H₂ fp))
    (hN:X.N.Nodup) (hj:X.N[j]?=some y) (hy:Loc X.env.scope y) (hsw:swapsWith (.ListComp elt [⟨.Name x px,iter,ifs,0⟩] scope pos) (some (.Name y py)) spos.line X.env=pure true)
    (hs:∀v,foldedSetIterable iter X.env v=pure v:=by intro _; rfl) (hf:X.fn y=true∨X.env.scope.names.lookup y=some .local:=by first|exact .inl rfl|exact .inr rfl) :
    PS X (.Assign [.Name y py] (.ListComp elt [⟨.Name x px,iter,ifs,0⟩] scope pos) spos) (tSetComp j wi js tc te):=by
  intro pins s σ H D I h
  rw[exec_Assign_Name_used _ _ _ _ hsw]
  refine wpAny_bind (wpAny_standAt (wpAny_bind ?_))
  show wpAny _ X.A (do let _ ← comprehension (.ListComp elt [⟨.Name x px,iter,ifs,0⟩] scope pos) scope X.env _ (newList []) false (eval iter X.env) (some (assign (.Name y py) X.env))) _ _ s
  refine wpAny_bind (wpAny_mono (wpAny_comprehension_free (use:=some (assign (.Name y py) X.env)) (Q:=fun _ s'=>SP X pins D .next s') rfl hs O.clos O.kind O.names
    (thn (hi pins s σ H _ I h) fun v s1 h1=>thn h1 fun itv s2 h2=>?_)) (fun _ s' hq=>wpAny_pure (wpAny_pure hq)) fun _ _ e=>e)
  refine Sb O hc ht he (R:=fun v H1=>D.nx (σ.set j (some v)) H1) (RR:=fun acc C=>compPost (model X.prog X.w) X.A X.xe (some (assign (.Name y py) X.env)) (fun _ s'=>SP X pins D .next s') acc C) h2 ?_
  intro DD C H' s' I' q hC hL h0 hcl hp ⟨m,hn⟩
  show wpAny _ X.A (assign (.Name y py) X.env (.ref DD)) _ _ s'
  refine wpAny_assign_Name (Re I' hN hj hy (v:=.ref DD) rfl (fun s3 I3 ⟨a,hsb,ha⟩=>?_) hf)
  have nCa:C≠a:=fun z=>by
    rcases ha with e|e
    · exact hL (z.trans e)
    · exact hcl _ _ e z.symm
  refine ⟨m,hn.sameBut hsb nCa,fun h'' hs''=>⟨_,H',?_,q⟩⟩
  exact I3.turned (t':=s3.toks) (fun b o hb e=>(hs''.2 b hb).trans e) hC hL (.inr h0) hcl hp
end
end L2
namespace L2
open PySem PySem.Spec PyProof.Rows
section
variable {X:Cx} {pins:List (Addr × Obj)} {σ:St} {H:Hp} {s:Shared}
theorem Inv.freeze {d:Addr} {ob:Obj} {ks:List (Key × V)} (I:Inv X pins σ H s) (hd:H d=some (.dK ks)) (ho:s.heap.get? d=some ob):Inv X pins σ (upd H d (.frz ob (.dK ks))) s:=by
 have old:∀b x,H b=some x->(∀ys,x≠.dK ys)->upd H d (.frz ob (.dK ks)) b=some x:=fun b x e n=>by
  have hb:b≠d:=fun z=>by rw[z,hd]at e; exact n ks (Option.some.inj e).symm
  rw[Zp hb]; exact e
 have ow:∀b a,H b=some (.own a)->upd H d (.frz ob (.dK ks)) b=some (.own a):=fun b a e=>old b _ e fun _ z=>by cases z
 have tu:∀b xs,H b=some (.tup xs)->upd H d (.frz ob (.dK ks)) b=some (.tup xs):=fun b a e=>old b _ e fun _ z=>by cases z
 refine I.un (h':=s.heap) (t':=s.toks) (H':=upd H d (.frz ob (.dK ks))) ⟨fun b o e n _ _=>e,fun b o e n _ _=>⟨o.slots,e⟩,fun b o e n _=>?_,fun b o e _=>⟨o,e⟩,tu,fun b o u e=>old b _ e (fun _ z=>by cases z),fun b ps e=>⟨#[],?_⟩⟩ (fun b x e=>?_)
 ·rw[Zp (Ne.symm (ZL hd n))]; exact n
 ·rw[Array.append_empty]; exact old b _ e (fun _ z=>by cases z)
 ·by_cases hb:b=d
  ·rw[hb,ZA]at e
   cases e
   rw[hb]
   exact ⟨ho,(I.hok d _ hd).stay (fun _ _ _ q=>q) (fun c q=>ow c _ q) fun c xs q=>tu c xs q⟩
  ·rw[Zp hb]at e
   exact (I.hok b x e).stay (fun _ _ _ q=>q) (fun c q=>ow c _ q) fun c xs q=>tu c xs q
theorem Inv.nofrz {d:Addr} {ks:List (Key × V)} (I:Inv X pins σ H s) (hd:H d=some (.dK ks)):∀o u,X.H₀ d≠some (.frz o u):=fun o u z=>by
 have:=I.base.frzs d o u z
 rw[hd]at this; cases this
theorem Inv.thaw {d:Addr} {ob:Obj} {ks:List (Key × V)} (I:Inv X pins σ H s) (hd:H d=some (.frz ob (.dK ks))) (nf:∀o u,X.H₀ d≠some (.frz o u)):Inv X pins σ (upd H d (.dK ks)) s:=by
 have old:∀b x,H b=some x->b≠d->upd H d (.dK ks) b=some x:=fun b x e n=>by rw[Zp n]; exact e
 have nn:∀b,H b=none->upd H d (.dK ks) b=none:=fun b n=>by rw[Zp (Ne.symm (ZL hd n))]; exact n
 have tu:∀b xs,H b=some (.tup xs)->upd H d (.dK ks) b=some (.tup xs):=fun b xs e=>old b _ e fun z=>by rw[z,hd]at e; cases e
 have ow:∀b a,H b=some (.own a)->upd H d (.dK ks) b=some (.own a):=fun b xs e=>old b _ e fun z=>by rw[z,hd]at e; cases e
 refine ⟨I.ok,I.os,I.bare,⟨I.base.keep,I.base.slot,fun b o e n hx=>nn b (I.base.free b o e n hx),I.base.there,fun b xs e=>tu b xs (I.base.tups b xs e),fun b o u e=>old b _ (I.base.frzs b o u e) (fun z=>nf o u (z ▸ e)),fun b ps e=>?_⟩,
  I.loc,I.cell,nn _ I.free,fun x c e=>nn c (I.freeC x c e),fun p hp=>?_,fun b x e=>?_,I.len⟩
 ·obtain ⟨more,e1⟩:=I.base.tbls b ps e
  exact ⟨more,old b _ e1 fun z=>by rw[z,hd]at e1; cases e1⟩
 ·obtain ⟨h1,h2,h3⟩:=I.pin p hp
  exact ⟨h1,nn _ h2,h3⟩
 ·by_cases hb:b=d
  ·rw[hb,ZA]at e
   cases e
   rw[hb]
   obtain ⟨_,q⟩:=(show s.heap.get? d=some ob∧ObjOk X.prog X.w H s.heap d (.dK ks) from I.hok d _ hd)
   exact q.stay (fun _ _ _ q=>q) (fun c q=>ow c _ q) fun c xs q=>tu c xs q
  ·rw[Zp hb]at e
   exact (I.hok b x e).stay (fun _ _ _ q=>q) (fun c q=>ow c _ q) fun c xs q=>tu c xs q
end
theorem key_rel {k:Key} {v:Value} (h:T6 k v=true):RelV (kV k) v:=by
 rcases Yg h with ⟨i,t,rfl,rfl⟩|⟨x,t,rfl,rfl⟩
 ·exact ⟨t,rfl⟩
 ·exact ⟨t,rfl⟩
theorem pair_at {α γ:Type} {R:α->γ->Prop}:∀{xs:List α} {ys:List γ} {i:Nat} {x:α} {y:γ},Paired R xs ys->xs[i]?=some x->ys[i]?=some y->R x y
 |_,_,_,_,_,.nil,e,_=>by simp at e
 |_,_,0,_,_,.cons h _,e1,e2=>by simp at e1 e2; subst e1 e2; exact h
 |_,_,i+1,_,_,.cons _ r,e1,e2=>pair_at (i:=i) r (by simpa using e1) (by simpa using e2)
def Itd (d:Addr) (ob:Obj) (ks:List (Key × V)):It :=
 ⟨fun i H=>H d=some (.frz ob (.dK ks))∧i < ks.length,fun i H x H'=>H'=H∧∃p,ks[i]?=some p∧x=kV p.1,fun i H=>H d=some (.frz ob (.dK ks))∧ks.length<=i⟩
def TnD (d:Addr) (ob:Obj) (it:Addr) (i:Nat) (h:Heap):Prop:=∃es ep,h.IsKeyIter it d i es.size ep∧ob.data=.dict es ep
theorem dk_at {P : Program} {w : World} {H : Hp} {h : Heap} {d : Addr} {ob : Obj} {ks : List (Key × V)} {es : Array DictEntry} {ep : Nat} (ok : HOk P w H h) (hd : H d = some (.frz ob (.dK ks))) (hdat : ob.data = .dict es ep) :
    ∃ws,KV ks ws∧h.DictAt (ZQ P w) d ws ep∧es.size=ws.length:=by
  obtain ⟨ho,z,hS,ws,r,m⟩:=(show h.get? d=some ob∧ks.length<=sizeLine∧(d == sysModules)=false∧∃vs,KV ks vs∧h.DictOf (ZQ P w) d vs from ok d _ hd)
  obtain ⟨o',es',ep',ho',hex,hdat',hk,hp,hn⟩:=m
  rw[ho]at ho'
  cases ho'
  rw[hdat]at hdat'
  injection hdat' with e1 e2
  subst e1 e2
  refine ⟨ws,r,⟨ob,es,ho,hex,hdat,hk,hp,hn⟩,?_⟩
  have:=hp.length
  simpa using this
theorem RN {P:Program} {w:World} {K:PySem.W.Frag} {tg:Expr} (d it:Addr) (ob:Obj) (ks:List (Key × V)):Turn P w K tg (Itd d ob ks) [it] it (TnD d ob it) where
 mem:=by simp
 obj:=fun i h ⟨es,ep,st,_⟩ b hb=>by
  have e:b=it:=by simpa using hb
  subst e
  obtain ⟨o,e,c,d⟩:=st
  exact ⟨o,e,fun v z=>by rw[d]at z; cases z⟩
 keep:=fun i h h' ⟨es,ep,⟨o,e,c,q⟩,hd⟩ k=>⟨es,ep,⟨o,k it (by simp) o e,c,q⟩,hd⟩
 item:=by
  intro X hP hw hK hc i pins s σ H E I hf st hg
  subst hP hw hK
  obtain ⟨hd,hi⟩:=hg
  obtain ⟨es,ep,hit,hdat⟩:=st
  obtain ⟨ws,r,hm,hsz⟩:=dk_at I.hok hd hdat
  have hl:ks.length=ws.length:=r.length
  have hiw:i < ws.length:=by omega
  obtain ⟨f0,f1,f2,f3,f4,f5⟩:=hf it (by simp)
  rw[hsz]at hit
  refine wpAny_pyNext_dict_item (knd:=ZQ X.prog X.w) (kvs:=ws) (k:=ws[i].1) (v:=ws[i].2) hit hm (List.getElem?_eq_getElem hiw) fun key h' hkey hit' sb=>?_
  have I1:Inv X pins σ H { s with heap:=h' }:=I.turned (t':=s.toks) (fun b o hb e=>(sb.2 b hb).trans e) f0 f1 f3 f4 f5
  obtain ⟨oi,e1,c1,d1⟩:=id hit'
  obtain ⟨g1,_⟩:=pair_at r (List.getElem?_eq_getElem hi) (List.getElem?_eq_getElem hiw)
  refine ⟨key,rfl,go_of (s:={ s with heap:=h' }) e1 c1 d1 (by decide) ⟨kV ks[i].1,H,I1,?_,⟨rfl,ks[i],List.getElem?_eq_getElem hi,rfl⟩,⟨es,ep,by rw[hsz]; exact hit',hdat⟩,fun b hb=>(hf b hb).1⟩⟩
  rw[g1]
  exact key_rel hkey
 done:=by
  intro X hP hw hK hc i pins s σ H E I hf st hg
  subst hP hw hK
  obtain ⟨hd,hi⟩:=hg
  obtain ⟨es,ep,hit,hdat⟩:=st
  obtain ⟨ws,r,hm,hsz⟩:=dk_at I.hok hd hdat
  have hl:ks.length=ws.length:=r.length
  obtain ⟨f0,f1,f2,f3,f4,f5⟩:=hf it (by simp)
  rw[hsz]at hit
  exact wpAny_pyNext_dict_end (knd:=ZQ X.prog X.w) (kvs:=ws) (I.ok.hd hc) hit hm (List.getElem?_eq_none (by omega)) fun h' eb=>⟨rfl,I.turned (t':=s.toks) (fun b o hb e=>eb b o hb e) f0 f1 f3 f4 f5⟩
 self:=fun _ _ _ _ _ ⟨_,_,st,_⟩ h=>wpAny_pyIter_keyiter st h
section
variable {X:Cx} {tg:Expr}
def iDict (X:Cx) (tl:TE):TI:=fun σ H R=>tl σ H fun x H1=>∃d ks,x=.ref d∧((H1 d=some (.dK ks)∧∀ob,(∀o u,X.H₀ d≠some (.frz o u))->R (Itd d ob ks) (upd H1 d (.frz ob (.dK ks))))∨∃ob,H1 d=some (.frz ob (.dK ks))∧R (Itd d ob ks) H1)
theorem Qj {l:Expr} {tl:TE} (hl:PE X l tl):PI X tg l (iDict X tl):=by
 intro pins s σ H R I h
 refine thn (hl pins s σ H _ I h) fun v s1 ⟨x,H1,I1,r1,q1⟩=>?_
 obtain ⟨d,ks,e,q⟩:=q1
 subst e
 cases r1
 rcases q with ⟨hd,q⟩|⟨ob,hd,q⟩
 ·obtain ⟨z,hS,ws,r,m⟩:=(show ks.length<=sizeLine∧(d == sysModules)=false∧∃vs,KV ks vs∧s1.heap.DictOf (ZQ X.prog X.w) d vs from I1.hok d _ hd)
  obtain ⟨ob,es,ep,ho,hex,hdat,hk,hp,hn⟩:=m
  have hsz:es.size=ws.length:=by have:=hp.length; simpa using this
  have I2:=I1.freeze hd ho
  refine wpAny_pyIter_dict (knd:=ZQ X.prog X.w) (kvs:=ws) (ep:=ep) hS ⟨ob,es,ho,hex,hdat,hk,hp,hn⟩ ?_
  refine ⟨s1.heap.objs.size,[s1.heap.objs.size],_,_,_,rfl,I2.kept (t':=s1.toks) fun b o e=>Heap.get?_push_of_some _ e,RN d _ ob ks,⟨es,ep,⟨_,Heap.get?_push_size _ rfl,rfl,by rw[hsz]; rfl⟩,hdat⟩,fun b hb=>?_,q ob (I1.nofrz hd)⟩
  have e:b=s1.heap.objs.size:=by simpa using hb
  subst e
  exact I2.fpOk (Nat.le_refl _) (I2.hok.fresh (Nat.le_refl _))
 ·obtain ⟨ho,z,hS,ws,r,m⟩:=(show s1.heap.get? d=some ob∧ks.length<=sizeLine∧(d == sysModules)=false∧∃vs,KV ks vs∧s1.heap.DictOf (ZQ X.prog X.w) d vs from I1.hok d _ hd)
  obtain ⟨ob',es,ep,ho',hex,hdat,hk,hp,hn⟩:=m
  rw[ho]at ho'
  cases ho'
  have hsz:es.size=ws.length:=by have:=hp.length; simpa using this
  refine wpAny_pyIter_dict (knd:=ZQ X.prog X.w) (kvs:=ws) (ep:=ep) hS ⟨ob,es,ho,hex,hdat,hk,hp,hn⟩ ?_
  refine ⟨s1.heap.objs.size,[s1.heap.objs.size],_,_,_,rfl,I1.kept (t':=s1.toks) fun b o e=>Heap.get?_push_of_some _ e,RN d _ ob ks,⟨es,ep,⟨_,Heap.get?_push_size _ rfl,rfl,by rw[hsz]; rfl⟩,hdat⟩,fun b hb=>?_,q⟩
  have e:b=s1.heap.objs.size:=by simpa using hb
  subst e
  exact I1.fpOk (Nat.le_refl _) (I1.hok.fresh (Nat.le_refl _))
def Thawed (X:Cx) (Q:Hp->Prop) (H2:Hp):Prop:=(∃d ob ks,(∀o u,X.H₀ d≠some (.frz o u))∧H2 d=some (.frz ob (.dK ks))∧Q (upd H2 d (.dK ks)))∨Q H2
theorem Thawed.inv {Q:Hp->Prop} {pins:List (Addr × Obj)} {σ:St} {H:Hp} {s:Shared} (h:Thawed X Q H) (I:Inv X pins σ H s):∃H',Inv X pins σ H' s∧Q H':=by
 rcases h with ⟨d,ob,ks,nf,hd,q⟩|q
 ·exact ⟨_,I.thaw hd nf,q⟩
 ·exact ⟨H,I,q⟩
theorem pe_thaw {e:Expr} {t:TE} (h:PE X e t):PE X e (fun σ H Q=>t σ H fun v=>Thawed X (Q v)):=fun pins s σ H Q I q =>
 thn (h pins s σ H _ I q) fun v s1 ⟨x,H1,I1,r1,q1⟩=>let ⟨H2,I2,q2⟩:=q1.inv I1; ⟨x,H2,I2,r1,q2⟩
def EndsT (X:Cx) (D:Ends):Ends:=⟨fun σ=>Thawed X (D.nx σ),fun v=>Thawed X (D.rt v),fun σ=>Thawed X (D.bk σ),fun σ=>Thawed X (D.ct σ)⟩
theorem sp_thaw {pins:List (Addr × Obj)} {D:Ends} {f:Flow} {s:Shared} (h:SP X pins (EndsT X D) f s):SP X pins D f s:=by
 cases f with
 |next=>obtain ⟨σ,H,I,q⟩:=h; obtain ⟨H2,I2,q2⟩:=Thawed.inv q I; exact ⟨σ,_,I2,q2⟩
 |brk=>obtain ⟨σ,H,I,q⟩:=h; obtain ⟨H2,I2,q2⟩:=Thawed.inv q I; exact ⟨σ,_,I2,q2⟩
 |cont=>obtain ⟨σ,H,I,q⟩:=h; obtain ⟨H2,I2,q2⟩:=Thawed.inv q I; exact ⟨σ,_,I2,q2⟩
 |ret u=>obtain ⟨v,σ,H,I,r,q⟩:=h; obtain ⟨H2,I2,q2⟩:=Thawed.inv q I; exact ⟨v,σ,_,I2,r,q2⟩
theorem ps_thaw {e:Stmt} {t:TS} (h:PS X e t):PS X e (fun D σ H=>t (EndsT X D) σ H):=fun pins s σ H D I q=>thn (h pins s σ H _ I q) fun f s1 z=>sp_thaw z
theorem ints_are:∀{xs:List V} {us:List Value} {ns:List Int},xs=ns.map V.int->Vals xs us->IntsAre us ns
 |_,_,[],e,r=>by subst e; cases r; exact .nil
 |_,_,n::ns,e,r=>by
  subst e
  cases r with
  |cons h r =>
   obtain ⟨t,rfl⟩:=(show ∃t,_=Value.int n t from h)
   exact .cons n t (ints_are rfl r)
theorem of_ints:∀{us:List Value} {ns:List Int},IntsAre us ns->Vals (ns.map V.int) us
 |_,_,.nil=>.nil
 |_,_,.cons n t r=>.cons ⟨t,rfl⟩ (of_ints r)
def rSortI (K:PySem.W.Frag):List V->Hp->VK->Prop:=fun xs H Q=>∃(l:Addr) (ns:List Int),xs=[.ref l]∧SqL K H l (ns.map V.int)∧ns.length < 64∧∀(p:Addr) (ms:List Int),ms.Perm ns->ms.Pairwise (·<=·)->H p=none->Q (.ref p) (upd H p (.lst (ms.map V.int)))
theorem call_sortI:CallR X (.builtin "sorted") (rSortI X.K):=by
 intro pins s σ H xs us Q I r h
 obtain ⟨l,ns,rfl,hl,h64,q⟩:=h
 obtain ⟨u,rfl,ru⟩:=Q7 r
 cases (show u=Value.ref l from ru)
 obtain ⟨its,rv,p,hz⟩:=I.list hl
 have hI:=ints_are rfl rv
 have hlen:its.length=ns.length:=by have:=rv.length; rw[List.length_map]at this; exact this.symm
 refine sorted_ints (vs:=its) (ns:=ns) p.isList hI (by omega) fun out ms a1 a2 a3=>?_
 obtain ⟨e,he⟩:=sortedAll_at s.heap its out
 refine ⟨.ref (s.heap.objs.size+1),_,I.laid (o:=.lst (ms.map V.int)) (t':=s.toks) (fun _ _=>sortedAll_old) (Nat.le_succ _) ?_,rfl,q _ ms a2 a3 (I.hok.fresh (Nat.le_succ _))⟩
 have hl2:ms.length=ns.length:=a2.length_eq
 refine ⟨by rw[List.length_map,sizeLine_eq]; omega,out.toList,e,of_ints a1,?_⟩
 rw[he]
theorem SY:∀{xs:List V} {us:List Value} {bs:List Bool},xs=bs.map V.bl->Vals xs us->LSm.BoolsAre us bs
 |_,_,[],e,r=>by subst e; cases r; exact .nil
 |_,_,b::bs,e,r=>by
  subst e
  cases r with
  |cons h r =>
   cases (show _=Value.bool b from h)
   exact .cons b (SY rfl r)
def rAnyB (K:PySem.W.Frag) (g:List Bool->Bool):List V->Hp->VK->Prop:=fun xs H Q=>∃(l:Addr) (bs:List Bool),xs=[.ref l]∧SqL K H l (bs.map V.bl)∧Q (.bl (g bs)) H
theorem call_anyB (hc:X.calm=true):CallR X (.builtin "any") (rAnyB X.K fun bs=>bs.any id):=by
  intro pins s σ H xs us Q I r h
  obtain ⟨l,bs,rfl,hl,q⟩:=h
  obtain ⟨u,rfl,ru⟩:=Q7 r
  cases (show u=Value.ref l from ru)
  obtain ⟨its,rv,p,hz⟩:=I.list hl
  have hb:=SY rfl rv
  have hp:=p.isList
  have hlt:l < s.heap.objs.size:=by obtain ⟨_,e,_⟩:=hp; exact Heap.lt_size e
  refine call_any_walk (wpAny_pyIter_list hp ⟨s.heap.objs.size,[s.heap.objs.size,l],[s.heap.objs.size],its.toArray.size,_,_,fun j=>(bs[j]?).getD false,rfl,Walks.list (A:=X.A.in1) (I.ok.hd hc) _ l (Nat.ne_of_lt hlt) its.toArray,
    ⟨⟨_,Heap.get?_push_size _ rfl,rfl,rfl⟩,hp.push _⟩,fun j v s' Q' E' hP hQ=>?_,fun h' tk hk=>?_⟩)
  · obtain ⟨b,e,rfl⟩:=hb.get j v (by simpa using hP)
    simp only[e,Option.getD_some]at hQ
    exact wpAny_truthy_bool hQ
  · have e : ((List.range its.toArray.size).any fun j => (bs[j]?).getD false) = bs.any id:=by
      rw[List.size_toArray,hb.length]; exact LSm.range_any bs
    rw[e]
    exact ⟨.bl _,H,I.kept (t':=tk) (LSm.kept_iter hk),rfl,q⟩
end
end L2
namespace L2
open PySem PySem.Spec PyProof.Rows
abbrev Yo (X:Cx) (scope:Scope) (cl:List (Str × Addr)) (xs cn:List Str) (C:Addr) (s₂:Shared) (H₂:Hp) (fp:List Addr):Cx where
 prog:=X.prog
 w:=X.w
 K:=X.K
 mg:=X.mg
 base:=X.base
 A:=X.A
 N:=xs++cn
 s₀:=s₂
 H₀:=H₂
 env:=compEnvC scope cl C X.env
 outer:=X.stack
 stack:=X.stack
 ex:=fp
 fn:=fun _=>false
 calm:=X.calm
 pn:=[]
 xe:=fun _ _=>False
def VB (js:List Nat) (σ:St):St:=js.map fun j=>(σ[j]?).join
structure CompOkT (X:Cx) (scope:Scope) (cl:List (Str × Addr)) (xs cn:List Str) (js:List Nat):Prop where
 clos:closureFor scope X.env=pure cl
 nocell:∀y∈scope.names,y.2≠.cell
 kind:scope.kind=.function
 names:∀y∈scope.names,y.2=.local->scope.names.lookup y.1=some .local
 sub:∀y c,cl.lookup y=some c->X.env.cells.lookup y=some c
 has:∀p∈(relabel scope X.env).names,p.2=.cell∨p.2=.free->∃c,cl.lookup p.1=some c
 cap:∀(k:Nat) y,cn[k]?=some y->∃j,js[k]?=some j∧X.N[j]?=some y∧Vis X.env.scope y∧(X.env.kindOf y=some .cell∨X.env.kindOf y=some .free)∧((compEnvC scope cl 0 X.env).kindOf y=some .cell∨(compEnvC scope cl 0 X.env).kindOf y=some .free)
 len:js.length=cn.length
 nd:(xs++cn).Nodup
theorem compOkT_of {X : Cx} {scope : Scope} {xs cn : List Str} {js : List Nat} (clos : closureFor scope X.env = pure (Rk scope.names X.env)) (nocell : ∀ y ∈ scope.names,y.2 ≠ .cell) (kind : scope.kind = .function)
    (names:∀y∈scope.names,y.2=.local->scope.names.lookup y.1=some .local)
    (has:((relabel scope X.env).names.all fun p=>!(SF (some p.2)) || ((Rk scope.names X.env).lookup p.1).isSome)=true) (len:js.length=cn.length)
    (cap:((cn.zip js).all fun p=>(X.N[p.2]? == some p.1)&&SF (X.env.scope.names.lookup p.1)&&SF ((relabel scope X.env).names.lookup p.1))=true)
    (nd:(xs++cn).Nodup):CompOkT X scope (Rk scope.names X.env) xs cn js where
  clos:=clos
  nocell:=nocell
  kind:=kind
  names:=names
  sub:=fun y c h=>Ur X.env scope.names [] (fun _ z=>(nomatch z)) (y,c) (PySem.mem_of_lookup h)
  has:=fun p hp hk=>by
    have q:=List.all_eq_true.mp has p hp
    have hk':SF (some p.2)=true:=by rcases hk with z|z <;> rw[z] <;> rfl
    rw[hk']at q
    exact Option.isSome_iff_exists.mp (by simpa using q)
  cap:=fun k y e=>by
    have hk:k < cn.length:=(List.getElem?_eq_some_iff.mp e).1
    have hj:js[k]?=some (js[k]'(by omega)):=List.getElem?_eq_getElem _
    have hz:(y,js[k]'(by omega))∈cn.zip js:=by
      refine List.mem_of_getElem? (i:=k) ?_
      rw[List.getElem?_zip_eq_some]
      exact ⟨e,hj⟩
    have q:=List.all_eq_true.mp cap _ hz
    simp only[Bool.and_eq_true,beq_iff_eq]at q
    obtain ⟨⟨q1,q2⟩,q3⟩:=q
    have c2:=Tp q2
    refine ⟨_,hj,q1,?_,c2,Tp q3⟩
    rcases c2 with z|z
    · exact .inr (.inl z)
    · exact .inr (.inr z)
  len:=len
  nd:=nd
section
variable {X:Cx} {scope:Scope} {cl:List (Str × Addr)} {xs cn:List Str} {js:List Nat} {pins:List (Addr × Obj)} {σ:St} {H₂:Hp} {s₂:Shared} {fp:List Addr}
theorem CompOkT.ok (O:CompOkT X scope cl xs cn js) (I:Inv X pins σ H₂ s₂) (hf:∀b∈fp,U5 X pins H₂ b) {C:Addr} (hC:s₂.heap.objs.size<=C) (ho:∀b∈fp,∃o,s₂.heap.get? b=some o):(Yo X scope cl xs cn C s₂ H₂ fp).Ok where
 mod:=I.mod
 kind:=by show (relabel scope X.env).kind=.function; exact O.kind
 glob:=I.ok.glob
 blt:=I.ok.blt
 above:=hC
 inj:=fun y z c h1 h2=>I.ok.inj y z c (O.sub y c h1) (O.sub z c h2)
 has:=fun y hy=>by
  have hy:(relabel scope X.env).names.lookup y=some .cell∨(relabel scope X.env).names.lookup y=some .free:=hy
  rcases hy with hy|hy
  ·exact O.has _ (PySem.mem_of_lookup hy) (.inl rfl)
  ·exact O.has _ (PySem.mem_of_lookup hy) (.inr rfl)
 cab:=fun _ _ h=>(by cases h)
 hd:=I.ok.hd
 frames:=I.ok.frames
 stk:=.inl rfl
 exf:=fun b hb=>by
  obtain ⟨o,e⟩:=ho b hb
  exact ⟨Nat.ne_of_lt (Nat.lt_of_lt_of_le (Heap.lt_size e) hC),fun y c h=>(hf b hb).2.2.2.2.1 y c (O.sub y c h)⟩
 bs:=I.bs
 bsz:=Nat.le_trans I.ok.bsz I.sz
 noex:=fun b o e hb=>by
  rcases (hf b hb).2.2.2.1 with z|z
  ·exact I.ok.noex b o e z
  ·exact absurd (Nat.lt_of_lt_of_le (Heap.lt_size e) (Nat.le_trans I.ok.bsz z)) (Nat.lt_irrefl _)
 exfs:=fun b hb hm=>(List.mem_cons.mp (I.stkSub b hm)).elim (hf b hb).2.1 (hf b hb).2.2.1
 funs:=I.stack
 frf:=I.stkFree
theorem CompOkT.start (O : CompOkT X scope cl xs cn js) (I : Inv X pins σ H₂ s₂) (hf : ∀ b ∈ fp,U5 X pins H₂ b) (ho : ∀ b ∈ fp,∃ o,s₂.heap.get? b = some o) {h₁ : Heap} {m : Str -> Option Value} {tk : Nat}
    (hns:h₁.Ns (s₂.heap.objs.size+1) m) (hk:∀b o,s₂.heap.get? b=some o->h₁.get? b=some o) (hD:h₁.get? s₂.heap.objs.size=some { cls:=.type "list",data:=.seq ([]:List Value).toArray }) :
    Inv (Yo X scope cl xs cn (s₂.heap.objs.size+1) s₂ H₂ fp) [] (List.replicate xs.length none++VB js σ) (upd H₂ s₂.heap.objs.size (.lst [])) { s₂ with heap:=h₁,toks:=tk }:=by
  have fD:H₂ s₂.heap.objs.size=none:=I.hok.fresh (Nat.le_refl _)
  have fC:H₂ (s₂.heap.objs.size+1)=none:=I.hok.fresh (Nat.le_succ _)
  have neD:s₂.heap.objs.size+1≠s₂.heap.objs.size:=Nat.succ_ne_self _
  obtain ⟨m0,hn0,hl0⟩:=I.loc
  refine ⟨O.ok I hf (Nat.le_succ _) ho,rfl,I.bare,?_,⟨m,hns,fun i y v e1 e2 e3=>?_⟩,fun y c e=>?_,?_,fun y c e=>?_,(fun p hp=>nomatch hp),?_,?_⟩
  · exact Un.laid hk (Nat.le_refl _) fD
  · have hi : xs.length <= i:=by
      by_cases h:i < xs.length
      · rw[List.getElem?_append_left (by simpa using h),List.getElem?_replicate,if_pos h]at e2
        cases e2
      · omega
    rw[List.getElem?_append_right (by simpa using hi),List.length_replicate]at e2
    have e1:cn[i - xs.length]?=some y:=by
      have e1:(xs++cn)[i]?=some y:=e1
      rw[List.getElem?_append_right hi]at e1
      exact e1
    · obtain ⟨j,hj,hjN,hvis,hcell,hk2⟩:=O.cap _ y e1
      have e4:(σ[j]?).join=some v:=by
        have z:(js.map fun j=>(σ[j]?).join)[i - xs.length]?=some (some v):=e2
        rw[List.getElem?_map,hj]at z
        simpa using z
      have e5:σ[j]?=some (some v):=by
        cases q:σ[j]? with
        |none=>rw[q]at e4; cases e4
        |some o=>rw[q]at e4; simp at e4; rw[e4]
      obtain ⟨u,r,l⟩:=hl0 j y v hjN e5 hvis
      refine ⟨u,r,.inr ⟨hk2,?_⟩⟩
      rcases l with ⟨kl,_⟩|⟨_,c,ec,z⟩
      · rcases hcell with q|q
        · rw[kl]at q; cases q
        · rw[kl]at q; cases q
      · have hy : ∃ c',cl.lookup y = some c':=by
          rcases hk2 with q|q
          · exact O.has _ (PySem.mem_of_lookup (show (relabel scope X.env).names.lookup y=some .cell from q)) (.inl rfl)
          · exact O.has _ (PySem.mem_of_lookup (show (relabel scope X.env).names.lookup y=some .free from q)) (.inr rfl)
        obtain ⟨c',hc'⟩:=hy
        have ecc:=O.sub y c' hc'
        rw[ec]at ecc
        cases ecc
        exact ⟨c,hc',z.keeps hk⟩
  · obtain ⟨v,z⟩:=I.cell y c (O.sub y c e)
    exact ⟨v,z.keeps hk⟩
  · show upd H₂ s₂.heap.objs.size (.lst []) (s₂.heap.objs.size+1)=none
    rw[Zp neD]; exact fC
  · obtain ⟨v,o,ho',_⟩:=I.cell y c (O.sub y c e)
    rw[Zp (Nat.ne_of_lt (Heap.lt_size ho'))]
    exact I.freeC y c (O.sub y c e)
  · exact I.hok.laid hk (Nat.le_refl _) ⟨Nat.zero_le _,[],0,.nil,hD⟩
  · show (List.replicate xs.length none++VB js σ).length=(xs++cn).length
    simp[VB,O.len]
end
def tCompT (wi:TI) (n:Nat) (g:TG) (js:List Nat) (tc:Addr->Shared->Hp->List Addr->TT) (te:Addr->Shared->Hp->List Addr->TE):TE:=fun σ H Q=>wi σ H fun J H1=>∀D,H1 D=none->∀C s₂ H₂ fp,∃W:Nat->Nat->List V->Hp->Prop,(∃m,W 0 m [] (upd H1 D (.lst [])))∧∀i m ys H2,W i m ys H2->H2 D=some (.lst ys) ∧
 ((J.stop i H2∧Q (.ref D) H2)∨(J.go i H2∧∀x H',J.yld i H2 x H'->∀vs:St,vs.length=n->g x (vs++VB js σ) H' fun σ2 H6=>(∃vs2:St,vs2.length=n∧σ2=vs2++VB js σ)∧tc C s₂ H₂ fp σ2 H6 fun b H3=>if b=true then te C s₂ H₂ fp σ2 H3 fun v H4=>H4 D=some (.lst ys)∧ys.length < sizeLine∧∃m',m' < m∧W (i+1) m' (ys++[v]) (upd H4 D (.lst (ys++[v])))
  else ∃m',m' < m∧W (i+1) m' ys H3))
section
variable {X:Cx} {scope:Scope} {cl:List (Str × Addr)} {xs cn:List Str} {js:List Nat} {elt iter:Expr} {ifs:List Expr} {tg:Expr} {g:TG} {pos:Pos} {wi:TI} {tc:Addr->Shared->Hp->List Addr->TT} {te:Addr->Shared->Hp->List Addr->TE}
theorem comp_blockT (O : CompOkT X scope cl xs cn js) (hc : X.calm = true) (hg : ∀ C s₂ H₂ fp,PG (Yo X scope cl xs cn C s₂ H₂ fp) tg g) (ht : ∀ C s₂ H₂ fp,VM (Yo X scope cl xs cn C s₂ H₂ fp) ifs (tc C s₂ H₂ fp)) (he : ∀ C s₂ H₂ fp,PE (Yo X scope cl xs cn C s₂ H₂ fp) elt (te C s₂ H₂ fp))
    {pins:List (Addr × Obj)} {σ:St} {s₂:Shared} {itv:Value} {R:V->Hp->Prop} {RR:Value->Addr->Result->Shared->Prop} {E:Value->Shared->Prop}
    (h:PIE X pins σ (tg) (fun J H1=>∀D,H1 D=none->∀C s₂ H₂ fp,∃W:Nat->Nat->List V->Hp->Prop,(∃m,W 0 m [] (upd H1 D (.lst [])))∧∀i m ys H2,W i m ys H2->H2 D=some (.lst ys) ∧
      ((J.stop i H2∧R (.ref D) H2)∨(J.go i H2∧∀x H',J.yld i H2 x H'->∀vs:St,vs.length=xs.length->g x (vs++VB js σ) H' fun σ2 H6=>(∃vs2:St,vs2.length=xs.length∧σ2=vs2++VB js σ)∧tc C s₂ H₂ fp σ2 H6 fun b H3=>if b=true then te C s₂ H₂ fp σ2 H3 fun v H4=>H4 D=some (.lst ys)∧ys.length < sizeLine∧∃m',m' < m∧W (i+1) m' (ys++[v]) (upd H4 D (.lst (ys++[v])))
        else ∃m',m' < m∧W (i+1) m' ys H3))) itv s₂)
    (hRR:∀D C H' s',Inv X pins σ H' s'->R (.ref D) H'->H' C=none->C≠X.env.locals->X.s₀.heap.objs.size<=C->(∀y c,X.env.cells.lookup y=some c->c≠C)->(∀p∈X.pn++pins,p.1≠C)->(∃m,s'.heap.Ns C m)->RR (.ref D) C (.ok .next) s') :
    wpAny (model X.prog X.w) X.A (newList []) (fun acc s₃=>wpAny (model X.prog X.w) X.A (newFunctionEnv scope X.env.globals cl [] X.env.qual none .none (some X.env)) (fun cenv s₄ =>
      codeAny (model X.prog X.w) X.A (.compStart (.ListComp elt [⟨tg,iter,ifs,0⟩] scope pos) 0 itv acc { cenv with scope:=relabel scope X.env }) (RR acc cenv.locals) s₄) E s₃) E s₂:=by
  obtain ⟨it,fp,tn,J,H₂,rfl,I2,T,st2,f2,hR⟩:=h
  have ho:∀b∈fp,∃o,s₂.heap.get? b=some o:=fun b hb=>let ⟨o,e,_⟩:=T.obj _ _ st2 b hb; ⟨o,e⟩
  obtain ⟨W,⟨m0,w0⟩,turn⟩:=hR s₂.heap.objs.size (I2.hok.fresh (Nat.le_refl _)) (s₂.heap.objs.size+1) s₂ H₂ fp
  refine wpAny_newObj_type (wpAny_newFunctionEnv O.nocell (by intro y hy; simp at hy) (fun h₁ hns₁ hsb₁=>?_) O.kind)
  dsimp only at hns₁ hsb₁ ⊢
  generalize hH2:s₂.heap.push { cls:=.type "list",dict:=none,data:=.seq ([]:List Value).toArray }=HH at hns₁ hsb₁ ⊢
  have hsz:HH.objs.size=s₂.heap.objs.size+1:=by rw[← hH2,Heap.size_push]
  have old:∀b o,s₂.heap.get? b=some o->h₁.get? b=some o:=fun b o e=>by
    refine hsb₁.extBut b o ?_ (Heap.get?_push_of_some _ (hH2 ▸ Heap.get?_push_of_some _ e))
    rw[hsz]
    exact Nat.ne_of_lt (Nat.lt_succ_of_lt (Heap.lt_size e))
  have hD:h₁.get? s₂.heap.objs.size=some { cls:=.type "list",data:=.seq ([]:List Value).toArray }:=by
    refine hsb₁.extBut _ _ ?_ (Heap.get?_push_of_some _ (hH2 ▸ Heap.get?_push_size _ rfl))
    rw[hsz]
    exact Nat.ne_of_lt (Nat.lt_succ_self _)
  rw[hsz]at hns₁
  show codeAny _ _ (.compStart _ 0 (.ref it) (.ref s₂.heap.objs.size) (compEnvC scope cl HH.objs.size X.env)) (RR (.ref s₂.heap.objs.size) HH.objs.size) _
  rw[hsz]
  have I3:=O.start I2 f2 ho (tk:=s₂.toks+([]:List (Str × Value)).length) hns₁ old hD
  have st3:tn 0 h₁:=T.keep 0 _ _ st2 fun b hb o e=>old b o e
  have fpD:∀b∈fp,b≠s₂.heap.objs.size:=fun b hb=>by obtain ⟨o,e⟩:=ho b hb; exact Nat.ne_of_lt (Heap.lt_size e)
  have stat:∀{pl:List (Addr × Obj)} {H':Hp},(∀b∈fp,H' b=none)->(∀p∈pl,∀b∈fp,p.1≠b)->∀b∈fp,U5 (Yo X scope cl xs cn (s₂.heap.objs.size+1) s₂ H₂ fp) pl H' b:=fun {pl H'} hn hp b hb =>
    ⟨hn b hb,(I3.ok.exf b hb).1,fun hm=>I3.ok.exfs b hb hm,.inl hb,(I3.ok.exf b hb).2,fun p hpm=>hp p (by simpa using hpm) b hb⟩
  have loop : ∀ s₃ : Shared,s₃ = { s₂ with heap:=h₁,toks:=s₂.toks + ([] : List (Str × Value)).length } ->
      codeAny (model X.prog X.w) X.A (.compLoop (.ListComp elt [⟨tg,iter,ifs,0⟩] scope pos) 0 (.ref it) (.ref s₂.heap.objs.size) (compEnvC scope cl (s₂.heap.objs.size+1) X.env)) (RR (.ref s₂.heap.objs.size) (s₂.heap.objs.size+1)) s₃:=by
    rintro s₃ rfl
    refine UU (fun n s'=>∃i ys vs H',vs.length=xs.length∧Inv (Yo X scope cl xs cn (s₂.heap.objs.size+1) s₂ H₂ fp) [] (vs++VB js σ) H' s'∧tn i s'.heap∧(∀b∈fp,H' b=none)∧W i n ys H') ?_ m0
      ⟨0,[],_,_,List.length_replicate,I3,st3,fun b hb=>by rw[Zp (fpD b hb)]; exact (f2 b hb).1,w0⟩
    rintro n s4 ⟨i,ys,v4,H4,hv4,I4,st4,fr4,w4⟩
    obtain ⟨hD4,tr⟩:=turn i n ys H4 w4
    rcases tr with ⟨stop,qn⟩|⟨go,step⟩
    · refine wpAny_mono (T.done (Yo X scope cl xs cn (s₂.heap.objs.size+1) s₂ H₂ fp) rfl rfl rfl hc i [] s4 _ H4 (fun _ _=>False) I4 (stat fr4 (fun _ z=>nomatch z)) st4 stop) (fun r s5 ⟨hr,I5⟩=>?_) fun _ _ q=>q
      subst hr
      have I6:Inv X pins σ H4 s5:=I2.call' (ch:=fp) I5.os I5.base I5.hok I5.bare fun b hb=>⟨(f2 b hb).2.2.2.1,(f2 b hb).2.1,(f2 b hb).2.2.2.2.1,(f2 b hb).2.2.2.2.2⟩
      obtain ⟨m,hn,_⟩:=I5.loc
      refine hRR _ _ H4 s5 I6 qn I5.free (Nat.ne_of_gt (Nat.lt_succ_of_lt I2.lt)) (Nat.le_succ_of_le I2.sz) (fun y c e z=>?_) (fun p hp z=>?_) ⟨m,hn⟩
      · obtain ⟨v,o,ho',_⟩:=I2.cell y c e
        exact absurd (Heap.lt_size ho') (by rw[z]; exact Nat.not_lt.mpr (Nat.le_succ _))
      · exact absurd (Heap.lt_size (I2.pin p hp).1) (by rw[z]; exact Nat.not_lt.mpr (Nat.le_succ _))
    · refine wpAny_mono (T.item (Yo X scope cl xs cn (s₂.heap.objs.size+1) s₂ H₂ fp) rfl rfl rfl hc i [] s4 _ H4 (fun _ _=>False) I4 (stat fr4 (fun _ z=>nomatch z)) st4 go) (fun r s4' ⟨u,hr,h5⟩=>?_) fun _ _ q=>q
      subst hr
      refine wpAny_mono h5 (fun _ s5 ⟨x5,H5,I5,r5,y5,st5,fr5⟩=>?_) fun _ _ q=>q
      have I5p:=I5.pinned (stat fr5 (fun _ z=>nomatch z)) (T.obj _ _ st5)
      refine wpAny_mono (hg _ _ _ _ _ s5 _ H5 x5 u _ I5p r5 (step x5 H5 y5 v4 hv4)) (fun _ s6 ⟨σ6,H6,I6,⟨vs6,hv6,e6⟩,q6⟩=>?_) fun _ _ q=>q
      subst e6
      have again:∀{s7:Shared} {H7:Hp},Inv (Yo X scope cl xs cn (s₂.heap.objs.size+1) s₂ H₂ fp) ([]++Wx fp s5.heap) (vs6++VB js σ) H7 s7->tn (i+1) s7.heap∧∀b∈fp,H7 b=none:=fun {s7 H7} I7=>by
        refine ⟨T.keep _ _ _ st5 fun b hb o e=>(I7.pin (b,o) (List.mem_append_right _ (List.mem_append_right _ (Xb hb e)))).1,fun b hb=>?_⟩
        obtain ⟨o,e,d⟩:=T.obj _ _ st5 b hb
        exact (I7.pin (b,o) (List.mem_append_right _ (List.mem_append_right _ (Xb hb e)))).2.1
      refine wpAny_mono (ht _ _ _ _ _ s6 _ H6 _ I6 q6) (fun ok s7 ⟨H7,I7,q7⟩=>?_) fun _ _ q=>q
      cases ok with
      |false =>
        rw[if_neg Bool.false_ne_true]
        rw[if_neg Bool.false_ne_true]at q7
        obtain ⟨m',hm,w7⟩:=q7
        obtain ⟨st7,fr7⟩:=again I7
        exact ⟨m',hm,i+1,ys,vs6,H7,hv6,I7.unpinned,st7,fr7,w7⟩
      |true =>
        rw[if_pos rfl]
        rw[if_pos rfl]at q7
        refine wpAny_mono (he _ _ _ _ _ s7 _ H7 _ I7 q7) (fun u8 s8 ⟨v8,H8,I8,r8,hD8,hz8,m',hm,w8⟩=>?_) fun _ _ q=>q
        obtain ⟨st8,fr8⟩:=again I8
        obtain ⟨z8,its,k8,rv8,e8⟩:=I8.hok _ _ hD8
        have hl8:=rv8.length
        refine append_at (E:=fun _ _=>False) (hsz:=by rw[List.size_toArray]; omega) e8 fun h9 hs9 e9=>?_
        have I9:Inv (Yo X scope cl xs cn (s₂.heap.objs.size+1) s₂ H₂ fp) ([]++Wx fp s5.heap) (vs6++VB js σ) (upd H8 s₂.heap.objs.size (.lst (ys++[v8]))) { s8 with heap:=h9 }:=by
          refine I8.write (x:=s₂.heap.objs.size) (e:=s₂.heap.objs.size) (t':=s8.toks) (by rw[hD8]; exact True.intro) (.inl rfl) (fun b u hb q=>(hs9.2 b hb).trans q) ⟨_,e9⟩ ?_
          refine ⟨by rw[List.length_append,List.length_singleton]; omega,its++[u8],k8+1,rv8.append (.cons r8 .nil),?_⟩
          rw[e9,List.push_toArray]
        obtain ⟨st9,fr9⟩:=again I9
        exact ⟨m',hm,i+1,ys++[v8],vs6,_,hv6,I9.unpinned,st9,fr9,w8⟩
  exact codeAny_compStart_list (loop _ rfl) (T.self _ 0 _ _ _ st3 (loop _ rfl))
theorem pe_compT (O : CompOkT X scope cl xs cn js) (hc : X.calm = true) (hg : ∀ C s₂ H₂ fp,PG (Yo X scope cl xs cn C s₂ H₂ fp) tg g) (hi : PI X (tg) iter wi) (ht : ∀ C s₂ H₂ fp,VM (Yo X scope cl xs cn C s₂ H₂ fp) ifs (tc C s₂ H₂ fp)) (he : ∀ C s₂ H₂ fp,PE (Yo X scope cl xs cn C s₂ H₂ fp) elt (te C s₂ H₂ fp))
    (hs:∀v,foldedSetIterable iter X.env v=pure v:=by intro _; rfl):PE X (.ListComp elt [⟨tg,iter,ifs,0⟩] scope pos) (tCompT wi xs.length g js tc te):=by
  intro pins s σ H Q I h
  rw[eval_ListComp]
  refine wpAny_comprehension_free (use:=none) rfl hs O.clos O.kind O.names (thn (hi pins s σ H _ I h) fun v s1 h1=>thn h1 fun itv s2 h2=>?_)
  refine comp_blockT O hc hg ht he (R:=Q) (RR:=fun acc C=>compPost (model X.prog X.w) X.A X.xe none (EP X pins σ Q) acc C) h2 ?_
  intro D C H' s' I' q hC hL h0 hcl hp ⟨m,hn⟩
  refine ⟨m,hn,fun h'' hs''=>⟨.ref D,H',?_,rfl,q⟩⟩
  exact I'.turned (t':=s'.toks) (fun b o hb e=>(hs''.2 b hb).trans e) hC hL (.inr h0) hcl hp
end
end L2
namespace L2
open PySem PySem.Spec PyProof.Rows
inductive Wv where
 |non|bl (b:Bool)|int (i:Int)|str (x:Str)|lst (ws:List Wv)|tup (ws:List Wv)|o (h:Nat)|g (a:Addr)
inductive Ob where
 |ins (C:Addr) (fs:List (Str × Wv))|lst (ws:List Wv)|dk (kvs:List (Key × Wv))|dt (kvs:List (List Key × Wv))|exc (C:Addr)|dz (kvs:List (Key × Wv))
section
variable (F:Hp) (β:List Addr)
mutual
inductive RW:Wv->V->Prop
 |non:RW .non .non
 |bl (b:Bool):RW (.bl b) (.bl b)
 |int (i:Int):RW (.int i) (.int i)
 |str (x:Str):RW (.str x) (.str x)
 |lst {a:Addr} {xs:List V} {ws:List Wv} (e:Rd F a (.lst xs)) (r:RWs ws xs):RW (.lst ws) (.ref a)
 |tup {a:Addr} {xs:List V} {ws:List Wv} (e:F a=some (.tup xs)) (r:RWs ws xs):RW (.tup ws) (.ref a)
 |o {h:Nat} {a:Addr} (e:β[h]?=some a):RW (.o h) (.ref a)
 |g (a:Addr):RW (.g a) (.ref a)
inductive RWs:List Wv->List V->Prop
 |nil:RWs [] []
 |cons {w:Wv} {ws:List Wv} {v:V} {vs:List V} (h:RW w v) (r:RWs ws vs):RWs (w::ws) (v::vs)
end
end
structure Gr (F F':Hp) (β β':List Addr):Prop where
 same:Same F F'
 pre:∀(h:Nat) (a:Addr),β[h]?=some a->β'[h]?=some a
theorem Gr.refl (F:Hp) (β:List Addr):Gr F F β β:=⟨Same.refl _,fun _ _ e=>e⟩
theorem Gr.trans {F F1 F2:Hp} {β β1 β2:List Addr} (a:Gr F F1 β β1) (b:Gr F1 F2 β1 β2):Gr F F2 β β2:=⟨a.same.trans b.same,fun h x e=>b.pre h x (a.pre h x e)⟩
theorem Rd.same {H H':Hp} {a:Addr} {u:HO} (s:Same H H') (r:Rd H a u):Rd H' a u:=r.elim (fun e=>.inl (s _ _ e)) fun ⟨o,e⟩=>.inr ⟨o,s _ _ e⟩
mutual
theorem RW.mono {F F':Hp} {β β':List Addr} (g:Gr F F' β β'):∀{w:Wv} {v:V},RW F β w v->RW F' β' w v
 |_,_,.non=>.non
 |_,_,.bl b=>.bl b
 |_,_,.int i=>.int i
 |_,_,.str x=>.str x
 |_,_,.lst e r=>.lst (Rd.same g.same e) (RWs.mono g r)
 |_,_,.tup e r=>.tup (g.same _ _ e) (RWs.mono g r)
 |_,_,.o e=>.o (g.pre _ _ e)
 |_,_,.g a=>.g a
theorem RWs.mono {F F':Hp} {β β':List Addr} (g:Gr F F' β β'):∀{ws:List Wv} {vs:List V},RWs F β ws vs->RWs F' β' ws vs
 |_,_,.nil=>.nil
 |_,_,.cons h r=>.cons (RW.mono g h) (RWs.mono g r)
end
section
variable {F:Hp} {β:List Addr}
theorem RWs.length:∀{ws:List Wv} {vs:List V},RWs F β ws vs->ws.length=vs.length
 |_,_,.nil=>rfl
 |_,_,.cons _ r=>by rw[List.length_cons,List.length_cons,RWs.length r]
theorem RWs.get:∀{ws:List Wv} {vs:List V} {i:Nat} {w:Wv},RWs F β ws vs->ws[i]?=some w->∃v,vs[i]?=some v∧RW F β w v
 |_,_,_,_,.nil,e=>by simp at e
 |_,_,0,_,.cons h _,e=>by simp at e; subst e; exact ⟨_,rfl,h⟩
 |_,_,i+1,w,.cons _ r,e=>by
  obtain ⟨v,h1,h2⟩:=RWs.get (i:=i) (w:=w) r (by simpa using e)
  exact ⟨v,by simpa using h1,h2⟩
theorem RWs.append:∀{ws us:List Wv} {vs xs:List V},RWs F β ws vs->RWs F β us xs->RWs F β (ws++us) (vs++xs)
 |_,_,_,_,.nil,s=>s
 |_,_,_,_,.cons h r,s=>.cons h (RWs.append r s)
theorem RWs.set {w:Wv} {v:V} (h:RW F β w v):∀{ws:List Wv} {vs:List V} (i:Nat),RWs F β ws vs->RWs F β (ws.set i w) (vs.set i v)
 |_,_,_,.nil=>.nil
 |_,_,0,.cons _ r=>.cons h r
 |_,_,i+1,.cons q r=>.cons q (RWs.set h i r)
theorem RWs.take:∀{ws:List Wv} {vs:List V} (n:Nat),RWs F β ws vs->RWs F β (ws.take n) (vs.take n)
 |_,_,0,_=>.nil
 |_,_,_+1,.nil=>.nil
 |_,_,n+1,.cons h r=>.cons h (RWs.take n r)
theorem RWs.drop:∀{ws:List Wv} {vs:List V} (n:Nat),RWs F β ws vs->RWs F β (ws.drop n) (vs.drop n)
 |_,_,0,r=>r
 |_,_,_+1,.nil=>.nil
 |_,_,n+1,.cons _ r=>RWs.drop n r
end
inductive RK (F:Hp) (β:List Addr) {κ:Type}:List (κ × Wv)->List (κ × V)->Prop
 |nil:RK F β [] []
 |cons {k:κ} {w:Wv} {v:V} {ps:List (κ × Wv)} {qs:List (κ × V)} (h:RW F β w v) (r:RK F β ps qs):RK F β ((k,w)::ps) ((k,v)::qs)
theorem RK.mono {F F':Hp} {β β':List Addr} {κ:Type} (g:Gr F F' β β'):∀{ps:List (κ × Wv)} {qs:List (κ × V)},RK F β ps qs->RK F' β' ps qs
 |_,_,.nil=>.nil
 |_,_,.cons h r=>.cons (h.mono g) (RK.mono g r)
def ObR (F H:Hp) (β:List Addr) (a:Addr):Ob->Prop
 |.ins C fs=>∃dx fs',H a=some (.ins C dx fs')∧RK F β fs fs'
 |.lst ws=>∃xs,H a=some (.lst xs)∧RWs F β ws xs
 |.dk kvs=>∃ks,H a=some (.dK ks)∧RK F β kvs ks
 |.dt kvs=>∃ks,H a=some (.dT ks)∧RK F β kvs ks
 |.exc C=>H a=some (excO a C)
 |.dz kvs=>∃o ks,H a=some (.frz o (.dK ks))∧RK F β kvs ks
theorem ObR.mono {F F' H H':Hp} {β β':List Addr} {a:Addr} (g:Gr F F' β β') (e:H' a=H a):∀{ob:Ob},ObR F H β a ob->ObR F' H' β' a ob
 |.ins C fs,⟨dx,fs',h,r⟩=>⟨dx,fs',e.trans h,r.mono g⟩
 |.lst ws,⟨xs,h,r⟩=>⟨xs,e.trans h,r.mono g⟩
 |.dk kvs,⟨ks,h,r⟩=>⟨ks,e.trans h,r.mono g⟩
 |.dt kvs,⟨ks,h,r⟩=>⟨ks,e.trans h,r.mono g⟩
 |.exc C,h=>e.trans h
 |.dz kvs,⟨o,ks,h,r⟩=>⟨o,ks,e.trans h,r.mono g⟩
theorem ObR.ex {F H:Hp} {β:List Addr} {a:Addr}:∀{ob:Ob},ObR F H β a ob->∃x,H a=some x
 |.ins C fs,⟨dx,fs',h,r⟩=>⟨_,h⟩
 |.lst ws,⟨xs,h,r⟩=>⟨_,h⟩
 |.dk kvs,⟨ks,h,r⟩=>⟨_,h⟩
 |.dt kvs,⟨ks,h,r⟩=>⟨_,h⟩
 |.exc C,h=>⟨_,h⟩
 |.dz kvs,⟨o,ks,h,r⟩=>⟨_,h⟩
theorem ndx {α:Type} {l:List α} (hN:l.Nodup) {i j:Nat} {x:α} (a:l[i]?=some x) (b:l[j]?=some x):i=j:=by
 obtain ⟨ha,ea⟩:=List.getElem?_eq_some_iff.mp a
 obtain ⟨hb,eb⟩:=List.getElem?_eq_some_iff.mp b
 have hp:=List.pairwise_iff_getElem.mp hN
 rcases Nat.lt_trichotomy i j with h|h|h
 ·exact absurd (ea.trans eb.symm) (hp i j ha hb h)
 ·exact h
 ·exact absurd (eb.trans ea.symm) (hp j i hb ha h)
structure MOk (F H:Hp) (β:List Addr) (om:List Ob):Prop where
 sub:Same F H
 nd:β.Nodup
 len:β.length=om.length
 free:∀(h:Nat) (a:Addr),β[h]?=some a->F a=none
 ob:∀(h:Nat) (a:Addr) (x:Ob),β[h]?=some a->om[h]?=some x->ObR F H β a x
section
variable {F H:Hp} {β:List Addr} {om:List Ob}
theorem MOk.at (M:MOk F H β om) {h:Nat} {x:Ob} (e:om[h]?=some x):∃a,β[h]?=some a∧F a=none∧ObR F H β a x:=by
 have hl:h < β.length:=by rw[M.len]; exact (List.getElem?_eq_some_iff.mp e).1
 have e1:β[h]?=some β[h]:=List.getElem?_eq_getElem hl
 exact ⟨_,e1,M.free h _ e1,M.ob h _ x e1 e⟩
theorem MOk.there (M:MOk F H β om) {h:Nat} {a:Addr} (e:β[h]?=some a):∃x,H a=some x:=by
 have hl:h < om.length:=by rw[← M.len]; exact (List.getElem?_eq_some_iff.mp e).1
 exact (M.ob h a _ e (List.getElem?_eq_getElem hl)).ex
theorem MOk.newF {p:Addr} {o:HO} (M:MOk F H β om) (hp:H p=none):Gr F (upd F p o) β β∧MOk (upd F p o) (upd H p o) β om:=by
 have fp:F p=none:=M.sub.free hp
 have g:Gr F (upd F p o) β β:=⟨fun b u e=>by rw[Zp (ZL e fp)]; exact e,fun _ _ e=>e⟩
 have ne:∀(h:Nat) (a:Addr),β[h]?=some a->a≠p:=fun h a e z=>by
  obtain ⟨x,hx⟩:=M.there e
  rw[z,hp]at hx; cases hx
 refine ⟨g,fun b u e=>?_,M.nd,M.len,fun h a e=>by rw[Zp (ne h a e)]; exact M.free h a e,fun h a x e1 e2=>(M.ob h a x e1 e2).mono g (Zp (ne h a e1))⟩
 by_cases hb:b=p
 ·subst hb; rw[ZA]at e ⊢; exact e
 ·rw[Zp hb]at e ⊢; exact M.sub b u e
theorem MOk.newO {p:Addr} {o:HO} {x:Ob} (M:MOk F H β om) (hp:H p=none) (hx:∀β',Gr F F β β'->ObR F (upd H p o) β' p x):Gr F F β (β++[p])∧MOk F (upd H p o) (β++[p]) (om++[x])∧(β++[p])[om.length]?=some p:=by
 have fp:F p=none:=M.sub.free hp
 have ne:∀(h:Nat) (a:Addr),β[h]?=some a->a≠p:=fun h a e z=>by
  obtain ⟨y,hy⟩:=M.there e
  rw[z,hp]at hy; cases hy
 have g:Gr F F β (β++[p]):=⟨Same.refl _,fun h a e=>by rw[List.getElem?_append_left (List.getElem?_eq_some_iff.mp e).1]; exact e⟩
 have last:(β++[p])[om.length]?=some p:=by rw[← M.len,List.getElem?_append_right (Nat.le_refl _),Nat.sub_self]; rfl
 have cs:∀(h:Nat) (a:Addr),(β++[p])[h]?=some a->β[h]?=some a∨(h=om.length∧a=p):=fun h a e=>by
  by_cases hl:h < β.length
  ·rw[List.getElem?_append_left hl]at e; exact .inl e
  ·rw[List.getElem?_append_right (by omega)]at e
   have:h - β.length=0:=by
    have:=(List.getElem?_eq_some_iff.mp e).1
    simp at this; omega
   rw[this]at e
   refine .inr ⟨by rw[← M.len]; omega,by simpa using e.symm⟩
 refine ⟨g,⟨fun b u e=>by rw[Zp (ZL e fp)]; exact M.sub b u e,?_,by simp[M.len],fun h a e=>?_,fun h a y e1 e2=>?_⟩,last⟩
 ·rw[List.nodup_append]
  refine ⟨M.nd,by simp,fun a ha b hb z=>?_⟩
  obtain ⟨i,hi⟩:=List.getElem?_of_mem ha
  exact ne i a hi (z.trans (List.mem_singleton.mp hb))
 ·rcases cs h a e with e|⟨_,rfl⟩
  ·exact M.free h a e
  ·exact fp
 ·rcases cs h a e1 with e|⟨rfl,rfl⟩
  ·have hl:h < om.length:=by rw[← M.len]; exact (List.getElem?_eq_some_iff.mp e).1
   rw[List.getElem?_append_left hl]at e2
   exact (M.ob h a y e e2).mono g (Zp (ne h a e))
  ·rw[List.getElem?_append_right (Nat.le_refl _),Nat.sub_self]at e2
   cases e2
   exact hx _ g
theorem MOk.put {h:Nat} {a:Addr} {o:HO} {x:Ob} (M:MOk F H β om) (e:β[h]?=some a) (hx:ObR F (upd H a o) β a x):MOk F (upd H a o) β (om.set h x):=by
 have fa:=M.free h a e
 refine ⟨fun b u eb=>by rw[Zp (ZL eb fa)]; exact M.sub b u eb,M.nd,by simp[M.len],M.free,fun j b y e1 e2=>?_⟩
 by_cases hj:j=h
 ·subst hj
  rw[e]at e1; cases e1
  have hl:j < om.length:=by rw[← M.len]; exact (List.getElem?_eq_some_iff.mp e).1
  rw[List.getElem?_set_self hl]at e2
  cases e2
  exact hx
 ·rw[List.getElem?_set_ne (Ne.symm hj)]at e2
  have nb:b≠a:=fun z=>by
   subst z
   exact hj (ndx M.nd e1 e)
  exact (M.ob j b y e1 e2).mono (Gr.refl _ _) (Zp nb)
end
structure Gx (F F' H H':Hp) (β β':List Addr):Prop extends Gr F F' β β' where
 keep:∀b o,H b=some o->b ∉ β->H' b=some o
 there:∀b,H' b=none->H b=none
 new:∀b,b∈β'->b∈β∨H b=none
 fnew:∀b o,F' b=some o->F b=some o∨H b=none
 frz:∀b o u,H b=some (.frz o u)->H' b=some (.frz o u)
theorem Gx.refl (F H:Hp) (β:List Addr):Gx F F H H β β:=⟨Gr.refl _ _,fun _ _ e _=>e,fun _ e=>e,fun _ e=>.inl e,fun _ _ e=>.inl e,fun _ _ _ e=>e⟩
theorem Gx.trans {F F1 F2 H H1 H2:Hp} {β β1 β2:List Addr} (a:Gx F F1 H H1 β β1) (b:Gx F1 F2 H1 H2 β1 β2):Gx F F2 H H2 β β2:=by
 have n1:∀c o,H c=some o->c ∉ β->c ∉ β1:=fun c o e h h1=>(a.new c h1).elim h fun z=>by rw[e]at z; cases z
 refine ⟨a.toGr.trans b.toGr,fun c o e h=>b.keep c o (a.keep c o e h) (n1 c o e h),fun c e=>a.there c (b.there c e),fun c h=>?_,fun c o e=>?_,fun c o u e=>b.frz c o u (a.frz c o u e)⟩
 ·rcases b.new c h with h|h
  ·exact a.new c h
  ·exact .inr (a.there c h)
 ·rcases b.fnew c o e with h|h
  ·exact a.fnew c o h
  ·exact .inr (a.there c h)
section
variable {F H:Hp} {β:List Addr} {om:List Ob} {p:Addr} {o:HO}
theorem MOk.gxF (M:MOk F H β om) (hp:H p=none):Gx F (upd F p o) H (upd H p o) β β :=
 ⟨(M.newF (o:=o) hp).1,fun b u e _=>by rw[Zp (ZL e hp)]; exact e,fun b e=>by
  by_cases hb:b=p
  ·rw[hb]; exact hp
  ·rw[Zp hb]at e; exact e,fun _ e=>.inl e,fun b u e=>by
  by_cases hb:b=p
  ·rw[hb]; exact .inr hp
  ·rw[Zp hb]at e; exact .inl e,fun b u w e=>by rw[Zp (ZL e hp)]; exact e⟩
theorem MOk.gxU (M:MOk F H β om) (hp:H p=none):Gx F F H (upd H p o) β β :=
 ⟨Gr.refl _ _,fun b u e _=>by rw[Zp (ZL e hp)]; exact e,fun b e=>by
  by_cases hb:b=p
  ·rw[hb]; exact hp
  ·rw[Zp hb]at e; exact e,fun _ e=>.inl e,fun b u e=>.inl e,fun b u w e=>by rw[Zp (ZL e hp)]; exact e⟩
theorem MOk.gxO (M:MOk F H β om) (hp:H p=none) (g:Gr F F β (β++[p])):Gx F F H (upd H p o) β (β++[p]) :=
 ⟨g,(M.gxU (o:=o) hp).keep,(M.gxU (o:=o) hp).there,fun b e=>by
  rcases List.mem_append.mp e with e|e
  ·exact .inl e
  ·rw[List.mem_singleton.mp e]; exact .inr hp,fun b u e=>.inl e,(M.gxU (o:=o) hp).frz⟩
theorem nz {H:Hp} {a:Addr} {x:HO} (h:H a=some x) (hx:∀o u,x≠.frz o u:=by intro _ _ z; cases z):∀o u,H a≠some (.frz o u):=fun o u z=>hx o u (Option.some.inj (h.symm.trans z))
theorem MOk.gxP (M:MOk F H β om) {h:Nat} {a:Addr} (e:β[h]?=some a) (hz:∀u w,H a≠some (.frz u w)):Gx F F H (upd H a o) β β :=
 ⟨Gr.refl _ _,fun b u eb hb=>by
  have hba:b≠a:=fun z=>hb (by rw[z]; exact List.mem_of_getElem? e)
  rw[Zp hba]; exact eb,fun b eb=>by
  by_cases hb:b=a
  ·rw[hb,ZA]at eb; cases eb
  ·rw[Zp hb]at eb; exact eb,fun _ e=>.inl e,fun b u e=>.inl e,fun b u w eb=>by
  have hba:b≠a:=fun z=>hz u w (z ▸ eb)
  rw[Zp hba]; exact eb⟩
theorem MOk.newFx (M:MOk F H β om) (hp:H p=none):Gx F (upd F p o) H (upd H p o) β β∧MOk (upd F p o) (upd H p o) β om:=⟨M.gxF hp,(M.newF hp).2⟩
theorem MOk.newOx {x:Ob} (M:MOk F H β om) (hp:H p=none) (hx:∀β',Gr F F β β'->ObR F (upd H p o) β' p x):Gx F F H (upd H p o) β (β++[p])∧MOk F (upd H p o) (β++[p]) (om++[x])∧(β++[p])[om.length]?=some p :=
 let ⟨g,m,e⟩:=M.newO hp hx; ⟨M.gxO hp g,m,e⟩
end
abbrev Mw (α:Type):=List Ob->Option (Except Addr α × List Ob)
def ret {α:Type} (a:α):Mw α:=fun om=>some (.ok a,om)
def bnd {α γ:Type} (m:Mw α) (k:α->Mw γ):Mw γ:=fun om=>match m om with
 |none=>none
 |some (.ok a,om')=>k a om'
 |some (.error c,om')=>some (.error c,om')
def Y1 {α:Type}:Mw α:=fun _=>none
def Rt {α:Type} (c:Addr):Mw α:=fun om=>some (.error c,om)
def ZS {α:Type} (m:Mw α):Mw α:=fun om=>match m om with
 |some (.ok a,om')=>some (.ok a,om')
 |_=>none
def Res (E:XK) {α:Type} (r:Option (Except Addr α × List Ob)) (F H:Hp) (β:List Addr) (P:α->Hp->Hp->List Addr->Prop):Prop:=match r with
 |none=>False
 |some (.ok x,om')=>∀F' H' β',Gx F F' H H' β β'->MOk F' H' β' om'->P x F' H' β'
 |some (.error c,om')=>∀F' H' β',Gx F F' H H' β β'->MOk F' H' β' om'->E (.ref c) none H'
section
variable {E:XK} {α γ:Type} {F F1 H H1:Hp} {β β1:List Addr} {om:List Ob} {P:γ->Hp->Hp->List Addr->Prop} {P':α->Hp->Hp->List Addr->Prop}
theorem Res.mono {r:Option (Except Addr γ × List Ob)} (g:Gx F F1 H H1 β β1) (R:Res E r F H β P):Res E r F1 H1 β1 P:=by
 match r,R with
 |some (.ok x,om'),R=>exact fun F' H' β' g' M=>R F' H' β' (g.trans g') M
 |some (.error c,om'),R=>exact fun F' H' β' g' M=>R F' H' β' (g.trans g') M
theorem Res.bind {m:Mw α} {k:α->Mw γ} (R:Res E (bnd m k om) F H β P) (h:∀x om1 F1 H1 β1,Gx F F1 H H1 β β1->MOk F1 H1 β1 om1->Res E (k x om1) F1 H1 β1 P->P' x F1 H1 β1):Res E (m om) F H β P':=by
 unfold bnd at R
 match hm:m om,R with
 |some (.ok x,om'),R=>exact fun F' H' β' g M=>h x om' F' H' β' g M (Res.mono g R)
 |some (.error c,om'),R=>exact R
theorem Res.imp {r:Option (Except Addr γ × List Ob)} {P2:γ->Hp->Hp->List Addr->Prop} (R:Res E r F H β P) (h:∀x F' H' β',Gx F F' H H' β β'->P x F' H' β'->P2 x F' H' β'):Res E r F H β P2:=by
 match r,R with
 |some (.ok x,om'),R=>exact fun F' H' β' g' M=>h x F' H' β' g' (R F' H' β' g' M)
 |some (.error c,om'),R=>exact R
end
structure EnvOk (F:Hp) (β:List Addr) (σ:St) (sl:List (Option Wv)):Prop where
 len:sl.length=σ.length
 get:∀(i:Nat) (w:Wv),sl[i]?=some (some w)->∃v,σ[i]?=some (some v)∧RW F β w v
theorem EnvOk.mono {F F':Hp} {β β':List Addr} {σ:St} {sl:List (Option Wv)} (V:EnvOk F β σ sl) (g:Gr F F' β β'):EnvOk F' β' σ sl :=
 ⟨V.len,fun i w e=>let ⟨v,h,r⟩:=V.get i w e; ⟨v,h,r.mono g⟩⟩
theorem EnvOk.set {F:Hp} {β:List Addr} {σ:St} {sl:List (Option Wv)} {w:Wv} {v:V} (V:EnvOk F β σ sl) (i:Nat) (r:RW F β w v):EnvOk F β (σ.set i (some v)) (sl.set i (some w)):=by
 refine ⟨by simp[V.len],fun j u e=>?_⟩
 by_cases hj:j=i
 ·subst hj
  by_cases hl:j < sl.length
  ·rw[List.getElem?_set_self hl]at e
   cases e
   exact ⟨v,by rw[List.getElem?_set_self (by rw[← V.len]; exact hl)],r⟩
  ·rw[List.getElem?_eq_none (by simp; omega)]at e; cases e
 ·rw[List.getElem?_set_ne (Ne.symm hj)]at e ⊢
  exact V.get j u e
abbrev Sl:=List (Option Wv)
abbrev FE:=Sl->Mw Wv
abbrev FT:=Sl->Mw Bool
abbrev FA:=Sl->Mw (List Wv)
inductive Fl where
 |nx|bk|ct|rt (w:Wv)
abbrev FS:=Sl->Mw (Fl × Sl)
def tE (E:XK) (f:FE):TE:=fun σ H Q=>∃F β om sl,MOk F H β om∧EnvOk F β σ sl∧Res E (f sl om) F H β fun w F' H' β'=>∀v,RW F' β' w v->Q v H'
def tT (E:XK) (f:FT):TT:=fun σ H Q=>∃F β om sl,MOk F H β om∧EnvOk F β σ sl∧Res E (f sl om) F H β fun b F' H' β'=>Q b H'
def tA (E:XK) (f:FA):TA:=fun σ H Q=>∃F β om sl,MOk F H β om∧EnvOk F β σ sl∧Res E (f sl om) F H β fun ws F' H' β'=>∀vs,RWs F' β' ws vs->Q vs H'
def FlP (D:Ends) (x:Fl × Sl) (F' H':Hp) (β':List Addr):Prop:=match x.1 with
 |.nx=>∀σ',EnvOk F' β' σ' x.2->D.nx σ' H'
 |.bk=>∀σ',EnvOk F' β' σ' x.2->D.bk σ' H'
 |.ct=>∀σ',EnvOk F' β' σ' x.2->D.ct σ' H'
 |.rt w=>∀v,RW F' β' w v->D.rt v H'
def tS (E:XK) (f:FS):TS:=fun D σ H=>∃F β om sl,MOk F H β om∧EnvOk F β σ sl∧Res E (f sl om) F H β (FlP D)
end L2
namespace L2
open PySem PySem.Spec PyProof.Rows
def PV (Q:VK):Wv->Hp->Hp->List Addr->Prop:=fun w F' H' β'=>∀v,RW F' β' w v->Q v H'
theorem Res.now {E:XK} {α:Type} {x:α} {F H:Hp} {β:List Addr} {om:List Ob} {P:α->Hp->Hp->List Addr->Prop} (R:Res E (ret x om) F H β P) (M:MOk F H β om):P x F H β:=R F H β (Gx.refl _ _ _) M
theorem PE.weak {X:Cx} {e:Expr} {t t':TE} (h:PE X e t) (w:∀σ H Q,t' σ H Q->t σ H Q):PE X e t':=fun pins s σ H Q I q=>h pins s σ H Q I (w σ H Q q)
theorem PT.weak {X:Cx} {e:Expr} {t t':TT} (h:PT X e t) (w:∀σ H Q,t' σ H Q->t σ H Q):PT X e t':=fun pins s σ H Q I q=>h pins s σ H Q I (w σ H Q q)
theorem PW.weak {X:Cx} {e:Expr} {t t':TT} (h:PW X e t) (w:∀σ H Q,t' σ H Q->t σ H Q):PW X e t':=fun wh pins s σ H Q I q=>h wh pins s σ H Q I (w σ H Q q)
theorem PA.weak {X:Cx} {es:List Expr} {t t':TA} (h:PA X es t) (w:∀σ H Q,t' σ H Q->t σ H Q):PA X es t':=fun pos pins s σ H Q I q=>h pos pins s σ H Q I (w σ H Q q)
theorem PS.weak {X:Cx} {e:Stmt} {t t':TS} (h:PS X e t) (w:∀D σ H,t' D σ H->t D σ H):PS X e t':=fun pins s σ H Q I q=>h pins s σ H Q I (w Q σ H q)
theorem PSs.weak {X:Cx} {e:List Stmt} {t t':TS} (h:PSs X e t) (w:∀D σ H,t' D σ H->t D σ H):PSs X e t':=fun pins s σ H Q I q=>h pins s σ H Q I (w Q σ H q)
def Za (i:Nat):FE:=fun sl=>match sl[i]? with
 |some (some w)=>ret w
 |_=>Y1
def fC (w:Wv):FE:=fun _=>ret w
section
variable {X:Cx} {E:XK} {e a b:Expr} {es:List Expr} {fa fb:FE} {pos:Pos}
theorem qe_of_var {i:Nat} (h:PE X e (tVar i)):PE X e (tE E (Za i)):=h.weak fun σ H Q ⟨F,β,om,sl,M,V,R⟩=>by
 unfold Za at R
 match hw:sl[i]?,R with
 |some (some w),R =>
  obtain ⟨v,e1,r⟩:=V.get i w hw
  exact ⟨v,e1,R.now M v r⟩
 |some none,R=>exact R.elim
 |none,R=>exact R.elim
theorem qe_c {v:V} {w:Wv} (h:PE X e (tC v)) (r:∀F β,RW F β w v):PE X e (tE E (fC w)):=h.weak fun σ H Q ⟨F,β,om,sl,M,V,R⟩=>R.now M v (r F β)
theorem Zo {i j pos}:PE X (.Constant (.int i) j pos) (tE E (fC (.int i))):=qe_c pe_int fun _ _=>.int i
theorem RS {i j pos}:PE X (.Constant (.bool i) j pos) (tE E (fC (.bl i))):=qe_c pe_bl fun _ _=>.bl i
theorem qe_non {j pos}:PE X (.Constant .none j pos) (tE E (fC .non)):=qe_c pe_non fun _ _=>.non
theorem Us {i j pos}:PE X (.Constant (.str i) j pos) (tE E (fC (.str i))):=qe_c pe_str fun _ _=>.str i
theorem Zf (i : Nat) {x : Str} {pos : Pos} (hN : X.N[i]? = some x := by rfl) (hv : Vis X.env.scope x := by first | exact Or.inl rfl | exact Or.inr (Or.inl rfl) | exact Or.inr (Or.inr rfl)) (hd : (x == ("__debug__" : Str)) = false := by decide) (hcd : (x == ("__classdict__" : Str)) = false := by decide) :
    PE X (.Name x pos) (tE E (Za i)):=qe_of_var (pe_var hN hv hd hcd)
def f1 (k:Wv->Mw Wv) (fa:FE):FE:=fun sl=>bnd (fa sl) k
def f2 (k:Wv->Wv->Mw Wv) (fa fb:FE):FE:=fun sl=>bnd (fa sl) fun x=>bnd (fb sl) fun y=>k x y
def Op2 (E:XK) (r:R2) (k:Wv->Wv->Mw Wv):Prop:=∀{F H:Hp} {β:List Addr} {om:List Ob} {x y:Wv} {v u:V} {Q:VK},MOk F H β om->RW F β x v->RW F β y u->Res E (k x y om) F H β (PV Q)->r v u H Q
def Op1 (E:XK) (r:V->Hp->VK->Prop) (k:Wv->Mw Wv):Prop:=∀{F H:Hp} {β:List Addr} {om:List Ob} {x:Wv} {v:V} {Q:VK},MOk F H β om->RW F β x v->Res E (k x om) F H β (PV Q)->r v H Q
theorem tE_2 {r:R2} {k:Wv->Wv->Mw Wv} (hk:Op2 E r k) {σ:St} {H:Hp} {Q:VK} (h:tE E (f2 k fa fb) σ H Q):tOp r (tE E fa) (tE E fb) σ H Q:=by
 obtain ⟨F,β,om,sl,M,V,R⟩:=h
 refine ⟨F,β,om,sl,M,V,R.bind fun x om1 F1 H1 β1 g1 M1 R1 v rv=>?_⟩
 refine ⟨F1,β1,om1,sl,M1,V.mono g1.toGr,R1.bind fun y om2 F2 H2 β2 g2 M2 R2 u ru=>?_⟩
 exact hk M2 (rv.mono g2.toGr) ru R2
theorem tE_1 {r:V->Hp->VK->Prop} {k:Wv->Mw Wv} (hk:Op1 E r k) {σ:St} {H:Hp} {Q:VK} (h:tE E (f1 k fa) σ H Q):tE E fa σ H fun x H1=>r x H1 Q:=by
 obtain ⟨F,β,om,sl,M,V,R⟩:=h
 exact ⟨F,β,om,sl,M,V,R.bind fun x om1 F1 H1 β1 g1 M1 R1 v rv=>hk M1 rv R1⟩
theorem Pa {op:Operator} {r:R2} {k:Wv->Wv->Mw Wv} (ho:OpR X (binaryOp op) r) (hk:Op2 E r k) (ha:PE X a (tE E fa)) (hb:PE X b (tE E fb)):PE X (.BinOp a op b pos) (tE E (f2 k fa fb)):=(pe_op ho ha hb).weak fun _ _ _ h=>tE_2 hk h
theorem Qs {op:CmpOp} {r:R2} {k:Wv->Wv->Mw Wv} (ho:OpR X (compareOp op) r) (hk:Op2 E r k) (ha:PE X a (tE E fa)) (hb:PE X b (tE E fb)) (hm:behindInMarks op b=false):PE X (.Compare a [op] [b] pos) (tE E (f2 k fa fb)):=(pe_cmpR ho ha hb hm).weak fun _ _ _ h=>tE_2 hk h
def kI (g:Int->Int->Wv):Wv->Wv->Mw Wv
 |.int i,.int j=>ret (g i j)
 |_,_=>Y1
def kIc (c:Int->Int->Bool) (g:Int->Int->Wv):Wv->Wv->Mw Wv
 |.int i,.int j=>if c i j=true then ret (g i j) else Y1
 |_,_=>Y1
theorem Vr {g:Int->Int->V} {g':Int->Int->Wv} (hg:∀F β i j,RW F β (g' i j) (g i j)):Op2 E (rI0 g) (kI g'):=by
 intro F H β om x y v u Q M rx ry R
 cases rx <;> first|exact R.elim|skip
 cases ry <;> first|exact R.elim|skip
 exact ⟨_,_,rfl,rfl,R.now M _ (hg ..)⟩
theorem op2_Ic {C:Int->Int->Prop} {c:Int->Int->Bool} {g:Int->Int->V} {g':Int->Int->Wv} (hc:∀i j,c i j=true->C i j) (hg:∀F β i j,RW F β (g' i j) (g i j)):Op2 E (rI C g) (kIc c g'):=by
 intro F H β om x y v u Q M rx ry R
 cases rx <;> first|exact R.elim|skip
 cases ry <;> first|exact R.elim|skip
 rename_i i j
 have R:Res E ((if c i j=true then ret (g' i j) else Y1) om) F H β (PV Q):=R
 by_cases h:c i j=true
 ·rw[if_pos h]at R
  exact ⟨_,_,rfl,rfl,hc _ _ h,R.now M _ (hg ..)⟩
 ·rw[if_neg h]at R
  exact R.elim
abbrev YB:=kI fun i j=>.int (i+j)
abbrev T9:=kI fun i j=>.int (i - j)
abbrev kMul:=kIc (fun i j=>decide (-(2 ^ 64) < i∧i < 2 ^ 64∨-(2 ^ 64) < j∧j < 2 ^ 64)) fun i j=>.int (i * j)
abbrev kDiv:=kIc (fun _ j=>decide (0 < j∧j < 1073741824)) fun i j=>.int (i / j)
abbrev Vf:=kIc (fun _ j=>decide (0 < j)) fun i j=>.int (i % j)
abbrev kLt:=kI fun i j=>.bl (decide (i < j))
abbrev kGt:=kI fun i j=>.bl (decide (j < i))
abbrev kGe:=kI fun i j=>.bl (decide (j<=i))
theorem YE (ha:PE X a (tE E fa)) (hb:PE X b (tE E fb)):PE X (.BinOp a .Add b pos) (tE E (f2 YB fa fb)):=Pa op_add (Vr fun _ _ _ _=>.int _) ha hb
theorem qe_sub (ha:PE X a (tE E fa)) (hb:PE X b (tE E fb)):PE X (.BinOp a .Sub b pos) (tE E (f2 T9 fa fb)):=Pa op_sub (Vr fun _ _ _ _=>.int _) ha hb
theorem qe_mul (ha:PE X a (tE E fa)) (hb:PE X b (tE E fb)):PE X (.BinOp a .Mult b pos) (tE E (f2 kMul fa fb)):=Pa op_mul (op2_Ic (fun i j h=>of_decide_eq_true h) fun _ _ _ _=>.int _) ha hb
theorem qe_div (ha:PE X a (tE E fa)) (hb:PE X b (tE E fb)):PE X (.BinOp a .FloorDiv b pos) (tE E (f2 kDiv fa fb)):=Pa op_fdiv (op2_Ic (fun i j h=>of_decide_eq_true h) fun _ _ _ _=>.int _) ha hb
theorem Uh (ha:PE X a (tE E fa)) (hb:PE X b (tE E fb)):PE X (.BinOp a .Mod b pos) (tE E (f2 Vf fa fb)):=Pa op_mod (op2_Ic (fun i j h=>of_decide_eq_true h) fun _ _ _ _=>.int _) ha hb
theorem qe_gt (ha:PE X a (tE E fa)) (hb:PE X b (tE E fb)):PE X (.Compare a [.Gt] [b] pos) (tE E (f2 kGt fa fb)):=Qs op_gt (Vr fun _ _ _ _=>.bl _) ha hb (Wp _)
theorem qe_ge (ha:PE X a (tE E fa)) (hb:PE X b (tE E fb)):PE X (.Compare a [.GtE] [b] pos) (tE E (f2 kGe fa fb)):=Qs op_ge (Vr fun _ _ _ _=>.bl _) ha hb (Wp _)
end
mutual
def X8 (om:List Ob):Wv->Option PyData
 |.non=>some .none
 |.bl b=>some (.bool b)
 |.int i=>some (.int i)
 |.str x=>some (.str x)
 |.lst ws=>(Xl om ws).map .list
 |.tup ws=>(Xl om ws).map .tuple
 |.o _=>none
 |.g _=>none
def Xl (om:List Ob):List Wv->Option (List PyData)
 |[]=>some []
 |w::r=>match X8 om w,Xl om r with
  |some d,some ds=>some (d::ds)
  |_,_=>none
end
def YT (om:List Ob):Wv->Option PyData
 |.o h=>match om[h]? with
  |some (.lst ws)=>(Xl om ws).map .list
  |_=>none
 |w=>X8 om w
section
variable {X:Cx} {pins:List (Addr × Obj)} {σ:St} {F H:Hp} {s:Shared} {β:List Addr} {om:List Ob}
mutual
theorem RW.reads (I:Inv X pins σ H s) (sub:Same F H):∀{w:Wv} {v:V} {d:PyData} {u:Value},RW F β w v->X8 om w=some d->RelV v u->∃as,Reads s.heap u d as
 |_,_,_,_,.non,e,r=>by unfold X8 at e; cases e; cases r; exact ⟨_,.none⟩
 |_,_,_,_,.bl b,e,r=>by unfold X8 at e; cases e; cases r; exact ⟨_,.bool b⟩
 |_,_,_,_,.int i,e,r=>by unfold X8 at e; cases e; obtain ⟨t,rfl⟩:=r; exact ⟨_,.int i t⟩
 |_,_,_,_,.str x,e,r=>by unfold X8 at e; cases e; obtain ⟨t,rfl⟩:=r; exact ⟨_,.str x t⟩
 |_,_,_,_,.lst (a:=a) (ws:=ws) q rs,e,r=>by
  unfold X8 at e
  cases r
  match hp:Xl om ws,e with
  |some ds,e =>
   cases e
   obtain ⟨_,its,n,rv,eo⟩:=(Rd.same sub q).ok I.hok
   obtain ⟨as,ra⟩:=RWs.reads I sub rs hp rv
   exact ⟨_,.list eo rfl rfl (by simpa using ra)⟩
 |_,_,_,_,.tup (a:=a) (ws:=ws) q rs,e,r=>by
  unfold X8 at e
  cases r
  match hp:Xl om ws,e with
  |some ds,e =>
   cases e
   obtain ⟨_,its,rv,o,eo,ec,n,ed⟩:=I.hok a _ (sub _ _ q)
   obtain ⟨as,ra⟩:=RWs.reads I sub rs hp rv
   exact ⟨_,.tuple eo ec ed (by simpa using ra)⟩
 |_,_,_,_,.o _,e,r=>by unfold X8 at e; cases e
 |_,_,_,_,.g _,e,r=>by unfold X8 at e; cases e
theorem RWs.reads (I:Inv X pins σ H s) (sub:Same F H):∀{ws:List Wv} {vs:List V} {ds:List PyData} {us:List Value},RWs F β ws vs->Xl om ws=some ds->Vals vs us->∃as,ReadsAll s.heap us ds as
 |_,_,_,_,.nil,e,r=>by unfold Xl at e; cases e; cases r; exact ⟨_,.nil⟩
 |_,_,_,_,.cons (w:=w) (ws:=ws) h q,e,r=>by
  unfold Xl at e
  cases r with
  |cons r1 r2 =>
   match h1:X8 om w,h2:Xl om ws,e with
   |some d,some ds,e =>
    cases e
    obtain ⟨as,ra⟩:=RW.reads I sub h h1 r1
    obtain ⟨bs,rb⟩:=RWs.reads I sub q h2 r2
    exact ⟨_,.cons ra rb⟩
end
theorem RW.readsTop (I:Inv X pins σ H s) (M:MOk F H β om) {w:Wv} {v:V} {d:PyData} {u:Value} (rw':RW F β w v) (e:YT om w=some d) (r:RelV v u):∃as,Reads s.heap u d as:=by
 match w,e with
 |.non,e=>exact rw'.reads (om:=om) I M.sub e r
 |.bl _,e=>exact rw'.reads (om:=om) I M.sub e r
 |.int _,e=>exact rw'.reads (om:=om) I M.sub e r
 |.str _,e=>exact rw'.reads (om:=om) I M.sub e r
 |.lst _,e=>exact rw'.reads (om:=om) I M.sub e r
 |.tup _,e=>exact rw'.reads (om:=om) I M.sub e r
 |.g _,e=>exact rw'.reads (om:=om) I M.sub e r
 |.o h,e =>
  unfold YT at e
  dsimp only at e
  split at e
  ·rename_i ws hw
   cases rw' with
   |o eb =>
    obtain ⟨a,ea,_,xs,hx,rs⟩:=M.at hw
    rw[eb]at ea; cases ea
    cases r
    match hp:Xl om ws,e with
    |some ds,e =>
     cases e
     obtain ⟨_,its,n,rv,eo⟩:=I.hok _ _ hx
     obtain ⟨as,ra⟩:=RWs.reads I M.sub rs hp rv
     exact ⟨_,.list eo rfl rfl (by simpa using ra)⟩
  ·cases e
end
def Ww (d:PyData):Bool:=d.canLay0&&decide (d.depth<=60)
def XS (neg:Bool) (x y:Wv):Mw Wv:=fun om=>match YT om x,YT om y with
 |some d,some e=>if (Ww d&&Ww e)=true then some (.ok (.bl (if neg then !PyData.eqv d e else PyData.eqv d e)),om) else none
 |_,_=>none
abbrev kEq:=XS false
abbrev kNe:=XS true
def rEqS (E:XK) (neg:Bool):R2:=fun v u H Q=>∃F β om x y,MOk F H β om∧RW F β x v∧RW F β y u∧Res E (XS neg x y om) F H β (PV Q)
section
variable {X:Cx} {E:XK} {a b:Expr} {fa fb:FE} {pos:Pos}
theorem op_eqS (hu:X.A.units+64 < cLine):OpR X (compareOp .Eq) (rEqS E false):=by
 intro pins s σ H v u v' u' Q I rv ru h
 obtain ⟨F,β,om,x,y,M,rx,ry,R⟩:=h
 unfold XS at R
 match h1:YT om x,h2:YT om y,R with
 |some d,some e,R =>
  dsimp only at R
  by_cases hl:(Ww d&&Ww e)=true
  ·rw[if_pos hl]at R
   obtain ⟨l1,l2⟩:=Bool.and_eq_true_iff.mp hl
   obtain ⟨c1,d1⟩:=Bool.and_eq_true_iff.mp l1
   obtain ⟨c2,d2⟩:=Bool.and_eq_true_iff.mp l2
   obtain ⟨as,ra⟩:=rx.readsTop I M h1 rv
   obtain ⟨bs,rb⟩:=ry.readsTop I M h2 ru
   have:=of_decide_eq_true d1
   have:=of_decide_eq_true d2
   exact SeqAt.rcAt_reads ra rb c1 c2 (by omega) _ _ _ _ ⟨.bl _,H,I,rfl,R F H β (Gx.refl _ _ _) M _ (.bl _)⟩
  ·rw[if_neg hl]at R; exact R.elim
theorem op_neS (hu:X.A.units+64 < cLine):OpR X (compareOp .NotEq) (rEqS E true):=by
 intro pins s σ H v u v' u' Q I rv ru h
 obtain ⟨F,β,om,x,y,M,rx,ry,R⟩:=h
 unfold XS at R
 match h1:YT om x,h2:YT om y,R with
 |some d,some e,R =>
  dsimp only at R
  by_cases hl:(Ww d&&Ww e)=true
  ·rw[if_pos hl]at R
   obtain ⟨l1,l2⟩:=Bool.and_eq_true_iff.mp hl
   obtain ⟨c1,d1⟩:=Bool.and_eq_true_iff.mp l1
   obtain ⟨c2,d2⟩:=Bool.and_eq_true_iff.mp l2
   obtain ⟨as,ra⟩:=rx.readsTop I M h1 rv
   obtain ⟨bs,rb⟩:=ry.readsTop I M h2 ru
   have:=of_decide_eq_true d1
   have:=of_decide_eq_true d2
   exact SeqAt.compareNe_reads ra rb c1 c2 (by omega) ⟨.bl _,H,I,rfl,R F H β (Gx.refl _ _ _) M _ (.bl _)⟩
  ·rw[if_neg hl]at R; exact R.elim
theorem UP (hu:X.A.units+64 < cLine) (ha:PE X a (tE E fa)) (hb:PE X b (tE E fb)):PE X (.Compare a [.Eq] [b] pos) (tE E (f2 kEq fa fb)):=Qs (op_eqS (E:=E) hu) (fun M rx ry R=>⟨_,_,_,_,_,M,rx,ry,R⟩) ha hb (Wp _)
theorem qe_ne (hu:X.A.units+64 < cLine) (ha:PE X a (tE E fa)) (hb:PE X b (tE E fb)):PE X (.Compare a [.NotEq] [b] pos) (tE E (f2 kNe fa fb)):=Qs (op_neS (E:=E) hu) (fun M rx ry R=>⟨_,_,_,_,_,M,rx,ry,R⟩) ha hb (Wp _)
end
end L2
namespace L2
noncomputable section
open PySem PySem.Spec PyProof.Rows
def kB:Wv->Mw Bool
 |.bl b=>ret b
 |_=>Y1
def fB (f:FE):FT:=fun sl=>bnd (f sl) kB
def Vs (f g:FT):FT:=fun sl=>bnd (f sl) fun b=>if b=true then g sl else ret false
def fOr (f g:FT):FT:=fun sl=>bnd (f sl) fun b=>if b=true then ret true else g sl
def Se (f:FT):FT:=fun sl=>bnd (f sl) fun b=>ret (!b)
def Y3 (f g:FE):FE:=fun sl=>bnd (f sl) fun x=>bnd (kB x) fun b=>if b=true then g sl else ret (.bl false)
def fOrV (f g:FE):FE:=fun sl=>bnd (f sl) fun x=>bnd (kB x) fun b=>if b=true then ret (.bl true) else g sl
def fIfE (c:FT) (f g:FE):FE:=fun sl=>bnd (c sl) fun b=>if b=true then f sl else g sl
def isNon:Wv->Bool
 |.non=>true
 |_=>false
def WE (x:Wv):Mw Wv:=ret (.bl (isNon x))
def WA (x:Wv):Mw Wv:=ret (.bl (!isNon x))
def Sj (x:Wv):Mw Wv:=bnd (kB x) fun b=>ret (.bl (!b))
def Qq (k k':Wv->Wv->Mw Wv) (fa fb fc:FE):FE:=fun sl=>bnd (fa sl) fun x=>bnd (fb sl) fun y=>bnd (k x y) fun z=>bnd (kB z) fun b=>if b=true then bnd (fc sl) fun w=>k' y w else ret (.bl false)
theorem RW.isNon {F:Hp} {β:List Addr} {w:Wv} {v:V} (r:RW F β w v):decide (v=.non)=L2.isNon w:=by
 cases r <;> first|rfl|(refine decide_eq_false ?_; intro z; cases z)
section
variable {X:Cx} {E:XK} {e a b c:Expr} {rest:List Expr} {f fa fb fc:FE} {g ga gb:FT} {pos:Pos}
theorem Res.kB {P:Bool->Hp->Hp->List Addr->Prop} {x:Wv} {v:V} {F H:Hp} {β:List Addr} {om:List Ob} (rv:RW F β x v) (M:MOk F H β om) (R:Res E (L2.kB x om) F H β P):∃b,x=.bl b∧v=.bl b∧P b F H β:=by
 cases rv <;> first|exact R.elim|skip
 exact ⟨_,rfl,rfl,R.now M⟩
theorem tT_B {σ:St} {H:Hp} {Q:Bool->Hp->Prop} (h:tT E (fB f) σ H Q):tE E f σ H fun x H'=>∃c,x=.bl c∧Q c H':=by
 obtain ⟨F,β,om,sl,M,V,R⟩:=h
 refine ⟨F,β,om,sl,M,V,R.bind fun x om1 F1 H1 β1 g1 M1 R1 v rv=>?_⟩
 obtain ⟨b,rfl,rfl,q⟩:=R1.kB rv M1
 exact ⟨b,rfl,q⟩
theorem VF {op:CmpOp} {r:R2} {k:Wv->Wv->Mw Wv} (ho:OpR X (compareOp op) r) (hk:Op2 E r k) (ha:PE X a (tE E fa)) (hb:PE X b (tE E fb)) (hm:behindInMarks op b=false):PT X (.Compare a [op] [b] pos) (tT E (fB (f2 k fa fb))) :=
 (pt_cmpR ho ha hb hm).weak fun _ _ _ h=>tE_2 hk (tT_B h)
theorem qt_lt (ha:PE X a (tE E fa)) (hb:PE X b (tE E fb)):PT X (.Compare a [.Lt] [b] pos) (tT E (fB (f2 kLt fa fb))):=VF op_lt (Vr fun _ _ _ _=>.bl _) ha hb (Wp _)
theorem qt_gt (ha:PE X a (tE E fa)) (hb:PE X b (tE E fb)):PT X (.Compare a [.Gt] [b] pos) (tT E (fB (f2 kGt fa fb))):=VF op_gt (Vr fun _ _ _ _=>.bl _) ha hb (Wp _)
theorem qt_ge (ha:PE X a (tE E fa)) (hb:PE X b (tE E fb)):PT X (.Compare a [.GtE] [b] pos) (tT E (fB (f2 kGe fa fb))):=VF op_ge (Vr fun _ _ _ _=>.bl _) ha hb (Wp _)
theorem WO (hu:X.A.units+64 < cLine) (ha:PE X a (tE E fa)) (hb:PE X b (tE E fb)):PT X (.Compare a [.Eq] [b] pos) (tT E (fB (f2 kEq fa fb))):=VF (op_eqS (E:=E) hu) (fun M rx ry R=>⟨_,_,_,_,_,M,rx,ry,R⟩) ha hb (Wp _)
theorem Vn (hu:X.A.units+64 < cLine) (ha:PE X a (tE E fa)) (hb:PE X b (tE E fb)):PT X (.Compare a [.NotEq] [b] pos) (tT E (fB (f2 kNe fa fb))):=VF (op_neS (E:=E) hu) (fun M rx ry R=>⟨_,_,_,_,_,M,rx,ry,R⟩) ha hb (Wp _)
theorem op1_isN:Op1 E (fun x H1 Q=>Q (.bl (decide (x=.non))) H1) WE:=fun M rx R=>by show (_:VK) (.bl (decide _)) _; rw[rx.isNon]; exact R.now M _ (.bl _)
theorem op1_notN:Op1 E (fun x H1 Q=>Q (.bl (!decide (x=.non))) H1) WA:=fun M rx R=>by show (_:VK) (.bl (!decide _)) _; rw[rx.isNon]; exact R.now M _ (.bl _)
theorem qe_isN {j pos'} (ha:PE X a (tE E fa)):PE X (.Compare a [.Is] [.Constant .none j pos'] pos) (tE E (f1 WE fa)):=(pe_cmp (pc_isN ha)).weak fun _ _ _ h=>tE_1 op1_isN h
theorem Qn {j pos'} (ha:PE X a (tE E fa)):PT X (.Compare a [.Is] [.Constant .none j pos'] pos) (tT E (fB (f1 WE fa))):=(pt_cmp (pc_isN ha)).weak fun _ _ _ h=>tE_1 op1_isN (tT_B h)
theorem qt_notN {j pos'} (ha:PE X a (tE E fa)):PT X (.Compare a [.IsNot] [.Constant .none j pos'] pos) (tT E (fB (f1 WA fa))):=(pt_cmp (pc_notN ha)).weak fun _ _ _ h=>tE_1 op1_notN (tT_B h)
theorem tT_and {σ:St} {H:Hp} {Q:Bool->Hp->Prop} (h:tT E (Vs ga gb) σ H Q):tAnd (tT E ga) (tT E gb) σ H Q:=by
 obtain ⟨F,β,om,sl,M,V,R⟩:=h
 refine ⟨F,β,om,sl,M,V,R.bind fun x om1 F1 H1 β1 g1 M1 R1=>?_⟩
 cases x with
 |true=>rw[if_pos rfl]at R1 ⊢; exact ⟨F1,β1,om1,sl,M1,V.mono g1.toGr,R1⟩
 |false=>rw[if_neg Bool.false_ne_true]at R1 ⊢; exact R1.now M1
theorem tT_or {σ:St} {H:Hp} {Q:Bool->Hp->Prop} (h:tT E (fOr ga gb) σ H Q):tOr (tT E ga) (tT E gb) σ H Q:=by
 obtain ⟨F,β,om,sl,M,V,R⟩:=h
 refine ⟨F,β,om,sl,M,V,R.bind fun x om1 F1 H1 β1 g1 M1 R1=>?_⟩
 cases x with
 |true=>rw[if_pos rfl]at R1 ⊢; exact R1.now M1
 |false=>rw[if_neg Bool.false_ne_true]at R1 ⊢; exact ⟨F1,β1,om1,sl,M1,V.mono g1.toGr,R1⟩
theorem R6 (ha:PT X a (tT E ga)):PW X (.BoolOp .And [a] pos) (tT E ga):=pw_and1 ha
theorem Qt (ha:PT X a (tT E ga)):PW X (.BoolOp .Or [a] pos) (tT E ga):=pw_or1 ha
theorem qw_and (ha:PT X a (tT E ga)) (hb:PW X (.BoolOp .And (b::rest) pos) (tT E gb)):PW X (.BoolOp .And (a::b::rest) pos) (tT E (Vs ga gb)):=(pw_and ha hb).weak fun _ _ _ h=>tT_and h
theorem qw_or (ha:PT X a (tT E ga)) (hb:PW X (.BoolOp .Or (b::rest) pos) (tT E gb)):PW X (.BoolOp .Or (a::b::rest) pos) (tT E (fOr ga gb)):=(pw_or ha hb).weak fun _ _ _ h=>tT_or h
theorem qt_not (ha:PT X a (tT E ga)):PT X (.UnaryOp .Not a pos) (tT E (Se ga)):=(pt_not ha).weak fun σ H Q ⟨F,β,om,sl,M,V,R⟩=>⟨F,β,om,sl,M,V,R.bind fun x om1 F1 H1 β1 g1 M1 R1=>R1.now M1⟩
theorem Uu {op} (h:PE X a (tE E f)):PE X (.BoolOp op [a] pos) (tE E f):=pe_one h
theorem WJ (ha:PE X a (tE E fa)) (hb:PE X (.BoolOp .And (b::rest) pos) (tE E fb)):PE X (.BoolOp .And (a::b::rest) pos) (tE E (Y3 fa fb)):=(pe_and ha hb).weak fun σ H Q ⟨F,β,om,sl,M,V,R⟩=>by
 refine ⟨F,β,om,sl,M,V,R.bind fun x om1 F1 H1 β1 g1 M1 R1 v rv=>?_⟩
 have R2:Res E (L2.kB x om1) F1 H1 β1 fun y F' H' β'=>(if y=true then tE E fb σ H' Q else Q (.bl false) H'):=R1.bind fun y om2 F2 H2 β2 g2 M2 R2=>by
  cases y with
  |true=>rw[if_pos rfl]at R2 ⊢; exact ⟨F2,β2,om2,sl,M2,V.mono (g1.trans g2).toGr,R2⟩
  |false=>rw[if_neg Bool.false_ne_true]at R2 ⊢; exact R2.now M2 _ (.bl _)
 obtain ⟨c,rfl,rfl,q⟩:=R2.kB rv M1
 exact ⟨c,rfl,q⟩
theorem qe_not (ha:PE X a (tE E fa)):PE X (.UnaryOp .Not a pos) (tE E (f1 Sj fa)):=(pe_not ha).weak fun σ H Q ⟨F,β,om,sl,M,V,R⟩=>by
 refine ⟨F,β,om,sl,M,V,R.bind fun x om1 F1 H1 β1 g1 M1 R1 v rv=>?_⟩
 have R2:Res E (L2.kB x om1) F1 H1 β1 fun y F' H' β'=>Q (.bl (!y)) H':=R1.bind fun y om2 F2 H2 β2 g2 M2 R2=>R2.now M2 _ (.bl _)
 obtain ⟨c,rfl,rfl,q⟩:=R2.kB rv M1
 exact ⟨c,rfl,q⟩
theorem qe_ifE (hc:PT X c (tT E ga)) (ha:PE X a (tE E fa)) (hb:PE X b (tE E fb)):PE X (.IfExp c a b pos) (tE E (fIfE ga fa fb)):=(pe_ifExp hc ha hb).weak fun σ H Q ⟨F,β,om,sl,M,V,R⟩=>by
 refine ⟨F,β,om,sl,M,V,R.bind fun y om2 F2 H2 β2 g2 M2 R2=>?_⟩
 cases y with
 |false=>rw[if_neg Bool.false_ne_true]at R2 ⊢; exact ⟨F2,β2,om2,sl,M2,V.mono g2.toGr,R2⟩
 |true=>rw[if_pos rfl]at R2 ⊢; exact ⟨F2,β2,om2,sl,M2,V.mono g2.toGr,R2⟩
end
def YU (om:List Ob):Wv->Option (List Wv)
 |.lst ws=>some ws
 |.tup ws=>some ws
 |.o h=>match om[h]? with
  |some (.lst ws)=>some ws
  |_=>none
 |_=>none
noncomputable def limS:{ n:Nat // n=100000 }:=Classical.choice ⟨⟨100000,rfl⟩⟩
noncomputable def lim:Nat:=limS.1
theorem Z1:lim=100000:=limS.2
theorem Uf:lim < sizeLine:=by rw[Z1]; decide
theorem Uw {X : Cx} {F H : Hp} {β : List Addr} {om : List Ob} {w : Wv} {v : V} {ws : List Wv} (M : MOk F H β om) (r : RW F β w v) (e : YU om w = some ws) :
    ∃a xs,v=.ref a∧(SqL X.K H a xs∨SqT X.K H a xs)∧RWs F β ws xs:=by
  cases r with
  |lst q rs=>unfold YU at e; cases e; exact ⟨_,_,rfl,.inl (.inl (Rd.same M.sub q)),rs⟩
  |tup q rs=>unfold YU at e; cases e; exact ⟨_,_,rfl,.inr (SqT.of (M.sub _ _ q)),rs⟩
  |o eb =>
    rename_i h a
    have e:(match om[h]? with|some (.lst ws)=>some ws|_=>none)=some ws:=e
    match hx:om[h]?,e with
    |none,e=>exact nomatch e
    |some (.ins _ _),e=>exact nomatch e
    |some (.exc _),e=>exact nomatch e
    |some (.dz _),e=>exact nomatch e
    |some (.dk _),e=>exact nomatch e
    |some (.dt _),e=>exact nomatch e
    |some (.lst us),e =>
      have e:some us=some ws:=e
      cases e
      obtain ⟨a',ea,_,xs,hxs,rs⟩:=M.at hx
      rw[eb]at ea; cases ea
      exact ⟨_,_,rfl,.inl (SqL.of hxs),rs⟩
  |_=>unfold YU at e; cases e
theorem RWs.atI {F:Hp} {β:List Addr} {ws:List Wv} {vs:List V} {i:Int} {w:Wv} (r:RWs F β ws vs) (e:L2.atI ws i=some w):∃v,L2.atI vs i=some v∧RW F β w v:=by
 unfold L2.atI at e ⊢
 rw[← r.length]
 match hx:ixN ws.length i,e with
 |some j,e=>exact r.get e
def kIx (x i:Wv):Mw Wv:=fun om=>match YU om x,i with
 |some ws,.int k=>match atI ws k with
  |some w=>some (.ok w,om)
  |none=>none
 |_,_=>none
section
variable {X:Cx} {E:XK} {e a b c:Expr} {es:List Expr} {f fa fb fc:FE} {fs:FA} {pos:Pos}
theorem op2_ix:Op2 E (rIx X.K) kIx:=by
 intro F H β om x y v u Q M rx ry R
 unfold kIx at R
 match hx:YU om x,y,ry,R with
 |none,_,_,R=>exact R.elim
 |some ws,.int i,.int _,R =>
  have R:Res E (match L2.atI ws i with|some w=>some (Except.ok w,om)|none=>none) F H β (PV Q):=R
  match ha:L2.atI ws i,R with
  |none,R=>exact R.elim
  |some w,R =>
   have R:Res E (ret w om) F H β (PV Q):=R
   obtain ⟨p,xs,rfl,hs,rs⟩:=Uw (X:=X) M rx hx
   obtain ⟨z,ez,rz⟩:=rs.atI ha
   have q:=R.now M z rz
   rcases hs with hs|hs
   ·exact .inl ⟨p,xs,i,z,rfl,rfl,hs,ez,q⟩
   ·exact .inr (.inl ⟨p,xs,i,z,rfl,rfl,hs,ez,q⟩)
theorem TF (ha:PE X a (tE E fa)) (hb:PE X b (tE E fb)) (hs:Qh b:=by intro _ _; rfl):PE X (.Subscript a b pos) (tE E (f2 kIx fa fb)):=(pe_ix ix_seq ha hb hs).weak fun _ _ _ h=>tE_2 op2_ix h
def Zi:FA:=fun _=>ret []
def Zc (f:FE) (r:FA):FA:=fun sl=>bnd (f sl) fun x=>bnd (r sl) fun xs=>ret (x::xs)
theorem Zl:PA X [] (tA E Zi):=UH.weak fun σ H Q ⟨F,β,om,sl,M,V,R⟩=>R.now M _ .nil
theorem Zd (ha:PE X e (tE E f)) (hr:PA X es (tA E fs)) (hs:starEach (e::es) X.env=(false,eval e X.env)::starEach es X.env:=by rfl):PA X (e::es) (tA E (Zc f fs)):=(Wn ha hr hs).weak fun σ H Q ⟨F,β,om,sl,M,V,R⟩=>by
 refine ⟨F,β,om,sl,M,V,R.bind fun x om1 F1 H1 β1 g1 M1 R1 v rv=>?_⟩
 exact ⟨F1,β1,om1,sl,M1,V.mono g1.toGr,R1.bind fun xs om2 F2 H2 β2 g2 M2 R2 vs rvs=>R2.now M2 _ (.cons (rv.mono g2.toGr) rvs)⟩
def Wz (ws:List Wv):Mw Wv:=if ws.length<=lim then ret (.tup ws) else Y1
def ZT (ws:List Wv):Mw Wv:=if ws.length<=lim then ret (.lst ws) else Y1
def newO (x:Ob):Mw Wv:=fun om=>some (.ok (.o om.length),om++[x])
def WD (ws:List Wv):Mw Wv:=if ws.length<=lim then newO (.lst ws) else Y1
def fA (k:List Wv->Mw Wv) (fs:FA):FE:=fun sl=>bnd (fs sl) k
theorem Res.lay {c:Prop} [Decidable c] {m:Mw Wv} {om:List Ob} {F:Hp} {β:List Addr} {P:Wv->Hp->Hp->List Addr->Prop} (R:Res E ((if c then m else Y1) om) F H β P):c∧Res E (m om) F H β P:=by
 by_cases h:c
 ·rw[if_pos h]at R; exact ⟨h,R⟩
 ·rw[if_neg h]at R; exact R.elim
theorem Res.newO {x:Ob} {om:List Ob} {F H:Hp} {β:List Addr} {Q:VK} {p:Addr} {o:HO} (R:Res E (L2.newO x om) F H β (PV Q)) (M:MOk F H β om) (hp:H p=none) (hx:∀β',Gr F F β β'->ObR F (upd H p o) β' p x):Q (.ref p) (upd H p o):=by
 obtain ⟨g,M',e⟩:=M.newOx hp hx
 exact R _ _ _ g M' _ (.o e)
theorem Vz {x1} (h:PA X es (tA E fs)):PE X (.Tuple es x1 pos) (tE E (fA Wz fs)):=(pe_tup h).weak fun σ H Q ⟨F,β,om,sl,M,V,R⟩=>by
 refine ⟨F,β,om,sl,M,V,R.bind fun ws om1 F1 H1 β1 g1 M1 R1 vs rs=>?_⟩
 obtain ⟨hl,R2⟩:=Res.lay R1
 have hl2:=Uf
 refine ⟨by rw[← rs.length]; omega,fun p hp=>?_⟩
 obtain ⟨g,M'⟩:=M1.newFx (o:=.tup vs) hp
 exact R2 _ _ _ g M' _ (.tup ZA (rs.mono g.toGr))
theorem Wm (h:PA X es (tA E fs)):PE X (.List es pos) (tE E (fA ZT fs)):=(pe_lst h).weak fun σ H Q ⟨F,β,om,sl,M,V,R⟩=>by
 refine ⟨F,β,om,sl,M,V,R.bind fun ws om1 F1 H1 β1 g1 M1 R1 vs rs=>?_⟩
 obtain ⟨hl,R2⟩:=Res.lay R1
 have hl2:=Uf
 refine ⟨by rw[← rs.length]; omega,fun p hp=>?_⟩
 obtain ⟨g,M'⟩:=M1.newFx (o:=.lst vs) hp
 exact R2 _ _ _ g M' _ (.lst (.inl ZA) (rs.mono g.toGr))
theorem qe_lstM (h:PA X es (tA E fs)):PE X (.List es pos) (tE E (fA WD fs)):=(pe_lst h).weak fun σ H Q ⟨F,β,om,sl,M,V,R⟩=>by
 refine ⟨F,β,om,sl,M,V,R.bind fun ws om1 F1 H1 β1 g1 M1 R1 vs rs=>?_⟩
 obtain ⟨hl,R2⟩:=Res.lay R1
 have hl2:=Uf
 exact ⟨by rw[← rs.length]; omega,fun p hp=>R2.newO M1 hp fun β' g=>⟨vs,ZA,rs.mono g⟩⟩
def chk (c:Bool):Mw Unit:=if c=true then ret () else Y1
theorem Res.chk {γ:Type} {c:Bool} {k:Unit->Mw γ} {om:List Ob} {F:Hp} {β:List Addr} {P:γ->Hp->Hp->List Addr->Prop} (R:Res E (bnd (L2.chk c) k om) F H β P):c=true∧Res E (k () om) F H β P:=by
 cases c with
 |true=>exact ⟨rfl,R⟩
 |false=>exact R.elim
def QZ (ws:List Wv) (y:Wv):Mw (List Wv):=match y with
 |.int k=>bnd (chk (decide (-(2 ^ 63)<=k∧k < 2 ^ 63∧ws.length * k.toNat<=lim))) fun _=>ret (List.replicate k.toNat ws).flatten
 |_=>Y1
def fRep (k:List Wv->Mw Wv) (fs:FA) (fb:FE):FE:=fun sl=>bnd (fs sl) fun ws=>bnd (chk (decide (ws.length<=lim))) fun _=>bnd (fb sl) fun y=>bnd (QZ ws y) k
def U4 (E:XK) (k:List Wv->Mw Wv):Prop:=∀{ws:List Wv} {vs:List V} {om:List Ob} {F H:Hp} {β:List Addr} {Q:VK} {p:Addr},MOk F H β om->RWs F β ws vs->Res E (k ws om) F H β (PV Q)->vs.length<=lim∧(H p=none->Q (.ref p) (upd H p (.lst vs)))
theorem Yd:U4 E ZT:=fun M rs R=>by
 obtain ⟨hl,R2⟩:=Res.lay R
 refine ⟨by rw[← rs.length]; exact hl,fun hp=>?_⟩
 obtain ⟨g,M'⟩:=M.newFx (o:=.lst _) hp
 exact R2 _ _ _ g M' _ (.lst (.inl ZA) (rs.mono g.toGr))
end
end
end L2
namespace L2
noncomputable section
open PySem PySem.Spec PyProof.Rows
def UM (om:List Ob):Wv->Option Bool
 |.non=>some false
 |.bl b=>some b
 |.int i=>some (i != 0)
 |.lst ws=>some (!ws.isEmpty)
 |.tup ws=>some (!ws.isEmpty)
 |.o h=>match om[h]? with
  |some (.lst ws)=>some (!ws.isEmpty)
  |some (.dk kvs)=>some (!kvs.isEmpty)
  |_=>none
 |_=>none
def kTru (x:Wv):Mw Bool:=fun om=>match UM om x with
 |some b=>some (.ok b,om)
 |none=>none
def X5 (f:FE):FT:=fun sl=>bnd (f sl) kTru
theorem RWs.isEmpty {F:Hp} {β:List Addr} {ws:List Wv} {vs:List V} (r:RWs F β ws vs):(!ws.isEmpty)=!vs.isEmpty:=by cases r <;> rfl
theorem RK.isEmpty {F:Hp} {β:List Addr} {κ:Type} {ws:List (κ × Wv)} {vs:List (κ × V)} (r:RK F β ws vs):(!ws.isEmpty)=!vs.isEmpty:=by cases r <;> rfl
theorem truOf_rel {K:PySem.W.Frag} {F H:Hp} {β:List Addr} {om:List Ob} {w:Wv} {v:V} {b:Bool} (M:MOk F H β om) (r:RW F β w v) (e:UM om w=some b):TruV K v H b:=by
 cases r with
 |non=>cases e; rfl
 |bl c=>cases e; rfl
 |int i=>cases e; rfl
 |str x=>cases e
 |g _=>cases e
 |lst q rs=>cases e; exact .inl ⟨_,.inl (Rd.same M.sub q),rs.isEmpty⟩
 |tup q rs=>cases e; exact .inr (.inl ⟨_,SqT.of (M.sub _ _ q),rs.isEmpty⟩)
 |o eb =>
  rename_i h a
  have e:(match om[h]? with|some (.lst ws)=>some (!ws.isEmpty)|some (.dk kvs)=>some (!kvs.isEmpty)|_=>none)=some b:=e
  match hx:om[h]?,e with
  |none,e=>exact nomatch e
  |some (.ins _ _),e=>exact nomatch e
  |some (.exc _),e=>exact nomatch e
  |some (.dz _),e=>exact nomatch e
  |some (.dt _),e=>exact nomatch e
  |some (.dk kvs),e =>
   have e:some (!kvs.isEmpty)=some b:=e
   obtain ⟨a',ea,_,ks,hk,rs⟩:=M.at hx
   rw[eb]at ea; cases ea
   cases e
   exact .inr (.inr ⟨ks,hk,rs.isEmpty⟩)
  |some (.lst ws),e =>
   have e:some (!ws.isEmpty)=some b:=e
   obtain ⟨a',ea,_,xs,hxs,rs⟩:=M.at hx
   rw[eb]at ea; cases ea
   cases e
   exact .inl ⟨xs,SqL.of hxs,rs.isEmpty⟩
section
variable {X:Cx} {E:XK} {e a b c o:Expr} {es:List Expr} {f fa fb fc:FE} {fs:FA} {pos p2:Pos}
theorem VI (ha:PE X a (tE E fa)) (he:∀whole,isTrue a X.env whole=(do let v ← whole; standAt a.pos; holding [v] (truthy v)):=by intro _; rfl):PT X a (tT E (X5 fa)):=(pt_truth ha he).weak fun σ H Q ⟨F,β,om,sl,M,V,R⟩=>by
 refine ⟨F,β,om,sl,M,V,R.bind fun x om1 F1 H1 β1 g1 M1 R1 v rv=>?_⟩
 unfold kTru at R1
 match hx:UM om1 x,R1 with
 |none,R1=>exact R1.elim
 |some b,R1=>exact ⟨b,truOf_rel M1 rv hx,(show Res E (ret b om1) F1 H1 β1 _ from R1).now M1⟩
def V5:Wv->Bool
 |.non|.bl _|.int _|.str _=>true
 |_=>false
def toV:Wv->V
 |.non=>.non
 |.bl b=>.bl b
 |.int i=>.int i
 |.str x=>.str x
 |_=>.non
theorem RW.flat {F:Hp} {β:List Addr} {w:Wv} {v:V} (r:RW F β w v) (h:V5 w=true):v=toV w∧Vg v=true:=by
 cases r <;> first|exact ⟨rfl,rfl⟩|cases h
theorem RWs.flat {F:Hp} {β:List Addr}:∀{ws:List Wv} {vs:List V},RWs F β ws vs->ws.all V5=true->vs=ws.map toV∧vs.all Vg=true
 |_,_,.nil,_=>⟨rfl,rfl⟩
 |_,_,.cons h r,e=>by
  rw[List.all_cons,Bool.and_eq_true]at e
  obtain ⟨h1,h2⟩:=h.flat e.1
  obtain ⟨h3,h4⟩:=RWs.flat r e.2
  exact ⟨by rw[List.map_cons,← h1,← h3],by rw[List.all_cons,h2,h4]; rfl⟩
def RZ (neg:Bool) (x y:Wv):Mw Wv:=fun om=>match YU om y with
 |some ws=>if (V5 x&&ws.all V5)=true then some (.ok (.bl (if neg then !inV (toV x) (ws.map toV) else inV (toV x) (ws.map toV))),om) else none
 |none=>none
theorem op2_in {neg:Bool}:Op2 E (rIn X.K neg) (RZ neg):=by
 intro F H β om x y v u Q M rx ry R
 unfold RZ at R
 match hy:YU om y,R with
 |none,R=>exact R.elim
 |some ws,R =>
  dsimp only at R
  by_cases hc:(V5 x&&ws.all V5)=true
  ·rw[if_pos hc]at R
   obtain ⟨h1,h2⟩:=Bool.and_eq_true_iff.mp hc
   obtain ⟨p,xs,rfl,hs,rs⟩:=Uw (X:=X) M ry hy
   obtain ⟨e1,e2⟩:=rx.flat h1
   obtain ⟨e3,e4⟩:=rs.flat h2
   refine ⟨p,xs,rfl,hs,e2,e4,?_⟩
   rw[e1,e3]
   exact (show Res E (ret (Wv.bl _) om) F H β (PV Q) from R).now M _ (.bl _)
  ·rw[if_neg hc]at R; exact R.elim
theorem qt_in (ha:PE X a (tE E fa)) (hb:PE X b (tE E fb)) (hm:behindInMarks .In b=false:=by with_unfolding_all rfl):PT X (.Compare a [.In] [b] pos) (tT E (fB (f2 (RZ false) fa fb))):=VF op_in_seq (op2_in (X:=X)) ha hb hm
theorem qt_nin (ha:PE X a (tE E fa)) (hb:PE X b (tE E fb)) (hm:behindInMarks .NotIn b=false:=by with_unfolding_all rfl):PT X (.Compare a [.NotIn] [b] pos) (tT E (fB (f2 (RZ true) fa fb))):=VF R7 (op2_in (X:=X)) ha hb hm
abbrev FO:=Sl->Mw (Option Int)
def fNoP:FO:=fun _=>ret none
def Q3:Wv->Mw (Option Int)
 |.int i=>ret (some i)
 |_=>Y1
def fPart (f:FE):FO:=fun sl=>bnd (f sl) Q3
def cutW (xs:List Wv) (lo hi:Option Int):List Wv:=(xs.drop (HT.sIx xs.length 0 lo)).take (HT.sIx xs.length xs.length hi - HT.sIx xs.length 0 lo)
def kSl (x:Wv) (lo hi:Option Int):Mw Wv:=fun om=>match x with
 |.tup ws=>if HT.sIx ws.length 0 lo=0∧HT.sIx ws.length ws.length hi=ws.length then none else some (.ok (.tup (cutW ws lo hi)),om)
 |.lst ws=>some (.ok (.lst (cutW ws lo hi)),om)
 |.o h=>match om[h]? with
  |some (.lst ws)=>some (.ok (.lst (cutW ws lo hi)),om)
  |_=>none
 |_=>none
def fSl (f:FE) (fl fh:FO):FE:=fun sl=>bnd (f sl) fun x=>bnd (fl sl) fun l=>bnd (fh sl) fun h=>kSl x l h
theorem RK.lookup {F:Hp} {β:List Addr} {k:Str}:∀{ps:List (Str × Wv)} {qs:List (Str × V)},RK F β ps qs->match ps.lookup k with|some w=>∃v,qs.lookup k=some v∧RW F β w v|none=>qs.lookup k=none
 |_,_,.nil=>rfl
 |_,_,.cons (k:=k') h r=>by
  rw[List.lookup_cons,List.lookup_cons]
  cases (k == k') with
  |true=>exact ⟨_,rfl,h⟩
  |false=>exact RK.lookup r
theorem RK.length {F:Hp} {β:List Addr} {κ:Type}:∀{ps:List (κ × Wv)} {qs:List (κ × V)},RK F β ps qs->ps.length=qs.length
 |_,_,.nil=>rfl
 |_,_,.cons _ r=>by rw[List.length_cons,List.length_cons,RK.length r]
def XQ (om:List Ob):Wv->Option (Addr × List (Str × Wv))
 |.o h=>match om[h]? with
  |some (.ins C fs)=>some (C,fs)
  |_=>none
 |_=>none
theorem S7 {F H : Hp} {β : List Addr} {om : List Ob} {w : Wv} {v : V} {C : Addr} {fs : List (Str × Wv)} (M : MOk F H β om) (r : RW F β w v) (e : XQ om w = some (C,fs)) :
    ∃h a dx fs',w=.o h∧om[h]?=some (.ins C fs)∧β[h]?=some a∧v=.ref a∧H a=some (.ins C dx fs')∧RK F β fs fs':=by
  cases r with
  |o eb =>
    rename_i h a
    have e:(match om[h]? with|some (.ins C fs)=>some (C,fs)|_=>none)=some (C,fs):=e
    match hx:om[h]?,e with
    |none,e=>exact nomatch e
    |some (.lst _),e=>exact nomatch e
    |some (.exc _),e=>exact nomatch e
    |some (.dz _),e=>exact nomatch e
    |some (.dt _),e=>exact nomatch e
    |some (.dk kvs),e=>exact nomatch e
    |some (.ins C' fs'),e =>
      have e:some (C',fs')=some (C,fs):=e
      cases e
      obtain ⟨a',ea,_,dx,fs2,hxs,rs⟩:=M.at hx
      have ea2:=ea
      rw[eb]at ea; cases ea
      exact ⟨h,_,dx,fs2,rfl,hx,ea2,rfl,hxs,rs⟩
  |_=>exact nomatch e
def Z6 (C:Addr) (n:Str) (x:Wv):Mw Wv:=fun om=>match XQ om x with
 |some (C',fs)=>if C'=C then (match fs.lookup n with|some w=>some (.ok w,om)|none=>none) else none
 |none=>none
theorem Z5 {C:Addr} {n:Str} (cl:Cls X.K C) (na:NoAttr X.K C n) (he:PE X e (tE E f)) (hb:attributeBase e n X.env (eval e X.env)=eval e X.env:=by rfl):PE X (.Attribute e n pos) (tE E (f1 (Z6 C n) f)):=(pe_fld he hb).weak fun σ H Q h=>by
  refine tE_1 (r:=fun x H1 Q=>∃a C dx fs v,x=.ref a∧H1 a=some (.ins C dx fs)∧Cls X.K C∧NoAttr X.K C n∧fs.lookup n=some v∧Q v H1) ?_ h
  intro F H β om x v Q M rx R
  unfold Z6 at R
  match hx:XQ om x,R with
  |none,R=>exact R.elim
  |some (C',fs),R =>
    dsimp only at R
    by_cases hc:C'=C
    · have R1 : Res E (match fs.lookup n with | some w => some (Except.ok w,om) | none => none) F H β (PV Q):=by
        have:=R
        rw[if_pos hc]at this
        exact this
      clear R
      subst hc
      obtain ⟨h,a,dx,fs',_,_,_,rfl,ha,rs⟩:=S7 M rx hx
      have lk:=rs.lookup (k:=n)
      match hl:fs.lookup n,R1,lk with
      |none,R,_=>exact R.elim
      |some w,R,⟨v,ev,rv⟩=>exact ⟨a,C',dx,fs',v,rfl,ha,cl,na,ev,(show Res E (ret w om) F H β (PV Q) from R).now M v rv⟩
    · rw[if_neg hc]at R; exact R.elim
def T7 (E:XK) (r:List V->Hp->VK->Prop) (k:List Wv->Mw Wv):Prop:=∀{F H:Hp} {β:List Addr} {om:List Ob} {ws:List Wv} {vs:List V} {Q:VK},MOk F H β om->RWs F β ws vs->Res E (k ws om) F H β (PV Q)->r vs H Q
theorem tA_K {r:List V->Hp->VK->Prop} {k:List Wv->Mw Wv} (hk:T7 E r k) {σ:St} {H:Hp} {Q:VK} (h:tE E (fA k fs) σ H Q):tCB r (tA E fs) σ H Q:=by
 obtain ⟨F,β,om,sl,M,V,R⟩:=h
 exact ⟨F,β,om,sl,M,V,R.bind fun ws om1 F1 H1 β1 g1 M1 R1 vs rs=>hk M1 rs R1⟩
theorem WM {id : String} {x : Str} {p : Pos} {r : List V -> Hp -> VK -> Prop} {k : List Wv -> Mw Wv} (hc : CallR X (.builtin id) r) (hk : T7 E r k) (hg : Gl X x) (hm : X.mg x = none) (hv : bootBuiltins x = some (.builtin id)) (ha : PA X (e :: es) (tA E fs)) (hn : x ≠ "__name__" := by decide) (hdb : (x == ("__debug__" : Str)) = false := by decide)
    (he:starEach (e::es) X.env=(false,eval e X.env)::starEach es X.env:=by rfl) (hpl:(backTo pos (starEach es X.env)).any (·.1)=false:=by rfl):PE X (.Call (.Name x p) (e::es) [] pos) (tE E (fA k fs)):=(Tq hc hg hm hv ha hn hdb he hpl).weak fun _ _ _ h=>tA_K hk h
def Wo (ws:List Wv):Mw Wv:=fun om=>match ws with
 |[x]=>match YU om x with
  |some us=>some (.ok (.int us.length),om)
  |none=>match x with
   |.o h=>match om[h]? with
    |some (.dk kvs)=>some (.ok (.int kvs.length),om)
    |_=>none
   |_=>none
 |_=>none
theorem callK_len:T7 E (fun xs H Q=>(∃p ys,xs=[.ref p]∧(SqL X.K H p ys∨SqT X.K H p ys)∧Q (.int ys.length) H)∨∃a kvs,xs=[V.ref a]∧H a=some (.dK kvs)∧Q (.int kvs.length) H) Wo:=by
 intro F H β om ws vs Q M rs R
 match ws,rs,R with
 |[],_,R=>exact R.elim
 |_::_::_,_,R=>exact R.elim
 |[x],.cons rx .nil,R =>
  unfold Wo at R
  dsimp only at R
  match hx:YU om x,R with
  |some us,R =>
   obtain ⟨p,xs,rfl,hs,r2⟩:=Uw (X:=X) M rx hx
   refine .inl ⟨p,xs,rfl,hs,?_⟩
   rw[← r2.length]
   exact (show Res E (ret (Wv.int _) om) F H β (PV Q) from R).now M _ (.int _)
  |none,R =>
   cases rx with
   |@o h a eb =>
    have R:Res E (match om[h]? with|some (.dk kvs)=>some (Except.ok (Wv.int kvs.length),om)|_=>none) F H β (PV Q):=R
    match hy:om[h]?,R with
    |none,R=>exact R.elim
    |some (.ins _ _),R=>exact R.elim
    |some (.exc _),R=>exact R.elim
    |some (.dz _),R=>exact R.elim
    |some (.dt _),R=>exact R.elim
    |some (.lst _),R=>exact R.elim
    |some (.dk kvs),R =>
     obtain ⟨a',ea,_,ks,hk,r2⟩:=M.at hy
     rw[eb]at ea; cases ea
     refine .inr ⟨_,ks,rfl,hk,?_⟩
     rw[← r2.length]
     exact (show Res E (ret (Wv.int _) om) F H β (PV Q) from R).now M _ (.int _)
   |_=>exact R.elim
theorem Ss {p : Pos} (hg : Gl X "len") (hm : X.mg "len" = none) (ha : PA X [e] (tA E fs)) (he : starEach [e] X.env = (false,eval e X.env) :: starEach [] X.env := by rfl) (hpl : (backTo pos (starEach [] X.env)).any (·.1) = false := by rfl) :
    PE X (.Call (.Name "len" p) [e] [] pos) (tE E (fA Wo fs)):=WM (Qi.or call_lenD) (callK_len (X:=X)) hg hm PySem.boot_len ha (by decide) (by decide) he hpl
end
end
end L2
namespace L2
noncomputable section
open PySem PySem.Spec PyProof.Rows
inductive Kd where
 |non|bl|int|str|lst|tup|dct
 deriving DecidableEq
def Kd.nm:Kd->String
 |.non=>"NoneType"|.bl=>"bool"|.int=>"int"|.str=>"str"|.lst=>"list"|.tup=>"tuple"|.dct=>"dict"
def Kd.isi:Kd->Kd->Bool
 |.non,.non=>true
 |.bl,.bl=>true
 |.bl,.int=>true
 |.int,.int=>true
 |.str,.str=>true
 |.lst,.lst=>true
 |.tup,.tup=>true
 |.dct,.dct=>true
 |_,_=>false
structure KIsi (K:PySem.W.Frag) (T:Kd):Prop where
 non:PySem.W.kitOne K (.type "NoneType") (.type T.nm)=some (Kd.isi .non T)
 bl:PySem.W.kitOne K (.type "bool") (.type T.nm)=some (Kd.isi .bl T)
 int:PySem.W.kitOne K (.type "int") (.type T.nm)=some (Kd.isi .int T)
 str:PySem.W.kitOne K (.type "str") (.type T.nm)=some (Kd.isi .str T)
 lst:PySem.W.kitOne K (.type "list") (.type T.nm)=some (Kd.isi .lst T)
 tup:PySem.W.kitOne K (.type "tuple") (.type T.nm)=some (Kd.isi .tup T)
 dct:PySem.W.kitOne K (.type "dict") (.type T.nm)=some (Kd.isi .dct T)
theorem KIsi.all {K:PySem.W.Frag} {T:Kd} (h:KIsi K T) (t:Kd):PySem.W.kitOne K (.type t.nm) (.type T.nm)=some (Kd.isi t T):=by
 cases t with
 |non=>exact h.non
 |bl=>exact h.bl
 |int=>exact h.int
 |str=>exact h.str
 |lst=>exact h.lst
 |tup=>exact h.tup
 |dct=>exact h.dct
def kdOf (om:List Ob):Wv->Option Kd
 |.non=>some .non
 |.bl _=>some .bl
 |.int _=>some .int
 |.str _=>some .str
 |.lst _=>some .lst
 |.tup _=>some .tup
 |.o h=>match om[h]? with
  |some (.lst _)=>some .lst
  |some (.dk _)=>some .dct
  |some (.dt _)=>some .dct
  |_=>none
 |.g _=>none
theorem kdOf_rel {K:PySem.W.Frag} {F H:Hp} {β:List Addr} {om:List Ob} {w:Wv} {v:V} {t:Kd} (M:MOk F H β om) (r:RW F β w v) (e:kdOf om w=some t):TyOf K H v (.type t.nm):=by
 cases r with
 |non=>cases e; exact .non
 |bl c=>cases e; exact .bl c
 |int i=>cases e; exact .int i
 |str x=>cases e; exact .str x
 |lst q rs =>
  cases e
  rcases Rd.same M.sub q with q|⟨ob,q⟩
  ·exact .lst q
  ·exact .frz q
 |tup q rs=>cases e; exact .tup (M.sub _ _ q)
 |g _=>cases e
 |@o h a eb =>
  have e:(match om[h]? with|some (.lst _)=>some Kd.lst|some (.dk _)=>some Kd.dct|some (.dt _)=>some Kd.dct|_=>none)=some t:=e
  match hx:om[h]?,e with
  |none,e=>exact nomatch e
  |some (.ins _ _),e=>exact nomatch e
  |some (.exc _),e=>exact nomatch e
  |some (.dz _),e=>exact nomatch e
  |some (.dt kvs),e =>
   have e:some Kd.dct=some t:=e
   obtain ⟨a',ea,_,ks,hk,rs⟩:=M.at hx
   rw[eb]at ea; cases ea
   cases e
   exact .dT hk
  |some (.dk kvs),e =>
   have e:some Kd.dct=some t:=e
   obtain ⟨a',ea,_,ks,hk,rs⟩:=M.at hx
   rw[eb]at ea; cases ea
   cases e
   exact .dK hk
  |some (.lst ws),e =>
   have e:some Kd.lst=some t:=e
   obtain ⟨a',ea,_,xs,hxs,rs⟩:=M.at hx
   rw[eb]at ea; cases ea
   cases e
   exact .lst hxs
def kIsi (T:Kd) (x:Wv):Mw Wv:=fun om=>match kdOf om x with
 |some t=>some (.ok (.bl (Kd.isi t T)),om)
 |none=>none
section
variable {X:Cx} {E:XK} {e a b c o:Expr} {es:List Expr} {f fa fb fc fo:FE} {fs:FA} {pos p2 p p':Pos}
theorem qe_isi {T : Kd} {x : Str} (k : KIsi X.K T) (hg : Gl X "isinstance") (hm : X.mg "isinstance" = none) (he : PE X e (tE E f)) (hT : PE X (.Name x p2) (tC (.ty T.nm)))
    (h1:starEach [e,.Name x p2] X.env=(false,eval e X.env)::starEach [.Name x p2] X.env:=by rfl) (h2:starEach [.Name x p2] X.env=(false,eval (.Name x p2) X.env)::starEach [] X.env:=by rfl) (hpl:(backTo pos (starEach [.Name x p2] X.env)).any (·.1)=false:=by rfl) :
    PE X (.Call (.Name "isinstance" p) [e,.Name x p2] [] pos) (tE E (f1 (kIsi T) f)):=(Tq call_isi hg hm PyProof.Rows.boot_isinstance (Wn he (Wn hT UH h2) h1) (by decide) (by decide) h1 hpl).weak fun σ H Q h=>by
  refine tE_1 (r:=fun v H1 Q=>∃x' t cv c b,[v,V.ty T.nm]=[x',cv]∧TyOf X.K H1 x' t∧clsV cv=some c∧PySem.W.kitOne X.K t c=some b∧Q (.bl b) H1) ?_ h
  intro F H β om x v Q M rx R
  unfold kIsi at R
  match hx:kdOf om x,R with
  |none,R=>exact R.elim
  |some t,R=>exact ⟨v,_,_,_,_,rfl,kdOf_rel M rx hx,rfl,k.all t,(show Res E (ret (Wv.bl _) om) F H β (PV Q) from R).now M _ (.bl _)⟩
def spM (n:Nat) (g:List Wv->Mw Wv):Sp:=fun vs H Q E=>∃F β om ws,MOk F H β om∧RWs F β ws vs∧ws.length=n∧Res E (g ws om) F H β (PV Q)
def kN (n:Nat) (g:List Wv->Mw Wv) (ws:List Wv):Mw Wv:=bnd (chk (decide (ws.length=n))) fun _=>g ws
theorem Ql {n:Nat} {g:List Wv->Mw Wv} {F H:Hp} {β:List Addr} {om:List Ob} {ws:List Wv} {vs:List V} {Q:VK} (M:MOk F H β om) (rs:RWs F β ws vs) (R:Res E (kN n g ws om) F H β (PV Q)):spM n g vs H Q E:=by
 obtain ⟨hc,R⟩:=Res.chk R
 exact ⟨F,β,om,ws,M,rs,of_decide_eq_true hc,R⟩
variable {CX:CXT} {k n:Nat} {fn C:Addr} {fd:FuncData} {ps:List Str} {g:List Wv->Mw Wv} {x m:Str}
theorem ZF (G : FnOk X.prog X.w X.K X.mg X.base CX k fn fd ps (spM n g)) (hr : Room k X.A) (hg : Gl X x) (hm : X.mg x = some (.ref fn)) (hk : PySem.W.keepIn X.K (.ref fn) = true) (hb : Binds X.K fd ps []) (hx : Xn CX X E)
    (ha:PA X (e::es) (tA E fs)) (hdb:(x == ("__debug__":Str))=false:=by decide) (he:starEach (e::es) X.env=(false,eval e X.env)::starEach es X.env:=by rfl) (hpl:(backTo pos (starEach es X.env)).any (·.1)=false:=by rfl) :
    PE X (.Call (.Name x p) (e::es) [] pos) (tE E (fA (kN n g) fs)):=(pe_call G hr hg hm hk hb .nil hx ha hdb he hpl).weak fun σ H Q ⟨F,β,om,sl,M,V,R⟩=>by
  refine ⟨F,β,om,sl,M,V,R.bind fun ws om1 F1 H1 β1 g1 M1 R1 vs rs=>?_⟩
  show spM n g (vs++[]) H1 Q E
  rw[List.append_nil]
  exact Ql M1 rs R1
def kIns (C:Addr) (m:Str) (x:Wv):Mw Unit:=fun om=>match XQ om x with
 |some (C',fs)=>if C'=C∧fs.lookup m=none then some (.ok (),om) else none
 |none=>none
theorem QU {γ : Type} {k : Unit -> Mw γ} {F H : Hp} {β : List Addr} {om : List Ob} {w : Wv} {v : V} {P : γ -> Hp -> Hp -> List Addr -> Prop} (M : MOk F H β om) (r : RW F β w v) (R : Res E (bnd (kIns C m w) k om) F H β P) :
    ∃a dx fs',v=.ref a∧H a=some (.ins C dx fs')∧fs'.lookup m=none∧Res E (k () om) F H β P:=by
  unfold bnd kIns at R
  match hx:XQ om w,R with
  |none,R=>exact R.elim
  |some (C',fs),R =>
    dsimp only at R
    by_cases hc:C'=C∧fs.lookup m=none
    · have R1 : Res E (k () om) F H β P:=by
        have:=R
        rw[if_pos hc]at this
        exact this
      clear R
      obtain ⟨h,a,dx,fs',_,_,_,rfl,ha,rs⟩:=S7 M r hx
      obtain ⟨rfl,hl⟩:=hc
      have lk:=rs.lookup (k:=m)
      rw[hl]at lk
      exact ⟨a,dx,fs',rfl,ha,lk,R1⟩
    · rw[if_neg hc]at R; exact R.elim
def Zq (C:Addr) (m:Str) (n:Nat) (g:List Wv->Mw Wv) (fo:FE) (fs:FA):FE:=fun sl=>bnd (fo sl) fun x=>bnd (kIns C m x) fun _=>bnd (fs sl) fun ws=>kN n g (x::ws)
theorem tE_meth {dvs:List V} {σ:St} {H:Hp} {Q:VK} (h:tE E (Zq C m n g fo fs) σ H Q):tMeth C m (spM n g) [] E (tE E fo) (tA E fs) σ H Q:=by
 obtain ⟨F,β,om,sl,M,V,R⟩:=h
 refine ⟨F,β,om,sl,M,V,R.bind fun x om1 F1 H1 β1 g1 M1 R1 v rv=>?_⟩
 obtain ⟨a,dx,fs',rfl,ha,hl,R2⟩:=QU M1 rv R1
 refine ⟨a,dx,fs',rfl,ha,hl,F1,β1,om1,sl,M1,V.mono g1.toGr,R2.bind fun ws om3 F3 H3 β3 g3 M3 R3 vs rs=>?_⟩
 show spM n g (L2.V.ref a::(vs++[])) H3 Q E
 rw[List.append_nil]
 exact Ql M3 (.cons (rv.mono g3.toGr) rs) R3
theorem Zu {pl : Sem Bool} {apos : Pos} (ho : PE X o (tE E fo)) (c : Cls X.K C) (hm : Meth X.K C m fn) (G : FnOk X.prog X.w X.K X.mg X.base CX k fn fd ps (spM n g)) (hr : Room k X.A) (hb : Binds X.K fd ps []) (hx : Xn CX X E) (ha : PA X (e :: es) (tA E fs))
    (hst:starEach (e::es) X.env=(false,eval e X.env)::starEach es X.env:=by rfl) (hpl:(backTo pos (starEach es X.env)).any (·.1)=false:=by rfl)
    (ht:eval (.Call (.Attribute o m apos) (e::es) [] pos) X.env=(do
      let ov ← eval o X.env
      standAt apos.atName
      let (f,first) ← holding [ov] (getMethod ov m pl)
      callWith pos f first (backTo pos (starEach (e::es) X.env)) (backToKw pos (keywordEach [] X.env))):=by rfl) :
    PE X (.Call (.Attribute o m apos) (e::es) [] pos) (tE E (Zq C m n g fo fs)):=(pe_meth ho c hm G hr hb .nil hx ha hst hpl ht).weak fun σ H Q h=>tE_meth (dvs:=[]) h
theorem WI {pl : Sem Bool} {apos : Pos} (ho : PE X o (tE E fo)) (c : Cls X.K C) (hm : Meth X.K C m fn) (G : FnOk X.prog X.w X.K X.mg X.base CX k fn fd ps (spM n g)) (hr : Room k X.A) (hb : Binds X.K fd ps []) (hx : Xn CX X E)
    (ht:eval (.Call (.Attribute o m apos) [] [] pos) X.env=(do
      let ov ← eval o X.env
      standAt apos.atName
      let (f,first) ← holding [ov] (getMethod ov m pl)
      callWith pos f first (backTo pos (starEach [] X.env)) (backToKw pos (keywordEach [] X.env))):=by rfl) :
    PE X (.Call (.Attribute o m apos) [] [] pos) (tE E (Zq C m n g fo Zi)):=(pe_meth0 ho c hm G hr hb .nil hx (ht:=ht)).weak fun σ H Q ⟨F,β,om,sl,M,V,R⟩=>by
  refine ⟨F,β,om,sl,M,V,R.bind fun x om1 F1 H1 β1 g1 M1 R1 v rv=>?_⟩
  obtain ⟨a,dx,fs',rfl,ha,hl,R2⟩:=QU M1 rv R1
  exact ⟨a,dx,fs',rfl,ha,hl,Ql M1 (.cons rv .nil) R2⟩
def XC (C:Addr) (n:Nat) (g:List Wv->Mw Wv) (ws:List Wv):Mw Wv:=fun om=>bnd (kN n g (.o om.length::ws)) (fun r=>match r with|.non=>ret (.o om.length)|_=>Y1) (om++[.ins C []])
theorem MOk.newU {F H:Hp} {β:List Addr} {om:List Ob} {p:Addr} {o:HO} (M:MOk F H β om) (hp:H p=none):MOk F (upd H p o) β om:=by
 have ne:∀(h:Nat) (a:Addr),β[h]?=some a->a≠p:=fun h a e z=>by
  obtain ⟨y,hy⟩:=M.there e
  rw[z,hp]at hy; cases hy
 exact ⟨fun b u e=>by rw[Zp (ZL (M.sub _ _ e) hp)]; exact M.sub b u e,M.nd,M.len,M.free,fun h a x e1 e2=>(M.ob h a x e1 e2).mono (Gr.refl _ _) (Zp (ne h a e1))⟩
theorem make_K {F H : Hp} {β : List Addr} {om : List Ob} {ws : List Wv} {vs : List V} {Q : VK} {y dx : Addr} (M : MOk F H β om) (rs : RWs F β ws vs) (R : Res E (XC C n g ws om) F H β (PV Q)) (hx : H y = none) (hdx : H dx = none) (hne : dx ≠ y) :
    spM n g (.ref y::(vs++[])) (upd (upd H dx (.own y)) y (.ins C dx [])) (fun v H2=>v=.non∧Q (.ref y) H2) E:=by
  have M1:=M.newU (o:=.own y) hdx
  have g0:=M.gxU (o:=.own y) hdx
  obtain ⟨g2,M2,e2⟩:=M1.newOx (p:=y) (o:=.ins C dx []) (x:=.ins C []) (by rw[Zp hne.symm]; exact hx) fun β' _=>⟨dx,[],ZA,.nil⟩
  rw[List.append_nil]
  refine Ql M2 (.cons (.o e2) (rs.mono g2.toGr)) ((Res.mono (g0.trans g2) R).bind fun r om3 F3 H3 β3 g3 M3 R3 v rv=>?_)
  cases rv with
  |non=>exact ⟨rfl,(show Res E (ret (Wv.o om.length) om3) F3 H3 β3 (PV Q) from R3).now M3 _ (.o (g3.pre _ _ e2))⟩
  |_=>exact R3.elim
theorem RY (Mk' : Mk X.K C fn) (G : FnOk X.prog X.w X.K X.mg X.base CX k fn fd ps (spM n g)) (hr : Room (k + 1) X.A) (hg : Gl X x) (hm : X.mg x = some (.ref C)) (hb : Binds X.K fd ps []) (hx : Xn CX X E)
    (ha:PA X (e::es) (tA E fs)) (hdb:(x == ("__debug__":Str))=false:=by decide) (he:starEach (e::es) X.env=(false,eval e X.env)::starEach es X.env:=by rfl) (hpl:(backTo pos (starEach es X.env)).any (·.1)=false:=by rfl) :
    PE X (.Call (.Name x p) (e::es) [] pos) (tE E (fA (XC C n g) fs)):=(pe_make Mk' G hr hg hm hb .nil hx ha hdb he hpl).weak fun σ H Q ⟨F,β,om,sl,M,V,R⟩ =>
  ⟨F,β,om,sl,M,V,R.bind fun ws om1 F1 H1 β1 g1 M1 R1 vs rs y dx h1 h2 h3=>make_K M1 rs R1 h1 h2 h3⟩
def Wc (om:List Ob):Wv->Option (Nat × List Wv)
 |.o h=>match om[h]? with
  |some (.lst ws)=>some (h,ws)
  |_=>none
 |_=>none
theorem RL {F H : Hp} {β : List Addr} {om : List Ob} {w : Wv} {v : V} {h : Nat} {ws : List Wv} (M : MOk F H β om) (r : RW F β w v) (e : Wc om w = some (h,ws)) :
    ∃a xs,w=.o h∧om[h]?=some (.lst ws)∧β[h]?=some a∧v=.ref a∧H a=some (.lst xs)∧RWs F β ws xs:=by
  cases r with
  |@o h' a eb =>
    have e:(match om[h']? with|some (.lst ws)=>some (h',ws)|_=>none)=some (h,ws):=e
    match hx:om[h']?,e with
    |none,e=>exact nomatch e
    |some (.ins _ _),e=>exact nomatch e
    |some (.exc _),e=>exact nomatch e
    |some (.dz _),e=>exact nomatch e
    |some (.dt _),e=>exact nomatch e
    |some (.dk kvs),e=>exact nomatch e
    |some (.lst us),e =>
      have e:some (h',us)=some (h,ws):=e
      cases e
      obtain ⟨a',ea,_,xs,hxs,rs⟩:=M.at hx
      have ea2:=ea
      rw[eb]at ea; cases ea
      exact ⟨_,xs,rfl,hx,ea2,rfl,hxs,rs⟩
  |_=>exact nomatch e
def kIsL (x:Wv):Mw Unit:=fun om=>match Wc om x with
 |some _=>some (.ok (),om)
 |none=>none
theorem kIsL_rel {γ : Type} {k : Unit -> Mw γ} {F H : Hp} {β : List Addr} {om : List Ob} {w : Wv} {v : V} {P : γ -> Hp -> Hp -> List Addr -> Prop} (M : MOk F H β om) (r : RW F β w v) (R : Res E (bnd (kIsL w) k om) F H β P) :
    tyV X.K "list" v H∧Res E (k () om) F H β P:=by
  unfold bnd kIsL at R
  match hx:Wc om w,R with
  |none,R=>exact R.elim
  |some (h,ws),R =>
    obtain ⟨a,xs,_,_,_,rfl,ha,_⟩:=RL M r hx
    exact ⟨.inl ⟨rfl,xs,SqL.of ha⟩,R⟩
def kClr (x:Wv):Mw Wv:=fun om=>match Wc om x with
 |some (h,_)=>some (.ok .non,om.set h (.lst []))
 |none=>none
end
end
end L2
namespace L2
noncomputable section
open PySem PySem.Spec PyProof.Rows
def Yk:Wv->Option Key
 |.int i=>some (.inl i)
 |.str x=>some (.inr x)
 |_=>none
def XI:List Wv->Option (List Key)
 |[]=>some []
 |w::r=>match Yk w,XI r with
  |some k,some ks=>some (k::ks)
  |_,_=>none
theorem W6 {F:Hp} {β:List Addr} {w:Wv} {v:V} {k:Key} (r:RW F β w v) (e:Yk w=some k):v=kV k:=by
 cases r <;> first|(cases e; rfl)|exact nomatch e
theorem Vt {F:Hp} {β:List Addr}:∀{ws:List Wv} {vs:List V} {ks:List Key},RWs F β ws vs->XI ws=some ks->vs=ks.map kV
 |_,_,_,.nil,e=>by unfold XI at e; cases e; rfl
 |_,_,_,.cons (w:=w) (ws:=ws) h r,e=>by
  unfold XI at e
  match h1:Yk w,h2:XI ws,e with
  |some k,some ks,e =>
   have e:some (k::ks)=some _:=e
   cases e
   rw[List.map_cons,← W6 h h1,← Vt r h2]
  |some k,none,e=>exact nomatch e
  |none,_,e=>exact nomatch e
section
variable {κ:Type} [DecidableEq κ]
def X1 (kvs:List (κ × Wv)) (k:κ):Option Wv:=(kvs.find? fun kv=>decide (kv.1=k)).map (·.2)
def Xv (kvs:List (κ × Wv)) (k:κ) (v:Wv):List (κ × Wv) :=
 if (kvs.any fun kv=>decide (kv.1=k))=true then kvs.map (fun kv=>if kv.1=k then (kv.1,v) else kv) else kvs++[(k,v)]
def dropW (kvs:List (κ × Wv)) (k:κ):List (κ × Wv):=kvs.filter fun kv=>decide (kv.1≠k)
variable {F:Hp} {β:List Addr}
def ROp (F:Hp) (β:List Addr) (o:Option Wv) (u:Option V):Prop:=match o with
 |some w=>∃v,u=some v∧RW F β w v
 |none=>u=none
theorem RK.val:∀{ps:List (κ × Wv)} {qs:List (κ × V)},RK F β ps qs->∀k,ROp F β (X1 ps k) (VN qs k)
 |_,_,.nil,_=>rfl
 |_,_,.cons (k:=k') h r,k=>by
  unfold X1 VN
  rw[List.find?_cons,List.find?_cons]
  by_cases hk:k'=k
  ·simp only[hk,decide_true]; exact ⟨_,rfl,h⟩
  ·simp only[hk,decide_false]; exact RK.val r k
theorem RK.any:∀{ps:List (κ × Wv)} {qs:List (κ × V)},RK F β ps qs->∀k,(ps.any fun kv=>decide (kv.1=k))=(qs.any fun kv=>decide (kv.1=k))
 |_,_,.nil,_=>rfl
 |_,_,.cons (k:=k') h r,k=>by rw[List.any_cons,List.any_cons,RK.any r k]
theorem RK.repl {k:κ} {w:Wv} {v:V} (h:RW F β w v):∀{ps:List (κ × Wv)} {qs:List (κ × V)},RK F β ps qs->RK F β (ps.map fun kv=>if kv.1=k then (kv.1,w) else kv) (qs.map fun kv=>if kv.1=k then (kv.1,v) else kv)
 |_,_,.nil=>.nil
 |_,_,.cons (k:=k') h' r=>by
  rw[List.map_cons,List.map_cons]
  by_cases hk:k'=k
  ·simp only[hk,if_true]; exact .cons h (RK.repl h r)
  ·simp only[hk,if_false]; exact .cons h' (RK.repl h r)
theorem RK.append:∀{ps:List (κ × Wv)} {qs:List (κ × V)} {ps':List (κ × Wv)} {qs':List (κ × V)},RK F β ps qs->RK F β ps' qs'->RK F β (ps++ps') (qs++qs')
 |_,_,_,_,.nil,s=>s
 |_,_,_,_,.cons h r,s=>.cons h (RK.append r s)
theorem RK.put {ps:List (κ × Wv)} {qs:List (κ × V)} {k:κ} {w:Wv} {v:V} (r:RK F β ps qs) (h:RW F β w v):RK F β (Xv ps k w) (Ua qs k v):=by
 unfold Xv Ua
 rw[r.any k]
 by_cases hc:(qs.any fun kv=>decide (kv.1=k))=true
 ·rw[if_pos hc,if_pos hc]; exact r.repl h
 ·rw[if_neg hc,if_neg hc]; exact r.append (.cons h .nil)
theorem RK.drop {k:κ}:∀{ps:List (κ × Wv)} {qs:List (κ × V)},RK F β ps qs->RK F β (dropW ps k) (dropK qs k)
 |_,_,.nil=>.nil
 |_,_,.cons (k:=k') h r=>by
  unfold dropW dropK
  rw[List.filter_cons,List.filter_cons]
  by_cases hk:k'=k
  ·simp only[hk,ne_eq,not_true_eq_false,decide_false]; exact RK.drop r
  ·simp only[hk,ne_eq,not_false_eq_true,decide_true]; exact .cons h (RK.drop r)
end
def Y9 (om:List Ob) (d key:Wv):Option (Option Wv):=match d with
 |.o h=>match om[h]? with
  |some (.dk kvs)=>match Yk key with
   |some k=>some (X1 kvs k)
   |none=>none
  |some (.dz kvs)=>match Yk key with
   |some k=>some (X1 kvs k)
   |none=>none
  |some (.dt kvs)=>match key with
   |.tup ws=>match XI ws with
    |some ks=>some (X1 kvs ks)
    |none=>none
   |_=>none
  |_=>none
 |_=>none
theorem W0 {F H:Hp} {β:List Addr} {om:List Ob} {d key:Wv} {vd vk:V} {r:Option Wv} (M:MOk F H β om) (rd:RW F β d vd) (rk:RW F β key vk) (e:Y9 om d key=some r):∃a o,vd=.ref a∧DGet H a vk o∧ROp F β r o:=by
 cases rd with
 |@o h a eb =>
  unfold Y9 at e
  dsimp only at e
  match hx:om[h]?,e with
  |none,e=>exact nomatch e
  |some (.ins _ _),e=>exact nomatch e
  |some (.exc _),e=>exact nomatch e
  |some (.lst _),e=>exact nomatch e
  |some (.dk kvs),e =>
   obtain ⟨a',ea,_,ks,hk,rs⟩:=M.at hx
   rw[eb]at ea; cases ea
   dsimp only at e
   match h1:Yk key,e with
   |none,e=>exact nomatch e
   |some k,e =>
    have e:some (X1 kvs k)=some r:=e
    cases e
    rw[W6 rk h1]
    exact ⟨_,_,rfl,DGet.k hk,rs.val k⟩
  |some (.dz kvs),e =>
   obtain ⟨a',ea,_,ob,ks,hk,rs⟩:=M.at hx
   rw[eb]at ea; cases ea
   dsimp only at e
   match h1:Yk key,e with
   |none,e=>exact nomatch e
   |some k,e =>
    have e:some (X1 kvs k)=some r:=e
    cases e
    rw[W6 rk h1]
    exact ⟨_,_,rfl,.inl ⟨ks,k,.inr ⟨ob,hk⟩,rfl,rfl⟩,rs.val k⟩
  |some (.dt kvs),e =>
   obtain ⟨a',ea,_,ks,hk,rs⟩:=M.at hx
   rw[eb]at ea; cases ea
   dsimp only at e
   cases rk with
   |@tup b xs ws q rw' =>
    dsimp only at e
    match h1:XI ws,e with
    |none,e=>exact nomatch e
    |some k,e =>
     have e:some (X1 kvs k)=some r:=e
     cases e
     have hb:=M.sub _ _ q
     rw[Vt rw' h1]at hb
     exact ⟨_,_,rfl,DGet.t hk hb,rs.val k⟩
   |_=>exact nomatch e
 |_=>unfold Y9 at e; cases e
def Um (om:List Ob) (d key w:Wv):Option (List Ob):=match d with
 |.o h=>match om[h]? with
  |some (.dk kvs)=>match Yk key with
   |some k=>if kvs.length < lim then some (om.set h (.dk (Xv kvs k w))) else none
   |none=>none
  |some (.dt kvs)=>match key with
   |.tup ws=>match XI ws with
    |some ks=>if kvs.length < lim then some (om.set h (.dt (Xv kvs ks w))) else none
    |none=>none
   |_=>none
  |_=>none
 |_=>none
theorem dPut_rel {F H:Hp} {β:List Addr} {om om':List Ob} {d key w:Wv} {vd vk v:V} (M:MOk F H β om) (rd:RW F β d vd) (rk:RW F β key vk) (rw':RW F β w v) (e:Um om d key w=some om'):∃a H',vd=.ref a∧DPut H a vk v H'∧Gx F F H H' β β∧MOk F H' β om':=by
 have hlim:=Uf
 cases rd with
 |@o h a eb =>
  unfold Um at e
  dsimp only at e
  match hx:om[h]?,e with
  |none,e=>exact nomatch e
  |some (.ins _ _),e=>exact nomatch e
  |some (.exc _),e=>exact nomatch e
  |some (.dz _),e=>exact nomatch e
  |some (.lst _),e=>exact nomatch e
  |some (.dk kvs),e =>
   obtain ⟨a',ea,_,ks,hk,rs⟩:=M.at hx
   have eb2:=ea
   rw[eb]at ea; cases ea
   dsimp only at e
   match h1:Yk key,e with
   |none,e=>exact nomatch e
   |some k,e =>
    have e:(if kvs.length < lim then some (om.set h (.dk (Xv kvs k w))) else none)=some om':=e
    by_cases hc:kvs.length < lim
    ·rw[if_pos hc]at e
     cases e
     rw[W6 rk h1]
     have:=rs.length
     exact ⟨_,_,rfl,DPut.k hk (by omega),M.gxP eb2 (nz hk),M.put eb2 ⟨_,ZA,rs.put rw'⟩⟩
    ·rw[if_neg hc]at e; exact nomatch e
  |some (.dt kvs),e =>
   obtain ⟨a',ea,_,ks,hk,rs⟩:=M.at hx
   have eb2:=ea
   rw[eb]at ea; cases ea
   dsimp only at e
   cases rk with
   |@tup b xs ws q rw2 =>
    dsimp only at e
    match h1:XI ws,e with
    |none,e=>exact nomatch e
    |some k,e =>
     have e:(if kvs.length < lim then some (om.set h (.dt (Xv kvs k w))) else none)=some om':=e
     by_cases hc:kvs.length < lim
     ·rw[if_pos hc]at e
      cases e
      have hb:=M.sub _ _ q
      rw[Vt rw2 h1]at hb
      have:=rs.length
      exact ⟨_,_,rfl,DPut.t hk hb (by omega),M.gxP eb2 (nz hk),M.put eb2 ⟨_,ZA,rs.put rw'⟩⟩
     ·rw[if_neg hc]at e; exact nomatch e
   |_=>exact nomatch e
 |_=>unfold Um at e; cases e
def Wf (d key:Wv):Mw Wv:=fun om=>match Y9 om d key with
 |some (some w)=>some (.ok w,om)
 |_=>none
def VJ (neg:Bool) (key d:Wv):Mw Wv:=fun om=>match Y9 om d key with
 |some r=>some (.ok (.bl (if neg then !r.isSome else r.isSome)),om)
 |none=>none
def isD (om:List Ob):Wv->Bool
 |.o h=>match om[h]? with
  |some (.dk _)=>true
  |some (.dz _)=>true
  |some (.dt _)=>true
  |_=>false
 |_=>false
def VE (x:Wv):Mw Unit:=fun om=>if isD om x=true then some (.ok (),om) else none
def UQ (d key:Wv):Mw Wv:=fun om=>match Y9 om d key with
 |some r=>some (.ok (r.getD .non),om)
 |none=>none
def UX (d key z:Wv):Mw Wv:=fun om=>match Y9 om d key with
 |some r=>some (.ok (r.getD z),om)
 |none=>none
def V4 (fd fk:FE):FE:=fun sl=>bnd (fd sl) fun d=>bnd (VE d) fun _=>bnd (fk sl) fun k=>UQ d k
def Sk (fd fk fz:FE):FE:=fun sl=>bnd (fd sl) fun d=>bnd (VE d) fun _=>bnd (fk sl) fun k=>bnd (fz sl) fun z=>UX d k z
def kPop (d key:Wv):Mw Wv:=fun om=>match d with
 |.o h=>match om[h]? with
  |some (.dk kvs)=>match Yk key with
   |some k=>match X1 kvs k with
    |some w=>some (.ok w,om.set h (.dk (dropW kvs k)))
    |none=>none
   |none=>none
  |_=>none
 |_=>none
def fPop (fd fk:FE):FE:=fun sl=>bnd (fd sl) fun d=>bnd (VE d) fun _=>bnd (fk sl) fun k=>kPop d k
section
variable {X:Cx} {E:XK} {e a b c o i:Expr} {fd fk fz:FE} {pos p2 p apos cpos:Pos}
theorem ROp.isSome {F:Hp} {β:List Addr} {r:Option Wv} {o:Option V} (h:ROp F β r o):r.isSome=o.isSome:=by
 match r,h with
 |some w,⟨v,e,_⟩=>rw[e]; rfl
 |none,h=>rw[show o=none from h]; rfl
theorem ROp.getD {F:Hp} {β:List Addr} {r:Option Wv} {o:Option V} {w:Wv} {v:V} (h:ROp F β r o) (q:RW F β w v):RW F β (r.getD w) (o.getD v):=by
 match r,h with
 |some w,⟨v,e,h⟩=>rw[e]; exact h
 |none,h=>rw[show o=none from h]; exact q
theorem V6 (hu:X.A.units+64 < cLine) (ho:PE X o (tE E fd)) (hi:PE X i (tE E fk)) (hs:NoSl i:=by intro _ _; rfl):PE X (.Subscript o i pos) (tE E (f2 Wf fd fk)):=(pe_dget (by omega) ho hi hs).weak fun σ H Q h=>by
 refine tE_2 (r:=fun x y H2 Q=>∃a v,x=.ref a∧DGet H2 a y (some v)∧Q v H2) ?_ h
 intro F H β om x y v u Q M rx ry R
 unfold Wf at R
 match hx:Y9 om x y,R with
 |none,R=>exact R.elim
 |some none,R=>exact R.elim
 |some (some w),R =>
  obtain ⟨a,o',rfl,hg,z,rfl,rz⟩:=W0 M rx ry hx
  exact ⟨a,z,rfl,hg,(show Res E (ret w om) F H β (PV Q) from R).now M _ rz⟩
theorem qe_din (hu:X.A.units+64 < cLine) (hi:PE X i (tE E fk)) (ho:PE X o (tE E fd)) (h1:behindInMarks .In o=false:=by with_unfolding_all rfl):PE X (.Compare i [.In] [o] pos) (tE E (f2 (VJ false) fk fd)):=(pe_cmp (pc_din (by omega) hi ho) h1).weak fun σ H Q h=>by
 refine tE_2 (r:=fun y x H2 Q=>∃a o,x=.ref a∧DGet H2 a y o∧Q (.bl o.isSome) H2) ?_ h
 intro F H β om y x u v Q M ry rx R
 unfold VJ at R
 match hx:Y9 om x y,R with
 |none,R=>exact R.elim
 |some r,R =>
  obtain ⟨a,o',rfl,hg,ro⟩:=W0 M rx ry hx
  refine ⟨a,o',rfl,hg,?_⟩
  rw[← ro.isSome]
  exact (show Res E (ret (Wv.bl r.isSome) om) F H β (PV Q) from R).now M _ (.bl _)
theorem qt_din (hu:X.A.units+64 < cLine) (hi:PE X i (tE E fk)) (ho:PE X o (tE E fd)) (h1:behindInMarks .In o=false:=by with_unfolding_all rfl):PT X (.Compare i [.In] [o] pos) (tT E (fB (f2 (VJ false) fk fd))):=(pt_cmp (pc_din (by omega) hi ho) h1).weak fun σ H Q h=>by
 refine tE_2 (r:=fun y x H2 Q=>∃a o,x=.ref a∧DGet H2 a y o∧Q (.bl o.isSome) H2) ?_ (tT_B h)
 intro F H β om y x u v Q M ry rx R
 unfold VJ at R
 match hx:Y9 om x y,R with
 |none,R=>exact R.elim
 |some r,R =>
  obtain ⟨a,o',rfl,hg,ro⟩:=W0 M rx ry hx
  refine ⟨a,o',rfl,hg,?_⟩
  rw[← ro.isSome]
  exact (show Res E (ret (Wv.bl r.isSome) om) F H β (PV Q) from R).now M _ (.bl _)
theorem Pp {γ:Type} {k:Unit->Mw γ} {F H:Hp} {β:List Addr} {om:List Ob} {w:Wv} {v:V} {P:γ->Hp->Hp->List Addr->Prop} (M:MOk F H β om) (r:RW F β w v) (R:Res E (bnd (VE w) k om) F H β P):∃a,v=.ref a∧IsD H a∧Res E (k () om) F H β P:=by
 by_cases hc:isD om w=true
 ·have e1:VE w om=some (.ok (),om):=if_pos hc
  unfold bnd at R
  rw[e1]at R
  have R1:Res E (k () om) F H β P:=R
  clear R
  cases r with
  |@o h a eb =>
   refine ⟨a,rfl,?_,R1⟩
   have hc:(match om[h]? with|some (.dk _)=>true|some (.dz _)=>true|some (.dt _)=>true|_=>false)=true:=hc
   match hx:om[h]?,hc with
   |none,e=>exact nomatch e
   |some (.ins _ _),e=>exact nomatch e
   |some (.exc _),e=>exact nomatch e
   |some (.lst _),e=>exact nomatch e
   |some (.dk kvs),e =>
    obtain ⟨a',ea,_,ks,hk,rs⟩:=M.at hx
    rw[eb]at ea; cases ea
    exact .inl ⟨ks,.inl hk⟩
   |some (.dz kvs),e =>
    obtain ⟨a',ea,_,ob,ks,hk,rs⟩:=M.at hx
    rw[eb]at ea; cases ea
    exact .inl ⟨ks,.inr ⟨ob,hk⟩⟩
   |some (.dt kvs),e =>
    obtain ⟨a',ea,_,ks,hk,rs⟩:=M.at hx
    rw[eb]at ea; cases ea
    exact .inr ⟨ks,.inl hk⟩
  |_=>exact nomatch hc
 ·have e1:VE w om=none:=if_neg hc
  unfold bnd at R
  rw[e1]at R
  exact R.elim
theorem qe_get1 (hu:X.A.units+64 < cLine) (ho:PE X o (tE E fd)) (he:PE X e (tE E fk)) (m:M1 X o "get" apos e cpos:=by exact ⟨rfl,rfl,rfl,rfl⟩):PE X (.Call (.Attribute o "get" apos) [e] [] cpos) (tE E (V4 fd fk)):=(pe_dget1 (by omega) ho he m).weak fun σ H Q ⟨F,β,om,sl,M,V,R⟩=>by
 refine ⟨F,β,om,sl,M,V,R.bind fun x om1 F1 H1 β1 g1 M1 R1 v rv=>?_⟩
 obtain ⟨a,rfl,hd,R2⟩:=Pp M1 rv R1
 refine ⟨a,rfl,hd,F1,β1,om1,sl,M1,V.mono g1.toGr,R2.bind fun y om3 F3 H3 β3 g3 M3 R3 u ru=>?_⟩
 unfold UQ at R3
 match hx:Y9 om3 x y,R3 with
 |none,R=>exact R.elim
 |some r,R =>
  obtain ⟨a',o',e,hg,ro⟩:=W0 M3 (rv.mono g3.toGr) ru hx
  cases e
  exact ⟨o',hg,(show Res E (ret (r.getD Wv.non) om3) F3 H3 β3 _ from R).now M3 _ (ro.getD .non)⟩
theorem qe_get2 {f':Expr} (hu:X.A.units+64 < cLine) (ho:PE X o (tE E fd)) (he:PE X e (tE E fk)) (hf:PE X f' (tE E fz)) (m:M2 X o "get" apos e f' cpos:=by exact ⟨rfl,rfl,rfl,rfl⟩):PE X (.Call (.Attribute o "get" apos) [e,f'] [] cpos) (tE E (Sk fd fk fz)):=(pe_dget2 (by omega) ho he hf m).weak fun σ H Q ⟨F,β,om,sl,M,V,R⟩=>by
 refine ⟨F,β,om,sl,M,V,R.bind fun x om1 F1 H1 β1 g1 M1 R1 v rv=>?_⟩
 obtain ⟨a,rfl,hd,R2⟩:=Pp M1 rv R1
 refine ⟨a,rfl,hd,F1,β1,om1,sl,M1,V.mono g1.toGr,R2.bind fun y om3 F3 H3 β3 g3 M3 R3 u ru=>?_⟩
 refine ⟨F3,β3,om3,sl,M3,V.mono (g1.trans g3).toGr,R3.bind fun z om4 F4 H4 β4 g4 M4 R4 zv rz=>?_⟩
 unfold UX at R4
 match hx:Y9 om4 x y,R4 with
 |none,R=>exact R.elim
 |some r,R =>
  obtain ⟨a',o',e,hg,ro⟩:=W0 M4 (rv.mono (g3.trans g4).toGr) (ru.mono g4.toGr) hx
  cases e
  exact ⟨o',hg,(show Res E (ret (r.getD z) om4) F4 H4 β4 _ from R).now M4 _ (ro.getD rz)⟩
theorem Uc:PE X (.Dict [] [] pos) (tE E fun _=>newO (.dk [])):=pe_dnewK.weak fun σ H Q ⟨F,β,om,sl,M,V,R⟩ p hp=>Res.newO R M hp fun β' _=>⟨[],ZA,.nil⟩
theorem qe_dnewT:PE X (.Dict [] [] pos) (tE E fun _=>newO (.dt [])):=pe_dnewT.weak fun σ H Q ⟨F,β,om,sl,M,V,R⟩ p hp=>Res.newO R M hp fun β' _=>⟨[],ZA,.nil⟩
end
end
end L2
namespace L2
noncomputable section
open PySem PySem.Spec PyProof.Rows
def YJ:FS:=fun sl=>ret (.nx,sl)
def kSeq (S:FS):Fl × Sl->Mw (Fl × Sl)
 |(.nx,sl)=>S sl
 |x=>ret x
def ZE (S1 S2:FS):FS:=fun sl=>bnd (S1 sl) (kSeq S2)
def ZU (i:Nat) (f:FE):FS:=fun sl=>bnd (f sl) fun w=>ret (.nx,sl.set i (some w))
def ZR (f:FE):FS:=fun sl=>bnd (f sl) fun _=>ret (.nx,sl)
def Z9 (f:FE):FS:=fun sl=>bnd (f sl) fun w=>ret (.rt w,sl)
def sRetN:FS:=fun sl=>ret (.rt .non,sl)
def sIf (c:FT) (S1 S2:FS):FS:=fun sl=>bnd (c sl) fun b=>if b=true then S1 sl else S2 sl
section
variable {X:Cx} {E:XK} {st:Stmt} {rest:List Stmt} {e:Expr} {f fo fi fv:FE} {S S1 S2:FS} {c:FT} {pos:Pos}
theorem ZW:PSs X [] (tS E YJ):=pss_nil.weak fun D σ H ⟨F,β,om,sl,M,V,R⟩=>(show Res E (ret (Fl.nx,sl) om) F H β (FlP D) from R).now M σ V
theorem Zh (h1:PS X st (tS E S1)) (h2:PSs X rest (tS E S2)):PSs X (st::rest) (tS E (ZE S1 S2)):=(pss_cons h1 h2).weak fun D σ H ⟨F,β,om,sl,M,V,R⟩=>by
 refine ⟨F,β,om,sl,M,V,R.bind fun x om1 F1 H1 β1 g1 M1 R1=>?_⟩
 obtain ⟨fl,sl1⟩:=x
 cases fl with
 |nx=>exact fun σ' V'=>⟨F1,β1,om1,sl1,M1,V',R1⟩
 |bk=>exact (show Res E (ret (Fl.bk,sl1) om1) F1 H1 β1 (FlP D) from R1).now M1
 |ct=>exact (show Res E (ret (Fl.ct,sl1) om1) F1 H1 β1 (FlP D) from R1).now M1
 |rt w=>exact (show Res E (ret (Fl.rt w,sl1) om1) F1 H1 β1 (FlP D) from R1).now M1
theorem Zn (h1:PS X st (tS E S1)):PSs X [st] (tS E S1):=pss_one h1
theorem Z7 {i : Nat} {x : Str} {pos' : Pos} (hN : X.N.Nodup) (hi : X.N[i]? = some x) (hx : Loc X.env.scope x) (he : PE X e (tE E f)) (hs : swapsWith e (some (.Name x pos')) pos.line X.env = pure false:=by rfl) (hf : X.fn x = true ∨ X.env.scope.names.lookup x = some .local:=by first | exact .inl rfl | exact .inr rfl | assumption) :
    PS X (.Assign [.Name x pos'] e pos) (tS E (ZU i f)):=(ps_set hN hi hx he hs hf).weak fun D σ H ⟨F,β,om,sl,M,V,R⟩ =>
  ⟨F,β,om,sl,M,V,R.bind fun x om1 F1 H1 β1 g1 M1 R1 v rv=>(show Res E (ret (Fl.nx,sl.set i (some x)) om1) F1 H1 β1 (FlP D) from R1).now M1 _ ((V.mono g1.toGr).set i rv)⟩
theorem ZX (he:PE X e (tE E f)) (hs:swapsWith e none pos.line X.env=pure false:=by rfl):PS X (.Expr e pos) (tS E (ZR f)):=(ps_expr he hs).weak fun D σ H ⟨F,β,om,sl,M,V,R⟩ =>
 ⟨F,β,om,sl,M,V,R.bind fun x om1 F1 H1 β1 g1 M1 R1 v rv=>(show Res E (ret (Fl.nx,sl) om1) F1 H1 β1 (FlP D) from R1).now M1 _ (V.mono g1.toGr)⟩
theorem ZG (he:PE X e (tE E f)):PS X (.Return (some e) pos) (tS E (Z9 f)):=(ps_ret he).weak fun D σ H ⟨F,β,om,sl,M,V,R⟩ =>
 ⟨F,β,om,sl,M,V,R.bind fun x om1 F1 H1 β1 g1 M1 R1 v rv=>(show Res E (ret (Fl.rt x,sl) om1) F1 H1 β1 (FlP D) from R1).now M1 _ rv⟩
theorem tS_if {D:Ends} {σ:St} {H:Hp} (h:tS E (sIf c S1 S2) D σ H):tIfS (tT E c) (tS E S1) (tS E S2) D σ H:=by
 obtain ⟨F,β,om,sl,M,V,R⟩:=h
 refine ⟨F,β,om,sl,M,V,R.bind fun b om1 F1 H1 β1 g1 M1 R1=>?_⟩
 cases b with
 |true=>rw[if_pos rfl]at R1 ⊢; exact ⟨F1,β1,om1,sl,M1,V.mono g1.toGr,R1⟩
 |false=>rw[if_neg Bool.false_ne_true]at R1 ⊢; exact ⟨F1,β1,om1,sl,M1,V.mono g1.toGr,R1⟩
theorem YA {t:Expr} {a b:List Stmt} (hc:PT X t (tT E c)) (ha:PSs X a (tS E S1)) (hb:PSs X b (tS E S2)):PS X (.If t a b pos) (tS E (sIf c S1 S2)):=(ps_if hc ha hb).weak fun D σ H h=>tS_if h
def kSetI (o i v:Wv):Mw Unit:=fun om=>match Wc om o,i with
 |some (h,ws),.int k=>match ixN ws.length k with
  |some j=>some (.ok (),om.set h (.lst (ws.set j v)))
  |none=>none
 |_,_=>none
def sSetI (fv fo fi:FE):FS:=fun sl=>bnd (fv sl) fun v=>bnd (fo sl) fun o=>bnd (fi sl) fun i=>bnd (kSetI o i v) fun _=>ret (.nx,sl)
def Vo (v d k:Wv):Mw Unit:=fun om=>match Um om d k v with
 |some om'=>some (.ok (),om')
 |none=>none
def Yu (fv fd fk:FE):FS:=fun sl=>bnd (fv sl) fun v=>bnd (fd sl) fun d=>bnd (fk sl) fun k=>bnd (Vo v d k) fun _=>ret (.nx,sl)
theorem Wi {o i v : Expr} {p1 : Pos} (hu : X.A.units + 64 < cLine) (hv : PE X v (tE E fv)) (ho : PE X o (tE E fo)) (hi : PE X i (tE E fi)) (hs : swapsWith v (some (.Subscript o i p1)) pos.line X.env = pure false:=by rfl) :
    PS X (.Assign [.Subscript o i p1] v pos) (tS E (Yu fv fo fi)):=by
  refine (ps_dput (by omega) ho hi hv hs).weak fun D σ H ⟨F,β,om,sl,M,V,R⟩=>?_
  refine ⟨F,β,om,sl,M,V,R.bind fun x om1 F1 H1 β1 g1 M1 R1 xv rx=>?_⟩
  refine ⟨F1,β1,om1,sl,M1,V.mono g1.toGr,R1.bind fun y om2 F2 H2 β2 g2 M2 R2 yv ry=>?_⟩
  refine ⟨F2,β2,om2,sl,M2,V.mono (g1.trans g2).toGr,R2.bind fun z om3 F3 H3 β3 g3 M3 R3 zv rz=>?_⟩
  unfold bnd Vo at R3
  match hx:Um om3 y z x,R3 with
  |none,R3=>exact R3.elim
  |some om',R3 =>
    obtain ⟨a,H',rfl,hp,gg,MM⟩:=dPut_rel M3 (ry.mono g3.toGr) rz (rx.mono (g2.trans g3).toGr) hx
    exact ⟨a,H',rfl,hp,(show Res E (some (Except.ok (Fl.nx,sl),om')) F3 H3 β3 (FlP D) from R3) F3 H' β3 gg MM σ (V.mono (g1.trans (g2.trans g3)).toGr)⟩
def VX (f:Str) (v:Wv):List (Str × Wv)->List (Str × Wv)
 |[]=>[(f,v)]
 |(g,u)::r=>if g=f then (g,v)::r else (g,u)::VX f v r
theorem RK.putF {F:Hp} {β:List Addr} {n:Str} {w:Wv} {v:V} (h:RW F β w v):∀{ps:List (Str × Wv)} {qs:List (Str × V)},RK F β ps qs->RK F β (VX n w ps) (L2.putF n v qs)
 |_,_,.nil=>.cons h .nil
 |_,_,.cons (k:=k') h' r=>by
  unfold VX L2.putF
  by_cases hk:k'=n
  ·rw[if_pos hk,if_pos hk]; exact .cons h r
  ·rw[if_neg hk,if_neg hk]; exact .cons h' (RK.putF h r)
def Rm (C:Addr) (n:Str) (v x:Wv):Mw Unit:=fun om=>match x with
 |.o h=>match om[h]? with
  |some (.ins C' fs)=>if C'=C∧fs.length < 900 then some (.ok (),om.set h (.ins C' (VX n v fs))) else none
  |_=>none
 |_=>none
def WS (C:Addr) (n:Str) (fv fo:FE):FS:=fun sl=>bnd (fv sl) fun v=>bnd (fo sl) fun x=>bnd (Rm C n v x) fun _=>ret (.nx,sl)
theorem Uq {o v : Expr} {n : Str} {C : Addr} {p1 : Pos} (cl : Cls X.K C) (na : NoAttr X.K C n) (hv : PE X v (tE E fv)) (ho : PE X o (tE E fo)) (hs : swapsWith v (some (.Attribute o n p1)) pos.line X.env = pure false:=by rfl) :
    PS X (.Assign [.Attribute o n p1] v pos) (tS E (WS C n fv fo)):=by
  refine (ps_fld ho hv hs).weak fun D σ H ⟨F,β,om,sl,M,V,R⟩=>?_
  refine ⟨F,β,om,sl,M,V,R.bind fun x om1 F1 H1 β1 g1 M1 R1 xv rx=>?_⟩
  refine ⟨F1,β1,om1,sl,M1,V.mono g1.toGr,R1.bind fun y om2 F2 H2 β2 g2 M2 R2 yv ry=>?_⟩
  unfold bnd Rm at R2
  cases ry with
  |@o h a eb =>
    dsimp only at R2
    match hx:om2[h]?,R2 with
    |none,R=>exact R.elim
    |some (.exc _),R=>exact R.elim
    |some (.dz _),R=>exact R.elim
    |some (.lst _),R=>exact R.elim
    |some (.dt _),R=>exact R.elim
    |some (.dk _),R=>exact R.elim
    |some (.ins C' fs),R =>
      obtain ⟨a',ea,_,dx,fs',hf,rs⟩:=M2.at hx
      have eb2:=ea
      rw[eb]at ea; cases ea
      dsimp only at R
      by_cases hc:C'=C∧fs.length < 900
      · have R5 : Res E (some (Except.ok (Fl.nx,sl),om2.set h (.ins C' (VX n x fs)))) F2 H2 β2 (FlP D):=by
          have:=R
          rw[if_pos hc]at this
          exact this
        obtain ⟨rfl,hl⟩:=hc
        have:=rs.length
        refine ⟨a,C',dx,fs',rfl,hf,cl,na,by omega,?_⟩
        exact R5 F2 _ β2 (M2.gxP eb2 (nz hf)) (M2.put eb2 ⟨dx,_,ZA,rs.putF (rx.mono g2.toGr)⟩) σ (V.mono (g1.trans g2).toGr)
      · rw[if_neg hc]at R; exact R.elim
  |_=>exact R2.elim
end
def ItC (C:Hp->Prop) (J:It) (ws:List Wv) (F:Hp) (β:List Addr):Prop:=∀F' β' H,Gr F F' β β'->Same F' H->C H->(∀(i:Nat) w,ws[i]?=some w->J.go i H∧∀x H',J.yld i H x H'->H'=H∧RW F' β' w x)∧∀i,ws.length<=i->J.stop i H
abbrev ItOk:=ItC fun _=>True
theorem ItC.mono {C:Hp->Prop} {J:It} {ws:List Wv} {F F':Hp} {β β':List Addr} (h:ItC C J ws F β) (g:Gr F F' β β'):ItC C J ws F' β':=fun F2 β2 H g2 s=>h F2 β2 H (g.trans g2) s
abbrev FI:=Sl->Mw (List Wv)
def tI (E:XK) (f:FI):TI:=fun σ H R=>∃F β om sl,MOk F H β om∧EnvOk F β σ sl∧Res E (f sl om) F H β fun ws F' H' β'=>∀J,ItOk J ws F' β'->R J H'
theorem PI.weak {X:Cx} {tg e:Expr} {t t':TI} (h:PI X tg e t) (w:∀σ H Q,t' σ H Q->t σ H Q):PI X tg e t':=fun pins s σ H Q I q=>h pins s σ H Q I (w σ H Q q)
def ZZ:Wv->Mw (List Wv)
 |.lst ws=>ret ws
 |_=>Y1
def Vd (n:Nat):List Wv:=(List.range n).map fun (i:Nat)=>.int i
def rng2 (lo:Int) (n:Nat):List Wv:=(List.range n).map fun (i:Nat)=>.int (lo+i)
def XU:Wv->Mw (List Wv)
 |.int j=>bnd (chk (decide (-(2 ^ 62)<=j∧j < 2 ^ 62))) fun _=>ret (Vd j.toNat)
 |_=>Y1
section
variable {X:Cx} {E:XK} {e a b tg:Expr} {es:List Expr} {f:FE} {fs:FA} {p pos:Pos}
theorem itl_ok {K:PySem.W.Frag} {F:Hp} {β:List Addr} {a:Addr} {xs:List V} {ws:List Wv} (q:Rd F a (.lst xs)) (rs:RWs F β ws xs):ItOk (Itl K a) ws F β:=fun F' β' H g s _=>by
 have hS:SqL K H a xs:=.inl (Rd.same s (Rd.same g.same q))
 refine ⟨fun i w e=>?_,fun i hi=>⟨xs,hS,by rw[← rs.length]; exact hi⟩⟩
 obtain ⟨v,ev,rv⟩:=rs.get e
 refine ⟨⟨xs,v,hS,ev⟩,fun x H' ⟨e1,e2⟩=>⟨e1,?_⟩⟩
 have:=e2 xs hS
 rw[ev]at this
 cases this
 exact rv.mono g
theorem itr_ok {F:Hp} {β:List Addr} (lo:Int) (n:Nat):ItOk (Itr lo n) (rng2 lo n) F β:=fun F' β' H g s _=>by
 unfold rng2
 refine ⟨fun i w e=>?_,fun i hi=>(show n<=i by simpa using hi)⟩
 have hi:i < n:=by have:=(List.getElem?_eq_some_iff.mp e).1; simpa using this
 rw[List.getElem?_map,List.getElem?_range hi]at e
 cases e
 exact ⟨hi,fun x H' ⟨e1,e2⟩=>⟨e1,by rw[e2]; exact .int _⟩⟩
theorem rng1_eq (n:Nat):Vd n=rng2 0 n:=by
 unfold Vd rng2
 exact List.map_congr_left fun i _=>by rw[Int.zero_add]
theorem YN (hl:PE X e (tE E f)):PI X tg e (tI E fun sl=>bnd (f sl) ZZ):=(pi_list hl).weak fun σ H Q ⟨F,β,om,sl,M,V,R⟩=>by
 refine ⟨F,β,om,sl,M,V,R.bind fun x om1 F1 H1 β1 g1 M1 R1 v rv=>?_⟩
 cases rv with
 |@lst a xs ws q rs=>exact ⟨a,rfl,⟨xs,.inl (Rd.same M1.sub q)⟩,(show Res E (ret ws om1) F1 H1 β1 _ from R1).now M1 _ (itl_ok q rs)⟩
 |_=>exact R1.elim
theorem Wb (hg:Gl X "range") (hm:X.mg "range"=none) (ha:PE X a (tE E f)) (h0:starEach [a] X.env=(false,eval a X.env)::starEach [] X.env:=by rfl) (hs:starEach [a] X.env=[(false,eval a X.env)]:=by rfl):PI X tg (.Call (.Name "range" p) [a] [] pos) (tI E fun sl=>bnd (f sl) XU):=(pi_range1 hg hm (Wn ha UH h0) hs).weak fun σ H Q ⟨F,β,om,sl,M,V,R⟩=>by
 refine ⟨F,β,om,sl,M,V,R.bind fun w om1 F1 H1 β1 g1 M1 R1 v rv=>?_⟩
 cases rv with
 |int j =>
  obtain ⟨hc,R2⟩:=Res.chk R1
  obtain ⟨h1,h2⟩:=of_decide_eq_true hc
  refine ⟨j,rfl,h1,h2,?_⟩
  have R3:Res E (ret (Vd j.toNat) om1) F1 H1 β1 fun ws F' H' β'=>∀J,ItOk J ws F' β'->Q J H':=R2
  exact R3.now M1 _ (by rw[rng1_eq]; exact itr_ok 0 _)
 |_=>exact R1.elim
end
abbrev TgW:=Wv->Sl->Option Sl
def TgOk (g:TG) (T:TgW):Prop:=∀{F H:Hp} {β:List Addr} {om:List Ob} {σ:St} {sl sl':Sl} {w:Wv} {v:V} {Q:St->Hp->Prop},MOk F H β om->EnvOk F β σ sl->RW F β w v->T w sl=some sl'->(∀σ',EnvOk F β σ' sl'->Q σ' H)->g v σ H Q
def tgN (i:Nat):TgW:=fun w sl=>some (sl.set i (some w))
theorem Xh (i:Nat):TgOk (gName i) (tgN i):=fun M V r e q=>by
 cases e
 exact q _ (V.set i r)
def U9 (again:Sl->Mw (Fl × Sl)):Fl × Sl->Mw (Fl × Sl)
 |(.nx,sl)=>again sl
 |(.ct,sl)=>again sl
 |(.bk,sl)=>ret (.nx,sl)
 |(.rt w,sl)=>ret (.rt w,sl)
def We (T:TgW) (S:FS):List Wv->FS
 |[],sl=>ret (.nx,sl)
 |w::r,sl=>match T w sl with
  |none=>Y1
  |some sl1=>bnd (S sl1) (U9 fun sl2=>We T S r sl2)
def Ve (fi:FI) (T:TgW) (S:FS):FS:=fun sl=>bnd (fi sl) fun ws=>We T S ws sl
section
variable {X:Cx} {E:XK} {tg iter:Expr} {body:List Stmt} {fi:FI} {T:TgW} {g:TG} {S:FS} {pos:Pos}
theorem for_go {D : Ends} {J : It} {ws : List Wv} {σ : St} {H F : Hp} {β : List Addr} {om : List Ob} {sl : Sl} (ht : TgOk g T) (hJ : ItOk J ws F β) (M : MOk F H β om) (V : EnvOk F β σ sl) (R : Res E (We T S ws sl om) F H β (FlP D)) :
    ∃W:Nat->Nat->St->Hp->Prop,(∃m,W 0 m σ H)∧∀i m σ H,W i m σ H ->
      (J.stop i H∧D.nx σ H)∨(J.go i H∧∃N:St->Hp->Prop,(∀σ' H',N σ' H'->∃m',m' < m∧W (i+1) m' σ' H')∧∀x H',J.yld i H x H'->g x σ H' fun σ2 H2=>tS E S { D with nx:=N,ct:=N,bk:=D.nx } σ2 H2):=by
  refine ⟨fun i m σ H=>m=ws.length - i∧i<=ws.length∧∃F β om sl,ItOk J ws F β∧MOk F H β om∧EnvOk F β σ sl∧Res E (We T S (ws.drop i) sl om) F H β (FlP D),⟨ws.length,by simp,Nat.zero_le _,F,β,om,sl,hJ,M,V,R⟩,?_⟩
  rintro i m σ H ⟨rfl,hi,F,β,om,sl,hJ,M,V,R⟩
  obtain ⟨j1,j2⟩:=hJ F β H (Gr.refl _ _) M.sub True.intro
  by_cases hlt:i < ws.length
  · obtain ⟨go,yl⟩:=j1 i ws[i] (List.getElem?_eq_getElem hlt)
    refine .inr ⟨go,fun σ' H'=>i+1<=ws.length∧∃F β om sl,ItOk J ws F β∧MOk F H' β om∧EnvOk F β σ' sl∧Res E (We T S (ws.drop (i+1)) sl om) F H' β (FlP D),fun σ' H' ⟨h1,h2⟩=>⟨ws.length - (i+1),by omega,rfl,h1,h2⟩,fun x H' hy=>?_⟩
    obtain ⟨rfl,rx⟩:=yl x H' hy
    rw[List.drop_eq_getElem_cons hlt]at R
    have R:Res E ((match T ws[i] sl with|none=>Y1|some sl1=>bnd (S sl1) (U9 fun sl2=>We T S (ws.drop (i+1)) sl2)) om) F H' β (FlP D):=R
    match hT:T ws[i] sl,R with
    |none,R=>exact R.elim
    |some sl1,R =>
      refine ht M V rx hT fun σ2 V2=>?_
      refine ⟨F,β,om,sl1,M,V2,Res.bind R fun y om1 F1 H1 β1 g1 M1 R1=>?_⟩
      obtain ⟨fl,sl2⟩:=y
      cases fl with
      |nx=>exact fun σ' V'=>⟨hlt,F1,β1,om1,sl2,hJ.mono g1.toGr,M1,V',R1⟩
      |ct=>exact fun σ' V'=>⟨hlt,F1,β1,om1,sl2,hJ.mono g1.toGr,M1,V',R1⟩
      |bk=>exact (show Res E (ret (Fl.nx,sl2) om1) F1 H1 β1 (FlP D) from R1).now M1
      |rt w=>exact (show Res E (ret (Fl.rt w,sl2) om1) F1 H1 β1 (FlP D) from R1).now M1
  · have e:i=ws.length:=by omega
    subst e
    rw[List.drop_length]at R
    exact .inl ⟨j2 _ (Nat.le_refl _),(show Res E (ret (Fl.nx,sl) om) F H β (FlP D) from R).now M σ V⟩
theorem UD (hp:PassesOwn (model X.prog X.w) X.A X.env X.xe) (hc:X.calm=true) (hi:PI X tg iter (tI E fi)) (hg:PG X tg g) (ht:TgOk g T) (hb:PSs X body (tS E S)) (hs:∀x,foldedSetIterable iter X.env x=pure x:=by intro _; rfl):PS X (.For tg iter body [] pos) (tS E (Ve fi T S)):=(ps_for hp hc hi hg hb hs).weak fun D σ H ⟨F,β,om,sl,M,V,R⟩=>by
 refine ⟨F,β,om,sl,M,V,R.bind fun ws om1 F1 H1 β1 g1 M1 R1 J hJ=>?_⟩
 exact for_go ht hJ M1 (V.mono g1.toGr) R1
end
end
end L2
namespace L2
noncomputable section
open PySem PySem.Spec PyProof.Rows
def YR (js:List Nat) (w:Wv) (sl:Sl):Sl:=some w::js.map fun j=>(sl[j]?).join
theorem EnvOk.comp {F:Hp} {β:List Addr} {σ:St} {sl:Sl} {w:Wv} {v:V} (V:EnvOk F β σ sl) (js:List Nat) (r:RW F β w v):EnvOk F β (YI js (some v) σ) (YR js w sl):=by
 refine ⟨by simp[YR,YI],fun i u e=>?_⟩
 cases i with
 |zero =>
  have e:some (some w)=some (some u):=e
  cases e
  exact ⟨v,rfl,r⟩
 |succ k =>
  have e:(js.map fun j=>(sl[j]?).join)[k]?=some (some u):=e
  rw[List.getElem?_map]at e
  match hj:js[k]?,e with
  |none,e=>exact nomatch e
  |some j,e =>
   have e:some (sl[j]?).join=some (some u):=e
   have e2:sl[j]?=some (some u):=by
    cases q:sl[j]? with
    |none=>rw[q]at e; cases e
    |some o =>
     rw[q]at e
     have e:some o=some (some u):=e
     cases e
     rfl
   obtain ⟨v',h1,h2⟩:=V.get j u e2
   refine ⟨v',?_,h2⟩
   show (js.map fun j=>(σ[j]?).join)[k]?=some (some v')
   rw[List.getElem?_map,hj,Option.map_some,h1]
   rfl
def kOne (again:Mw (List Wv)) (f:Mw Wv) (b:Bool):Mw (List Wv):=if b=true then bnd (ZS f) fun x=>bnd again fun xs=>ret (x::xs) else again
def Y5 (c:FT) (f:FE) (mk:Wv->Sl):List Wv->Mw (List Wv)
 |[]=>ret []
 |w::r=>bnd (ZS (c (mk w))) (kOne (Y5 c f mk r) (f (mk w)))
def Yh (k:List Wv->Mw Wv) (js:List Nat) (fi:FI) (c:FT) (f:FE):FE:=fun sl=>bnd (fi sl) fun ws=>bnd (chk (decide (ws.length<=lim))) fun _=>bnd (Y5 c f (fun w=>YR js w sl) ws) k
def WP:FT:=fun _=>ret true
theorem WK {X:Cx} {E:XK}:VM X [] (tT E WP):=fun pins s σ H Q I ⟨F,β,om,sl,M,V,R⟩=>pifs_nil pins s σ H Q I ((show Res E (ret true om) F H β _ from R).now M)
theorem Y7 {X:Cx} {E:XK} {e:Expr} {c:FT} (h:PT X e (tT E c)):VM X [e] (tT E c):=pifs_one h
theorem W1 {α γ δ:Type} (m:Mw α) (k:α->Mw γ) (l:γ->Mw δ):bnd (bnd m k) l=bnd m fun x=>bnd (k x) l:=by
 funext om
 unfold bnd
 match m om with
 |none=>rfl
 |some (.ok a,om')=>rfl
 |some (.error c,om')=>rfl
def wo (H:Hp) (D:Addr):Hp:=fun b=>if b=D then none else H b
theorem Qo {H:Hp} {D:Addr} {o:HO} (e:H D=some o):upd (wo H D) D o=H:=by
 funext b
 unfold upd wo
 by_cases h:b=D
 ·rw[if_pos h,h,e]
 ·rw[if_neg h,if_neg h]
theorem wo_ne {H:Hp} {D b:Addr} (h:b≠D):wo H D b=H b:=if_neg h
theorem QK {H:Hp} {D:Addr}:wo H D D=none:=if_pos rfl
section
variable {X:Cx} {E:XK} {js:List Nat} {c:FT} {f:FE} {k:List Wv->Mw Wv}
theorem beside {F F' Hm H' : Hp} {β β' : List Addr} {om om' : List Ob} {D : Addr} {ys : List V} (hD : Hm D = none) (M : MOk F Hm β om) (g : Gx F F' (upd Hm D (.lst ys)) H' β β') (M' : MOk F' H' β' om') :
    H' D=some (.lst ys)∧Gx F F' Hm (wo H' D) β β'∧MOk F' (wo H' D) β' om':=by
  have nD:D ∉ β:=fun hm=>by
    obtain ⟨i,hi⟩:=List.getElem?_of_mem hm
    obtain ⟨x,hx⟩:=M.there hi
    rw[hD]at hx; cases hx
  have fD:F D=none:=M.sub.free hD
  have e1:H' D=some (.lst ys):=g.keep D _ ZA nD
  have nD':D ∉ β':=fun hm=>(g.new D hm).elim nD fun z=>by rw[ZA]at z; cases z
  have fD':F' D=none:=by
    cases q:F' D with
    |none=>rfl
    |some o =>
      rcases g.fnew D o q with z|z
      · rw[fD]at z; cases z
      · rw[ZA]at z; cases z
  refine ⟨e1,⟨g.toGr,fun b o e hb=>?_,fun b e=>?_,fun b hb=>?_,fun b o e=>?_,fun b o u e=>?_⟩,⟨fun b o e=>?_,M'.nd,M'.len,M'.free,fun h a x h1 h2=>(M'.ob h a x h1 h2).mono (Gr.refl _ _) ?_⟩⟩
  · have hbD:b≠D:=ZL e hD
    rw[wo_ne hbD]
    exact g.keep b o (by rw[Zp hbD]; exact e) hb
  · by_cases hbD:b=D
    · rw[hbD]; exact hD
    · rw[wo_ne hbD]at e
      have:=g.there b e
      rw[Zp hbD]at this
      exact this
  · rcases g.new b hb with h|h
    · exact .inl h
    · have hbD:b≠D:=fun z=>nD' (z ▸ hb)
      rw[Zp hbD]at h
      exact .inr h
  · rcases g.fnew b o e with h|h
    · exact .inl h
    · have hbD:b≠D:=fun z=>by rw[z,fD']at e; cases e
      rw[Zp hbD]at h
      exact .inr h
  · have hbD:b≠D:=ZL e hD
    rw[wo_ne hbD]
    exact g.frz b o u (by rw[Zp hbD]; exact e)
  · have hbD:b≠D:=fun z=>by rw[z,fD']at e; cases e
    rw[wo_ne hbD]
    exact M'.sub b o e
  · exact wo_ne fun z=>nD' (z ▸ List.mem_of_getElem? h1)
theorem Vb {C : Hp -> Prop} {J : It} {ws : List Wv} {σ : St} {sl : Sl} {F1 H1 F0 H0 : Hp} {β1 β0 : List Addr} {om1 : List Ob} {P : Wv -> Hp -> Hp -> List Addr -> Prop} {Q : VK} {D : Addr} {mk : Wv -> Sl} {K : V -> Hp -> (St -> Hp -> Prop) -> Prop} (okW : Wv -> Prop) (GG : Hp -> Hp -> List Addr -> Prop)
    (hK:∀{F H:Hp} {β:List Addr} {om:List Ob} {w:Wv} {x:V} {P:St->Hp->Prop},MOk F H β om->EnvOk F β σ sl->RW F β w x->okW w->(∀σ2,EnvOk F β σ2 (mk w)->P σ2 H)->K x H P) (hwok:∀w∈ws,okW w)
    (hG:∀{F F' H H':Hp} {β β':List Addr} {om:List Ob},MOk F H β om->GG F H β->Gx F F' H H' β β'->GG F' H' β') (hC:∀{F H:Hp} {β:List Addr},GG F H β->C H) (hJ:ItC C J ws F1 β1)
    (hk:∀{us:List Wv} {vs:List V} {om:List Ob} {F H:Hp} {β:List Addr},MOk F H β om->GG F H β->RWs F β us vs->Res E (k us om) F0 H0 β0 P->H D=none->Q (.ref D) (upd H D (.lst vs)))
    (M1:MOk F1 H1 β1 om1) (V0:EnvOk F1 β1 σ sl) (G1:GG F1 H1 β1) (hD:H1 D=none) (hws:ws.length<=lim) (R1:Res E (bnd (Y5 c f mk ws) k om1) F0 H0 β0 P) :
    ∃W:Nat->Nat->List V->Hp->Prop,(∃m,W 0 m [] (upd H1 D (.lst [])))∧∀i m ys H2,W i m ys H2->H2 D=some (.lst ys) ∧
      ((J.stop i H2∧Q (.ref D) H2)∨(J.go i H2∧∀x H',J.yld i H2 x H'->K x H' fun σ2 H6=>tT E0 c σ2 H6 fun b H3=>if b=true then tE E0 f σ2 H3 fun v H4=>H4 D=some (.lst ys)∧ys.length < sizeLine∧∃m',m' < m∧W (i+1) m' (ys++[v]) (upd H4 D (.lst (ys++[v])))
        else ∃m',m' < m∧W (i+1) m' ys H3)):=by
  have hlim:=Uf
  refine ⟨fun i m ys H2=>m=ws.length - i∧i<=ws.length∧ys.length<=i∧∃F β om Hm acc,H2=upd Hm D (.lst ys)∧Hm D=none∧ItC C J ws F β∧GG F Hm β∧MOk F Hm β om∧EnvOk F β σ sl∧RWs F β acc ys∧Res E (bnd (Y5 c f mk (ws.drop i)) (fun xs=>k (acc++xs)) om) F0 H0 β0 P,
    ⟨ws.length,by simp,Nat.zero_le _,Nat.zero_le _,F1,β1,om1,H1,[],rfl,hD,hJ,G1,M1,V0,.nil,R1⟩,?_⟩
  rintro i m ys H2 ⟨rfl,hi,hys,F,β,om,Hm,acc,rfl,hDm,hJ,G,M,V,ra,R⟩
  refine ⟨ZA,?_⟩
  have MU:MOk F (upd Hm D (.lst ys)) β om:=M.newU hDm
  obtain ⟨j1,j2⟩:=hJ F β _ (Gr.refl _ _) MU.sub (hC (hG M G (M.gxU (o:=.lst ys) hDm)))
  by_cases hlt:i < ws.length
  · obtain ⟨go,yl⟩:=j1 i ws[i] (List.getElem?_eq_getElem hlt)
    refine .inr ⟨go,fun x H' hy=>?_⟩
    obtain ⟨rfl,rx⟩:=yl x H' hy
    rw[List.drop_eq_getElem_cons hlt]at R
    have R:Res E (bnd (bnd (ZS (c (mk ws[i]))) (kOne (Y5 c f mk (ws.drop (i+1))) (f (mk ws[i])))) (fun xs=>k (acc++xs)) om) F0 H0 β0 P:=R
    rw[W1]at R
    refine hK MU V rx (hwok _ (List.getElem_mem hlt)) fun σ2 V2=>?_
    refine ⟨F,β,om,_,MU,V2,?_⟩
    have R':=R
    unfold bnd ZS at R'
    match hm:c (mk ws[i]) om,R' with
    |none,R'=>exact R'.elim
    |some (.error _,_),R'=>exact R'.elim
    |some (.ok b,om1),R' =>
      clear R
      intro F1 H1 β1 g1 M1
      obtain ⟨e1,g1',M1'⟩:=beside hDm M g1 M1
      have R1:Res E (bnd (kOne (Y5 c f mk (ws.drop (i+1))) (f (mk ws[i])) b) (fun xs=>k (acc++xs)) om1) F0 H0 β0 P:=R'
      have G1:=hG M G g1'
      cases b with
      |false =>
        rw[if_neg Bool.false_ne_true]
        refine ⟨ws.length - (i+1),by omega,rfl,hlt,by omega,F1,β1,om1,wo H1 D,acc,(Qo e1).symm,QK,hJ.mono g1.toGr,G1,M1',V.mono g1.toGr,ra.mono g1.toGr,R1⟩
      |true =>
        rw[if_pos rfl]
        have R2:Res E (bnd (bnd (ZS (f (mk ws[i]))) fun x=>bnd (Y5 c f mk (ws.drop (i+1))) fun xs=>ret (x::xs)) (fun xs=>k (acc++xs)) om1) F0 H0 β0 P:=R1
        rw[W1]at R2
        refine ⟨F1,β1,om1,_,M1,V2.mono g1.toGr,?_⟩
        unfold bnd ZS at R2
        match hm2:f (mk ws[i]) om1,R2 with
        |none,R2=>exact R2.elim
        |some (.error _,_),R2=>exact R2.elim
        |some (.ok y,om2),R2 =>
          intro F2 H2 β2 g2 M2 v rv
          obtain ⟨e2,g2',M2'⟩:=beside (Hm:=wo H1 D) (ys:=ys) QK M1' (by rw[Qo e1]; exact g2) M2
          have R3:Res E (bnd (bnd (Y5 c f mk (ws.drop (i+1))) fun xs=>ret (y::xs)) (fun xs=>k (acc++xs)) om2) F0 H0 β0 P:=R2
          rw[W1]at R3
          have R3:Res E (bnd (Y5 c f mk (ws.drop (i+1))) (fun xs=>k ((acc++[y])++xs)) om2) F0 H0 β0 P:=by
            have e:(fun xs=>k ((acc++[y])++xs))=fun xs=>k (acc++y::xs):=by funext xs; rw[List.append_assoc]; rfl
            rw[e]
            exact R3
          have ra2:RWs F2 β2 (acc++[y]) (ys++[v]):=(ra.mono (g1.trans g2).toGr).append (.cons rv .nil)
          refine ⟨e2,by omega,ws.length - (i+1),by omega,rfl,hlt,by rw[List.length_append,List.length_singleton]; omega,F2,β2,om2,wo H2 D,acc++[y],?_,QK,hJ.mono (g1.trans g2).toGr,hG M1' G1 g2',M2',V.mono (g1.trans g2).toGr,ra2,R3⟩
          rw[← Qo e2,upd_upd,Qo e2]
  · have e:i=ws.length:=by omega
    subst e
    rw[List.drop_length]at R
    have R:Res E (k (acc++[]) om) F0 H0 β0 P:=R
    rw[List.append_nil]at R
    exact .inl ⟨j2 _ (Nat.le_refl _),hk M G ra R hDm⟩
theorem comp_go {fi:FI} (hk:U4 E k) {σ:St} {H:Hp} {Q:VK} (h:tE E (Yh k js fi c f) σ H Q):tComp (tI E fi) js (fun _ _ _ _=>tT E0 c) (fun _ _ _ _=>tE E0 f) σ H Q:=by
 obtain ⟨F,β,om,sl,M,V,R⟩:=h
 refine ⟨F,β,om,sl,M,V,R.bind fun ws om1 F1 H1 β1 g1 M1 R1 J hJ D hD _ _ _ _=>?_⟩
 obtain ⟨hws,R1⟩:=Res.chk R1
 exact Vb (C:=fun _=>True) (mk:=fun w=>YR js w sl) (K:=fun x H' P=>P (YI js (some x) σ) H') (fun _=>True) (fun F H β=>Gx F1 F H1 H β1 β) (fun _ V r _ h=>h _ (V.comp js r)) (fun _ _=>True.intro) (fun _ a b=>a.trans b) (fun _=>True.intro) hJ (fun M' G' rs R' hD'=>(hk M' rs (Res.mono G' R')).2 hD') M1 (V.mono g1.toGr) (Gx.refl _ _ _) hD (of_decide_eq_true hws) R1
def parts:Wv->List Wv
 |.tup ws=>ws
 |_=>[]
def tupN (n:Nat):Wv->Bool
 |.tup ws=>decide (ws.length=n)
 |_=>false
def compSlT (js:List Nat) (w:Wv) (sl:Sl):Sl:=(parts w).map some++js.map fun j=>(sl[j]?).join
def Qv (k:List Wv->Mw Wv) (n:Nat) (js:List Nat) (fi:FI) (c:FT) (f:FE):FE:=fun sl=>bnd (fi sl) fun ws=>bnd (chk (decide (ws.length<=lim)&&ws.all (tupN n))) fun _=>bnd (Y5 c f (fun w=>compSlT js w sl) ws) k
abbrev gNs:List Nat->TGs
 |[]=>gNil
 |i::is=>gCons (gName i) (gNs is)
theorem SM {H:Hp} {Q:St->Hp->Prop}:∀(k s:Nat) (pre vs0 cap:St) (vs:List V),pre.length=s->vs0.length=k->vs.length=k->Q (pre++vs.map some++cap) H->gNs (List.range' s k) vs (pre++vs0++cap) H Q
 |0,s,pre,[],cap,[],_,_,_,q=>⟨rfl,q⟩
 |k+1,s,pre,a::vs0,cap,v::vs,hp,h0,hv,q=>by
  refine ⟨v,vs,rfl,?_⟩
  have e:(pre++a::vs0++cap).set s (some v)=(pre++[some v])++vs0++cap:=by
   rw[List.append_assoc,List.set_append_right _ _ (by omega),show s - pre.length=0 by omega]
   simp
  show gNs (List.range' (s+1) k) vs ((pre++a::vs0++cap).set s (some v)) H Q
  rw[e]
  refine SM k (s+1) _ vs0 cap vs (by simp[hp]) (by simpa using h0) (by simpa using hv) ?_
  have e2:pre++[some v]++vs.map some++cap=pre++(v::vs).map some++cap:=by simp
  rw[e2]
  exact q
 |0,_,_,_::_,_,_,_,h0,_,_=>by cases h0
 |0,_,_,[],_,_::_,_,_,hv,_=>by cases hv
 |k+1,_,_,[],_,_,_,h0,_,_=>by cases h0
 |k+1,_,_,_::_,_,[],_,_,hv,_=>by cases hv
theorem EnvOk.compT {F:Hp} {β:List Addr} {σ:St} {sl:Sl} {ws:List Wv} {vs:List V} (V:EnvOk F β σ sl) (js:List Nat) (r:RWs F β ws vs):EnvOk F β (vs.map some++VB js σ) (ws.map some++js.map fun j=>(sl[j]?).join):=by
 refine ⟨by simp[VB,r.length],fun i u e=>?_⟩
 by_cases hi:i < ws.length
 ·rw[List.getElem?_append_left (by simpa using hi),List.getElem?_map]at e
  match hw:ws[i]?,e with
  |none,e=>exact nomatch e
  |some w,e =>
   have e:some (some w)=some (some u):=e
   cases e
   obtain ⟨v,ev,rv⟩:=r.get hw
   refine ⟨v,?_,rv⟩
   rw[List.getElem?_append_left (by rw[List.length_map,← r.length]; exact hi),List.getElem?_map,ev]
   rfl
 ·have hl:=r.length
  rw[List.getElem?_append_right (by simpa using hi),List.length_map,List.getElem?_map]at e
  match hj:js[i - ws.length]?,e with
  |none,e=>exact nomatch e
  |some j,e =>
   have e:some (sl[j]?).join=some (some u):=e
   have e2:sl[j]?=some (some u):=by
    cases q:sl[j]? with
    |none=>rw[q]at e; cases e
    |some o =>
     rw[q]at e
     have e:some o=some (some u):=e
     cases e
     rfl
   obtain ⟨v',h1,h2⟩:=V.get j u e2
   refine ⟨v',?_,h2⟩
   rw[List.getElem?_append_right (by rw[List.length_map]; omega),List.length_map,← hl]
   show (js.map fun j=>(σ[j]?).join)[i - ws.length]?=some (some v')
   rw[List.getElem?_map,hj,Option.map_some,h1]
   rfl
theorem compT_go {Kf:PySem.W.Frag} {fi:FI} {n:Nat} (hk:U4 E k) {σ:St} {H:Hp} {Q:VK} (h:tE E (Qv k n js fi c f) σ H Q):tCompT (tI E fi) n (gTup Kf n (gNs (List.range' 0 n))) js (fun _ _ _ _=>tT E0 c) (fun _ _ _ _=>tE E0 f) σ H Q:=by
 obtain ⟨F,β,om,sl,M,V,R⟩:=h
 refine ⟨F,β,om,sl,M,V,R.bind fun ws om1 F1 H1 β1 g1 M1 R1 J hJ D hD _ _ _ _=>?_⟩
 obtain ⟨hws,R1⟩:=Res.chk R1
 obtain ⟨hw1,hw2⟩:=Bool.and_eq_true_iff.mp hws
 refine Vb (C:=fun _=>True) (mk:=fun w=>compSlT js w sl) (K:=fun x H' P=>∀vs:St,vs.length=n->gTup Kf n (gNs (List.range' 0 n)) x (vs++VB js σ) H' fun σ2 H6=>(∃vs2:St,vs2.length=n∧σ2=vs2++VB js σ)∧P σ2 H6) (fun w=>tupN n w=true) (fun F H β=>Gx F1 F H1 H β1 β) ?_ (fun w hw=>List.all_eq_true.mp hw2 w hw) (fun _ a b=>a.trans b) (fun _=>True.intro) hJ (fun M' G' rs R' hD'=>(hk M' rs (Res.mono G' R')).2 hD') M1 (V.mono g1.toGr) (Gx.refl _ _ _) hD (of_decide_eq_true hw1) R1
 intro F2 H2 β2 om2 w x P M2 V2 rw2 hn hP vs hvs
 cases rw2 with
 |@tup a xs us q rs =>
  have hn:us.length=n:=of_decide_eq_true hn
  have hl:=rs.length
  refine ⟨a,xs,rfl,SqT.of (M2.sub _ _ q),by omega,?_⟩
  refine SM n 0 [] vs (VB js σ) xs rfl hvs (by omega) ⟨⟨xs.map some,by rw[List.length_map]; omega,by simp⟩,hP _ ?_⟩
  exact V2.compT js rs
 |_=>cases hn
def Vw:Key->Wv
 |.inl i=>.int i
 |.inr x=>.str x
def kFrz (d:Wv):Mw (Bool × Nat × List Wv):=fun om=>match d with
 |.o h=>match om[h]? with
  |some (.dk kvs)=>if kvs.length<=lim then some (.ok (true,h,kvs.map fun p=>Vw p.1),om.set h (.dz kvs)) else none
  |some (.dz kvs)=>if kvs.length<=lim then some (.ok (false,h,kvs.map fun p=>Vw p.1),om) else none
  |_=>none
 |_=>none
def kThw (b:Bool) (h:Nat):Mw Unit:=fun om=>if b=true then (match om[h]? with
 |some (.dz kvs)=>some (.ok (),om.set h (.dk kvs))
 |_=>none) else some (.ok (),om)
def XO (k:List Wv->Mw Wv) (js:List Nat) (fd:FE) (c:FT) (f:FE):FE:=fun sl=>bnd (fd sl) fun d=>bnd (kFrz d) fun p=>bnd (Y5 c f (fun w=>YR js w sl) p.2.2) fun xs=>bnd (kThw p.1 p.2.1) fun _=>k xs
theorem QF {F:Hp} {β:List Addr} {d:Addr} {ob:Obj} {kvs:List (Key × Wv)} {ks:List (Key × V)} (rs:RK F β kvs ks):ItC (fun H=>H d=some (.frz ob (.dK ks))) (Itd d ob ks) (kvs.map fun p=>Vw p.1) F β:=fun F' β' H g s hc=>by
 have hl:=rs.length
 have key:∀{ps:List (Key × Wv)} {qs:List (Key × V)},RK F β ps qs->∀(i:Nat) p,qs[i]?=some p->(ps.map fun p=>Vw p.1)[i]?=some (Vw p.1):=by
  intro ps qs r
  induction r with
  |nil=>intro i p e; simp at e
  |cons h r ih =>
   intro i p e
   cases i with
   |zero=>simp at e; subst e; rfl
   |succ i=>simpa using ih i p (by simpa using e)
 refine ⟨fun i w e=>?_,fun i hi=>⟨hc,by rw[List.length_map]at hi; omega⟩⟩
 have hi:i < ks.length:=by have:=(List.getElem?_eq_some_iff.mp e).1; rw[List.length_map]at this; omega
 refine ⟨⟨hc,hi⟩,fun x H' ⟨e1,p,e2,e3⟩=>⟨e1,?_⟩⟩
 have:=key rs i p e2
 rw[e]at this
 cases this
 subst e3
 obtain ⟨k',v⟩:=p
 cases k' with
 |inl n=>exact .int n
 |inr y=>exact .str y
theorem Gx.unfrz {F F' H H':Hp} {β β':List Addr} {d:Addr} {u:HO} {ob:Obj} {om:List Ob} {h:Nat} (hb:β[h]?=some d) (M:MOk F H β om) (hz:H d=some (.frz ob u)) (hu:∀o w,u≠.frz o w) (g:Gx F F' H H' β β'):Gx F F' (upd H d u) (upd H' d u) β β':=by
 have nd:∀b,b ∉ β->b≠d:=fun b n z=>n (z ▸ List.mem_of_getElem? hb)
 refine ⟨g.toGr,fun b o e n=>?_,fun b e=>?_,fun b m=>?_,fun b o e=>?_,fun b o w e=>?_⟩
 ·rw[Zp (nd b n)]at e ⊢; exact g.keep b o e n
 ·by_cases z:b=d
  ·rw[z,ZA]at e; cases e
  ·rw[Zp z]at e ⊢; exact g.there b e
 ·by_cases z:b=d
  ·rw[z]; exact .inl (List.mem_of_getElem? hb)
  ·rw[Zp z]; exact g.new b m
 ·by_cases z:b=d
  ·rcases g.fnew b o e with q|q
   ·exact .inl q
   ·rw[z,hz]at q; cases q
  ·rw[Zp z]; exact g.fnew b o e
 ·by_cases z:b=d
  ·rw[z,ZA]at e; cases e; exact absurd rfl (hu o w)
  ·rw[Zp z]at e ⊢; exact g.frz b o w e
def Held (h:Nat) (d:Addr) (ob:Obj) (ks:List (Key × V)) (F1 H1:Hp) (β1:List Addr):Hp->Hp->List Addr->Prop:=fun F H β=>β[h]?=some d∧H d=some (.frz ob (.dK ks))∧Gx F1 F H1 (upd H d (.dK ks)) β1 β
theorem Held.go {h:Nat} {d:Addr} {ob:Obj} {ks:List (Key × V)} {F1 H1 F F' H H':Hp} {β1 β β':List Addr} {om:List Ob} (M:MOk F H β om) (G:Held h d ob ks F1 H1 β1 F H β) (g:Gx F F' H H' β β'):Held h d ob ks F1 H1 β1 F' H' β' :=
 ⟨g.pre h d G.1,g.frz d _ _ G.2.1,G.2.2.trans (g.unfrz G.1 M G.2.1 (fun _ _ z=>by cases z))⟩
theorem Held.start {h:Nat} {d:Addr} {ob:Obj} {ks:List (Key × V)} {F1 H1:Hp} {β1:List Addr} (eb:β1[h]?=some d) (hks:H1 d=some (.dK ks)):Held h d ob ks F1 H1 β1 F1 (upd H1 d (.frz ob (.dK ks))) β1:=by
 have back:upd (upd H1 d (.frz ob (.dK ks))) d (.dK ks)=H1:=by
  rw[upd_upd]
  funext b
  by_cases z:b=d
  ·rw[z,ZA,hks]
  ·rw[Zp z]
 exact ⟨eb,ZA,by rw[back]; exact Gx.refl _ _ _⟩
theorem Held.thw {γ : Type} {k : Unit -> Mw γ} {h : Nat} {d : Addr} {ob : Obj} {ks : List (Key × V)} {F1 H1 F H : Hp} {β1 β : List Addr} {om : List Ob} {P : γ -> Hp -> Hp -> List Addr -> Prop} (M : MOk F H β om) (G : Held h d ob ks F1 H1 β1 F H β) (R : Res E (bnd (kThw true h) k om) F1 H1 β1 P) :
    ∃kvs,MOk F (upd H d (.dK ks)) β (om.set h (.dk kvs))∧Res E (k () (om.set h (.dk kvs))) F1 H1 β1 P:=by
  obtain ⟨hb',hz',gg⟩:=G
  unfold bnd kThw at R
  rw[if_pos rfl]at R
  match hy:om[h]?,R with
  |none,R=>exact R.elim
  |some (.ins _ _),R=>exact R.elim
  |some (.exc _),R=>exact R.elim
  |some (.lst _),R=>exact R.elim
  |some (.dt _),R=>exact R.elim
  |some (.dk _),R=>exact R.elim
  |some (.dz kvs'),R =>
    obtain ⟨a',ea,_,ob',ks',hks',rs'⟩:=M.at hy
    rw[hb']at ea; cases ea
    rw[hz']at hks'
    cases hks'
    exact ⟨kvs',M.put hb' ⟨ks,ZA,rs'⟩,R⟩
theorem Res.frz {γ : Type} {k : Bool × Nat × List Wv -> Mw γ} {F H : Hp} {β : List Addr} {om : List Ob} {w : Wv} {v : V} {P : γ -> Hp -> Hp -> List Addr -> Prop} (M : MOk F H β om) (r : RW F β w v) (R : Res E (bnd (kFrz w) k om) F H β P) :
    ∃h d ks kvs,v=.ref d∧β[h]?=some d∧RK F β kvs ks∧kvs.length<=lim∧((H d=some (.dK ks)∧(∀ob,MOk F (upd H d (.frz ob (.dK ks))) β (om.set h (.dz kvs)))∧Res E (k (true,h,kvs.map fun p=>Vw p.1) (om.set h (.dz kvs))) F H β P)∨∃ob,H d=some (.frz ob (.dK ks))∧Res E (k (false,h,kvs.map fun p=>Vw p.1) om) F H β P):=by
  cases r with
  |@o h d eb =>
    unfold bnd kFrz at R
    dsimp only at R
    match hx:om[h]?,R with
    |none,R=>exact R.elim
    |some (.ins _ _),R=>exact R.elim
    |some (.exc _),R=>exact R.elim
    |some (.lst _),R=>exact R.elim
    |some (.dt _),R=>exact R.elim
    |some (.dk kvs),R =>
      obtain ⟨a',ea,hF,ks,hks,rs⟩:=M.at hx
      have eb2:=ea
      rw[eb]at ea; cases ea
      dsimp only at R
      by_cases hlen:kvs.length<=lim
      · rw[if_pos hlen]at R
        exact ⟨h,d,ks,kvs,rfl,eb2,rs,hlen,.inl ⟨hks,fun ob=>M.put eb2 ⟨ob,ks,ZA,rs⟩,R⟩⟩
      · rw[if_neg hlen]at R; exact R.elim
    |some (.dz kvs),R =>
      obtain ⟨a',ea,hF,ob,ks,hks,rs⟩:=M.at hx
      have eb2:=ea
      rw[eb]at ea; cases ea
      dsimp only at R
      by_cases hlen:kvs.length<=lim
      · rw[if_pos hlen]at R
        exact ⟨h,d,ks,kvs,rfl,eb2,rs,hlen,.inr ⟨ob,hks,R⟩⟩
      · rw[if_neg hlen]at R; exact R.elim
  |_=>exact R.elim
theorem QX {X:Cx} {fd:FE} (hk:U4 E k) {σ:St} {H:Hp} {Q:VK} (h:tE E (XO k js fd c f) σ H Q):tComp (iDict X (tE E fd)) js (fun _ _ _ _=>tT E0 c) (fun _ _ _ _=>tE E0 f) σ H (fun v=>Thawed X (Q v)):=by
 obtain ⟨F,β,om,sl,M,V,R⟩:=h
 refine ⟨F,β,om,sl,M,V,R.bind fun w om1 F1 H1 β1 g1 M1 R1 v rv=>?_⟩
 obtain ⟨h,d,ks,kvs,rfl,eb,rs,hlen,R1⟩:=R1.frz M1 rv
 rcases R1 with ⟨hks,Mz,R2⟩|⟨ob,hks,R2⟩
 ·refine ⟨d,ks,rfl,.inl ⟨hks,fun ob nf D hD _ _ _ _=>?_⟩⟩
  refine Vb (C:=fun H=>H d=some (.frz ob (.dK ks))) (Q:=fun v=>Thawed X (Q v)) (mk:=fun w=>YR js w sl) (K:=fun x H' P=>P (YI js (some x) σ) H') (fun _=>True) (Held h d ob ks F1 H1 β1) (fun _ V r _ h=>h _ (V.comp js r)) (fun _ _=>True.intro)
   (fun M' G' g'=>Held.go M' G' g') (fun G'=>G'.2.1) (QF rs) ?_ (Mz ob) (V.mono g1.toGr) (Held.start eb hks) hD (by rw[List.length_map]; exact hlen) R2
  intro us vs om' F' H' β' M' G' ra R' hD'
  have hz':=G'.2.1
  obtain ⟨kvs',Mt,R'⟩:=Held.thw M' G' R'
  have nDd:D≠d:=fun z=>by rw[z,hz']at hD'; cases hD'
  have q:=(hk (p:=D) Mt ra (Res.mono G'.2.2 R')).2 (by rw[Zp nDd]; exact hD')
  refine .inl ⟨d,ob,ks,nf,by rw[Zp (Ne.symm nDd)]; exact hz',?_⟩
  have e:upd (upd H' D (.lst vs)) d (.dK ks)=upd (upd H' d (.dK ks)) D (.lst vs):=by
   funext b
   by_cases z1:b=d
   ·rw[z1,ZA,Zp (Ne.symm nDd),ZA]
   ·by_cases z2:b=D
    ·rw[z2,Zp nDd,ZA,ZA]
    ·rw[Zp z1,Zp z2,Zp z2,Zp z1]
  show Q (.ref D) _
  rw[e]
  exact q
 ·refine ⟨d,ks,rfl,.inr ⟨ob,hks,fun D hD _ _ _ _=>?_⟩⟩
  refine Vb (C:=fun H=>H d=some (.frz ob (.dK ks))) (Q:=fun v=>Thawed X (Q v)) (mk:=fun w=>YR js w sl) (K:=fun x H' P=>P (YI js (some x) σ) H') (fun _=>True) (fun F H β=>Gx F1 F H1 H β1 β) (fun _ V r _ h=>h _ (V.comp js r)) (fun _ _=>True.intro)
   (fun _ a b=>a.trans b) (fun G'=>G'.frz d _ _ hks) (QF rs) ?_ M1 (V.mono g1.toGr) (Gx.refl _ _ _) hD (by rw[List.length_map]; exact hlen) R2
  intro us vs om' F' H' β' M' G' ra R' hD'
  have R':Res E (k us om') F1 H1 β1 (PV Q):=R'
  exact .inr ((hk (p:=D) M' ra (Res.mono G' R')).2 hD')
section
variable {scope:Scope} {cl:List (Str × Addr)} {x:Str} {cn:List Str} {elt iter:Expr} {ifs:List Expr} {px pos:Pos} {fi:FI}
theorem XY (hk : U4 E k) (O : CompOk X scope cl x cn js) (hc : X.calm = true) (hi : PI X (.Name x px) iter (tI E fi)) (ht : ∀ C s₂ H₂ fp,VM (Ye X scope cl x cn C s₂ H₂ fp) ifs (tT E0 c)) (he : ∀ C s₂ H₂ fp,PE (Ye X scope cl x cn C s₂ H₂ fp) elt (tE E0 f))
    (hs:∀v,foldedSetIterable iter X.env v=pure v:=by intro _; rfl):PE X (.ListComp elt [⟨.Name x px,iter,ifs,0⟩] scope pos) (tE E (Yh k js fi c f)):=(pe_comp O hc hi ht he hs).weak fun σ H Q h=>comp_go hk h
theorem qe_compT {xs : List Str} {tg : Expr} (hk : U4 E k) (O : CompOkT X scope cl xs cn js) (hc : X.calm = true) (hg : ∀ C s₂ H₂ fp,PG (Yo X scope cl xs cn C s₂ H₂ fp) tg (gTup X.K xs.length (gNs (List.range' 0 xs.length)))) (hi : PI X tg iter (tI E fi)) (ht : ∀ C s₂ H₂ fp,VM (Yo X scope cl xs cn C s₂ H₂ fp) ifs (tT E0 c)) (he : ∀ C s₂ H₂ fp,PE (Yo X scope cl xs cn C s₂ H₂ fp) elt (tE E0 f))
    (hs:∀v,foldedSetIterable iter X.env v=pure v:=by intro _; rfl):PE X (.ListComp elt [⟨tg,iter,ifs,0⟩] scope pos) (tE E (Qv k xs.length js fi c f)):=(pe_compT O hc hg hi ht he hs).weak fun σ H Q h=>compT_go hk h
theorem qe_compD {fd : FE} (hk : U4 E k) (O : CompOk X scope cl x cn js) (hc : X.calm = true) (hd : PE X iter (tE E fd)) (ht : ∀ C s₂ H₂ fp,VM (Ye X scope cl x cn C s₂ H₂ fp) ifs (tT E0 c)) (he : ∀ C s₂ H₂ fp,PE (Ye X scope cl x cn C s₂ H₂ fp) elt (tE E0 f))
    (hs:∀v,foldedSetIterable iter X.env v=pure v:=by intro _; rfl):PE X (.ListComp elt [⟨.Name x px,iter,ifs,0⟩] scope pos) (tE E (XO k js fd c f)):=(pe_thaw (pe_comp O hc (Qj hd) ht he hs)).weak fun σ H Q h=>QX hk h
theorem Vx {j : Nat} {y : Str} {py spos : Pos} (hk : U4 E k) (O : CompOk X scope cl x cn js) (hc : X.calm = true) (hi : PI X (.Name x px) iter (tI E fi)) (ht : ∀ C s₂ H₂ fp,VM (Ye X scope cl x cn C s₂ H₂ fp) ifs (tT E0 c)) (he : ∀ C s₂ H₂ fp,PE (Ye X scope cl x cn C s₂ H₂ fp) elt (tE E0 f))
    (hN:X.N.Nodup) (hj:X.N[j]?=some y) (hy:Loc X.env.scope y) (hsw:swapsWith (.ListComp elt [⟨.Name x px,iter,ifs,0⟩] scope pos) (some (.Name y py)) spos.line X.env=pure true)
    (hs:∀v,foldedSetIterable iter X.env v=pure v:=by intro _; rfl) (hf:X.fn y=true∨X.env.scope.names.lookup y=some .local:=by first|exact .inl rfl|exact .inr rfl) :
    PS X (.Assign [.Name y py] (.ListComp elt [⟨.Name x px,iter,ifs,0⟩] scope pos) spos) (tS E (ZU j (Yh k js fi c f))):=(TU O hc hi ht he hN hj hy hsw hs hf).weak fun D σ H ⟨F,β,om,sl,M,V,R⟩=>by
  refine comp_go hk ⟨F,β,om,sl,M,V,R.bind fun w om1 F1 H1 β1 g1 M1 R1 v rv=>?_⟩
  exact (show Res E (ret (Fl.nx,sl.set j (some w)) om1) F1 H1 β1 (FlP D) from R1).now M1 _ ((V.mono g1.toGr).set j rv)
theorem qs_setCompD {j : Nat} {y : Str} {py spos : Pos} {fd : FE} (hk : U4 E k) (O : CompOk X scope cl x cn js) (hc : X.calm = true) (hd : PE X iter (tE E fd)) (ht : ∀ C s₂ H₂ fp,VM (Ye X scope cl x cn C s₂ H₂ fp) ifs (tT E0 c)) (he : ∀ C s₂ H₂ fp,PE (Ye X scope cl x cn C s₂ H₂ fp) elt (tE E0 f))
    (hN:X.N.Nodup) (hj:X.N[j]?=some y) (hy:Loc X.env.scope y) (hsw:swapsWith (.ListComp elt [⟨.Name x px,iter,ifs,0⟩] scope pos) (some (.Name y py)) spos.line X.env=pure true)
    (hs:∀v,foldedSetIterable iter X.env v=pure v:=by intro _; rfl) (hf:X.fn y=true∨X.env.scope.names.lookup y=some .local:=by first|exact .inl rfl|exact .inr rfl) :
    PS X (.Assign [.Name y py] (.ListComp elt [⟨.Name x px,iter,ifs,0⟩] scope pos) spos) (tS E (ZU j (XO k js fd c f))):=(ps_thaw (TU O hc (Qj hd) ht he hN hj hy hsw hs hf)).weak fun D σ H ⟨F,β,om,sl,M,V,R⟩=>by
  refine QX (Q:=fun v H1=>D.nx (σ.set j (some v)) H1) hk ⟨F,β,om,sl,M,V,R.bind fun w om1 F1 H1 β1 g1 M1 R1 v rv=>?_⟩
  exact (show Res E (ret (Fl.nx,sl.set j (some w)) om1) F1 H1 β1 (FlP D) from R1).now M1 _ ((V.mono g1.toGr).set j rv)
end
end
theorem calmly_bnd {α γ:Type} (m:Mw α) (k:α->Mw γ):ZS (bnd m k)=bnd (ZS m) fun x=>ZS (k x):=by
 funext om
 match h:m om with
 |none=>simp[bnd,ZS,h]
 |some (.ok a,om')=>simp[bnd,ZS,h]
 |some (.error c,om')=>simp[bnd,ZS,h]
def sForD (fd:FE) (T:TgW) (S:FS):FS:=fun sl=>bnd (fd sl) fun d=>bnd (kFrz d) fun p=>bnd (ZS (We T S p.2.2 sl)) fun r=>bnd (kThw p.1 p.2.1) fun _=>ret r
section
variable {X:Cx} {E:XK} {tg iter:Expr} {body:List Stmt} {fd:FE} {T:TgW} {g:TG} {S:FS} {pos:Pos}
theorem Pv {D : Ends} {C : Hp -> Prop} {J : It} {ws : List Wv} {σ : St} {H F F0 H0 : Hp} {β β0 : List Addr} {om : List Ob} {sl : Sl} {P : Fl × Sl -> Hp -> Hp -> List Addr -> Prop} {kf : Fl × Sl -> Mw (Fl × Sl)} (GG : Hp -> Hp -> List Addr -> Prop)
    (hG:∀{F F' H H':Hp} {β β':List Addr} {om:List Ob},MOk F H β om->GG F H β->Gx F F' H H' β β'->GG F' H' β') (hC:∀{F H:Hp} {β:List Addr},GG F H β->C H) (ht:TgOk g T) (hJ:ItC C J ws F β)
    (hk:∀{y:Fl × Sl} {om:List Ob} {F H:Hp} {β:List Addr},MOk F H β om->GG F H β->Res E (kf y om) F0 H0 β0 P->FlP D y F H β)
    (M:MOk F H β om) (V:EnvOk F β σ sl) (G:GG F H β) (R:Res E (bnd (ZS (We T S ws sl)) kf om) F0 H0 β0 P) :
    ∃W:Nat->Nat->St->Hp->Prop,(∃m,W 0 m σ H)∧∀i m σ H,W i m σ H ->
      (J.stop i H∧D.nx σ H)∨(J.go i H∧∃N:St->Hp->Prop,(∀σ' H',N σ' H'->∃m',m' < m∧W (i+1) m' σ' H')∧∀x H',J.yld i H x H'->g x σ H' fun σ2 H2=>tS E S { D with nx:=N,ct:=N,bk:=D.nx } σ2 H2):=by
  refine ⟨fun i m σ H=>m=ws.length - i∧i<=ws.length∧∃F β om sl,ItC C J ws F β∧GG F H β∧MOk F H β om∧EnvOk F β σ sl∧Res E (bnd (ZS (We T S (ws.drop i) sl)) kf om) F0 H0 β0 P,⟨ws.length,by simp,Nat.zero_le _,F,β,om,sl,hJ,G,M,V,R⟩,?_⟩
  rintro i m σ H ⟨rfl,hi,F,β,om,sl,hJ,G,M,V,R⟩
  obtain ⟨j1,j2⟩:=hJ F β H (Gr.refl _ _) M.sub (hC G)
  by_cases hlt:i < ws.length
  · obtain ⟨go,yl⟩:=j1 i ws[i] (List.getElem?_eq_getElem hlt)
    refine .inr ⟨go,fun σ' H'=>i+1<=ws.length∧∃F β om sl,ItC C J ws F β∧GG F H' β∧MOk F H' β om∧EnvOk F β σ' sl∧Res E (bnd (ZS (We T S (ws.drop (i+1)) sl)) kf om) F0 H0 β0 P,fun σ' H' ⟨h1,h2⟩=>⟨ws.length - (i+1),by omega,rfl,h1,h2⟩,fun x H' hy=>?_⟩
    obtain ⟨rfl,rx⟩:=yl x H' hy
    rw[List.drop_eq_getElem_cons hlt]at R
    have R:Res E (bnd (ZS (match T ws[i] sl with|none=>Y1|some sl1=>bnd (S sl1) (U9 fun sl2=>We T S (ws.drop (i+1)) sl2))) kf om) F0 H0 β0 P:=R
    match hT:T ws[i] sl,R with
    |none,R=>exact R.elim
    |some sl1,R =>
      refine ht M V rx hT fun σ2 V2=>?_
      refine ⟨F,β,om,sl1,M,V2,?_⟩
      dsimp only at R
      rw[calmly_bnd,W1]at R
      have R':=R
      unfold bnd ZS at R'
      match hm:S sl1 om,R' with
      |none,R'=>exact R'.elim
      |some (.error _,_),R'=>exact R'.elim
      |some (.ok y,om1),R' =>
        have R1:Res E (bnd (ZS (U9 (fun sl2=>We T S (ws.drop (i+1)) sl2) y)) kf om1) F0 H0 β0 P:=R'
        intro F1 H1 β1 g1 M1
        have G1:=hG M G g1
        obtain ⟨fl,sl2⟩:=y
        cases fl with
        |nx=>exact fun σ' V'=>⟨hlt,F1,β1,om1,sl2,hJ.mono g1.toGr,G1,M1,V',R1⟩
        |ct=>exact fun σ' V'=>⟨hlt,F1,β1,om1,sl2,hJ.mono g1.toGr,G1,M1,V',R1⟩
        |bk=>exact hk (y:=(.nx,sl2)) M1 G1 R1
        |rt w=>exact hk (y:=(.rt w,sl2)) M1 G1 R1
  · have e:i=ws.length:=by omega
    subst e
    rw[List.drop_length]at R
    exact .inl ⟨j2 _ (Nat.le_refl _),hk (y:=(.nx,sl)) M G (show Res E (kf (.nx,sl) om) F0 H0 β0 P from R) σ V⟩
theorem qs_forD (hp:PassesOwn (model X.prog X.w) X.A X.env X.xe) (hc:X.calm=true) (hi:PE X iter (tE E fd)) (hg:PG X tg g) (ht:TgOk g T) (hb:PSs X body (tS E S)) (hs:∀x,foldedSetIterable iter X.env x=pure x:=by intro _; rfl):PS X (.For tg iter body [] pos) (tS E (sForD fd T S)):=(ps_thaw (ps_for hp hc (Qj hi) hg hb hs)).weak fun D σ H ⟨F,β,om,sl,M,V,R⟩=>by
 refine ⟨F,β,om,sl,M,V,R.bind fun w om1 F1 H1 β1 g1 M1 R1 v rv=>?_⟩
 obtain ⟨h,d,ks,kvs,rfl,eb,rs,hlen,R1⟩:=R1.frz M1 rv
 rcases R1 with ⟨hks,Mz,R2⟩|⟨ob,hks,R2⟩
 ·refine ⟨d,ks,rfl,.inl ⟨hks,fun ob nf=>?_⟩⟩
  refine Pv (D:=EndsT X D) (C:=fun H=>H d=some (.frz ob (.dK ks))) (Held h d ob ks F1 H1 β1) (fun M' G' g'=>Held.go M' G' g') (fun G'=>G'.2.1) ht (QF rs) ?_ (Mz ob) (V.mono g1.toGr) (Held.start eb hks) R2
  intro y om' F' H' β' M' G' R'
  have hz':=G'.2.1
  obtain ⟨kvs',Mt,R'⟩:=Held.thw M' G' R'
  have q:FlP D y F' (upd H' d (.dK ks)) β':=(show Res E (some (Except.ok y,om'.set h (.dk kvs'))) F1 H1 β1 (FlP D) from R') F' _ β' G'.2.2 Mt
  obtain ⟨fl,sl2⟩:=y
  cases fl with
  |nx=>exact fun σ' V'=>.inl ⟨d,ob,ks,nf,hz',q σ' V'⟩
  |bk=>exact fun σ' V'=>.inl ⟨d,ob,ks,nf,hz',q σ' V'⟩
  |ct=>exact fun σ' V'=>.inl ⟨d,ob,ks,nf,hz',q σ' V'⟩
  |rt w=>exact fun v r=>.inl ⟨d,ob,ks,nf,hz',q v r⟩
 ·refine ⟨d,ks,rfl,.inr ⟨ob,hks,?_⟩⟩
  refine Pv (D:=EndsT X D) (C:=fun H=>H d=some (.frz ob (.dK ks))) (fun F H β=>Gx F1 F H1 H β1 β) (fun _ a b=>a.trans b) (fun G'=>G'.frz d _ _ hks) ht (QF rs) ?_ M1 (V.mono g1.toGr) (Gx.refl _ _ _) R2
  intro y om' F' H' β' M' G' R'
  have q:FlP D y F' H' β':=(show Res E (some (Except.ok y,om')) F1 H1 β1 (FlP D) from R') F' H' β' G' M'
  obtain ⟨fl,sl2⟩:=y
  cases fl with
  |nx=>exact fun σ' V'=>.inr (q σ' V')
  |bk=>exact fun σ' V'=>.inr (q σ' V')
  |ct=>exact fun σ' V'=>.inr (q σ' V')
  |rt w=>exact fun v r=>.inr (q v r)
end
def kWh (again:Sl->Mw (Fl × Sl)) (S:FS) (sl:Sl) (b:Bool):Mw (Fl × Sl):=if b=true then bnd (S sl) (U9 again) else ret (.nx,sl)
def X7 (c:FT) (S:FS):Nat->FS
 |0,_=>Y1
 |n+1,sl=>bnd (c sl) (kWh (fun sl2=>X7 c S n sl2) S sl)
section
variable {X:Cx} {E:XK} {t:Expr} {body:List Stmt} {c:FT} {S:FS} {pos:Pos}
theorem qs_while (n:Nat) (hp:PassesOwn (model X.prog X.w) X.A X.env X.xe) (hc:PT X t (tT E c)) (hb:PSs X body (tS E S)):PS X (.While t body [] pos) (tS E (X7 c S n)):=(ps_while hp hc hb).weak fun D σ H ⟨F,β,om,sl,M,V,R⟩=>by
 refine ⟨fun m σ H=>∃F β om sl,MOk F H β om∧EnvOk F β σ sl∧Res E (X7 c S m sl om) F H β (FlP D),⟨n,F,β,om,sl,M,V,R⟩,?_⟩
 rintro m σ H ⟨F,β,om,sl,M,V,R⟩
 cases m with
 |zero=>exact R.elim
 |succ m =>
  refine ⟨F,β,om,sl,M,V,Res.bind (m:=c sl) (k:=kWh (fun sl2=>X7 c S m sl2) S sl) R fun b om1 F1 H1 β1 g1 M1 R1=>?_⟩
  cases b with
  |false =>
   rw[if_neg Bool.false_ne_true]
   exact (show Res E (ret (Fl.nx,sl) om1) F1 H1 β1 (FlP D) from R1).now M1 σ (V.mono g1.toGr)
  |true =>
   rw[if_pos rfl]
   refine ⟨fun σ' H'=>∃F β om sl,MOk F H' β om∧EnvOk F β σ' sl∧Res E (X7 c S m sl om) F H' β (FlP D),fun σ' H' h=>⟨m,Nat.lt_succ_self m,h⟩,?_⟩
   refine ⟨F1,β1,om1,sl,M1,V.mono g1.toGr,Res.bind (m:=S sl) (k:=U9 fun sl2=>X7 c S m sl2) R1 fun y om2 F2 H2 β2 g2 M2 R2=>?_⟩
   obtain ⟨fl,sl2⟩:=y
   cases fl with
   |nx=>exact fun σ' V'=>⟨F2,β2,om2,sl2,M2,V',R2⟩
   |ct=>exact fun σ' V'=>⟨F2,β2,om2,sl2,M2,V',R2⟩
   |bk=>exact (show Res E (ret (Fl.nx,sl2) om2) F2 H2 β2 (FlP D) from R2).now M2
   |rt w=>exact (show Res E (ret (Fl.rt w,sl2) om2) F2 H2 β2 (FlP D) from R2).now M2
end
def tM (E:XK) (f:Sl->Mw Unit):TA:=fun σ H Q=>∃F β om sl,MOk F H β om∧EnvOk F β σ sl∧Res E (f sl om) F H β fun _ F' H' β'=>∀vs,Q vs H'
def kFmt:Wv->Mw Unit
 |.int i=>chk (decide (i.natAbs < 1000000000000))
 |_=>Y1
def U6:Sl->Mw Unit:=fun _=>ret ()
def Ug (f:FE) (r:Sl->Mw Unit):Sl->Mw Unit:=fun sl=>bnd (f sl) fun x=>bnd (kFmt x) fun _=>r sl
def Xo (C:Addr) (m:Sl->Mw Unit):FS:=fun sl=>bnd (m sl) fun _=>Rt C
theorem small_log {i:Int} (h:i.natAbs < 1000000000000):i.natAbs.log2 < 1920:=by
 by_cases h0:i.natAbs=0
 ·rw[h0]; decide
 ·exact (Nat.log2_lt h0).mpr (Nat.lt_of_lt_of_le (show i.natAbs < 2 ^ 40 by omega) (Nat.pow_le_pow_right (by decide) (by decide)))
section
variable {X:Cx} {E:XK} {e:Expr} {es:List Expr} {f:FE} {m:Sl->Mw Unit} {pos:Pos}
theorem PJ.weak {n:Nat} {t t':TA} (h:PJ X n es t) (w:∀σ H Q,t' σ H Q->t σ H Q):PJ X n es t':=fun pins s σ H acc Q I hl q=>h pins s σ H acc Q I hl (w σ H _ q)
theorem Vv:PJ X 2000 [] (tM E U6):=pj_nil.weak fun σ H Q ⟨F,β,om,sl,M,V,R⟩=>(show Res E (ret () om) F H β _ from R).now M []
theorem X2 {x:Str} {j p} (hr:PJ X 2000 es (tM E m)) (hx:x.length<=2000:=by decide) (hs:evalEach (.Constant (.str x) j p::es) X.env=eval (.Constant (.str x) j p) X.env::evalEach es X.env:=by rfl):PJ X 2000 (.Constant (.str x) j p::es) (tM E m):=(pj_cons pe_str hr hs).weak fun σ H Q h=>⟨⟨x,rfl,hx⟩,h⟩
theorem WH {p:Pos} (he:PE X e (tE E f)) (hr:PJ X 2000 es (tM E m)) (hs:evalEach (.FormattedValue e (-1) none p::es) X.env=eval (.FormattedValue e (-1) none p) X.env::evalEach es X.env:=by rfl):PJ X 2000 (.FormattedValue e (-1) none p::es) (tM E (Ug f m)):=(pj_cons (pe_fmt he) hr hs).weak fun σ H Q ⟨F,β,om,sl,M,V,R⟩=>by
 refine ⟨F,β,om,sl,M,V,R.bind fun w om1 F1 H1 β1 g1 M1 R1 v rv=>?_⟩
 cases rv with
 |int i =>
  obtain ⟨hc,R2⟩:=Res.chk R1
  have hl:=small_log (of_decide_eq_true hc)
  exact ⟨i,rfl,hl,⟨_,rfl,tFmt_part hl (by decide)⟩,F1,β1,om1,sl,M1,V.mono g1.toGr,R2⟩
 |_=>exact R1.elim
theorem XH {x : Str} {C : Addr} {bmB : List Value} {B newId initId : String} {v₁ v₂ : Expr} {rest : List Expr} {np cpos p2 : Pos} (FB : ExcBaseFacts B newId initId bmB) (q : PySem.W.excIn X.K C bmB newId = true) (hg : Gl X x) (hm : X.mg x = some (.ref C)) (hc : X.calm = true) (hE : Throws X E)
    (h:PJ X 2000 (v₁::v₂::rest) (tM E m)) (hn:2000 * (v₁::v₂::rest).length<=16000000:=by decide)
    (hs:evalEach (v₁::v₂::rest) X.env=eval v₁ X.env::eval v₂ X.env::evalEach rest X.env:=by rfl)
    (he:starEach [.JoinedStr (v₁::v₂::rest) p2] X.env=(false,eval (.JoinedStr (v₁::v₂::rest) p2) X.env)::starEach [] X.env:=by rfl) (hpl:(backTo cpos (starEach [] X.env)).any (·.1)=false:=by rfl) (hdb:(x == ("__debug__":Str))=false:=by decide) :
    PS X (.Raise (some (.Call (.Name x np) [.JoinedStr (v₁::v₂::rest) p2] [] cpos)) none pos) (tS E (Xo C m)):=(ps_raise (E:=E) FB q hg hm hc hE (Wn (pe_join h hn hs) UH he) he hpl hdb).weak fun D σ H ⟨F,β,om,sl,M,V,R⟩=>by
  refine ⟨F,β,om,sl,M,V,R.bind fun w om1 F1 H1 β1 g1 M1 R1 vs z=>⟨by show 1<=sizeLine; decide,?_⟩⟩
  exact (show Res E (Rt C om1) F1 H1 β1 (FlP D) from R1) F1 H1 β1 (Gx.refl _ _ _) M1
end
def QR:Fl × Sl->Mw Wv
 |(.rt w,_)=>ret w
 |(.nx,_)=>ret .non
 |_=>Y1
def Xq (n:Nat) (ws:List Wv):Sl:=ws.map some++List.replicate (n - ws.length) none
def Yj (n:Nat) (S:FS) (ws:List Wv):Mw Wv:=bnd (S (Xq n ws)) QR
theorem EnvOk.start {F:Hp} {β:List Addr} {ws:List Wv} {vs:List V} (N:List Str) (r:RWs F β ws vs):EnvOk F β (L2.start N vs) (Xq N.length ws):=by
 have hl:=r.length
 refine ⟨by simp[L2.start,Xq,hl],fun i w e=>?_⟩
 unfold Xq at e
 unfold L2.start
 by_cases hi:i < ws.length
 ·rw[List.getElem?_append_left (by simpa using hi),List.getElem?_map]at e
  match hw:ws[i]?,e with
  |none,e=>exact nomatch e
  |some u,e =>
   have e:some (some u)=some (some w):=e
   cases e
   obtain ⟨v,ev,rv⟩:=r.get hw
   refine ⟨v,?_,rv⟩
   rw[List.getElem?_append_left (by rw[List.length_map]; omega),List.getElem?_map,ev]
   rfl
 ·rw[List.getElem?_append_right (by simpa using hi)]at e
  have:=List.mem_of_getElem? e
  rw[List.mem_replicate]at this
  exact nomatch this.2
section
variable {P:Program} {w:World} {K:PySem.W.Frag} {mg:Str->Option Value} {base:Heap}
theorem Z3 {x qual : Str} {st : Stmt} {f : Addr} {fd : FuncData} {N ps : List Str} {k : Nat} {S : FS} (F : Fun K x qual st f fd) (Sc : FnScope N ps (Zg st))
    (h:∀(cdv:Value) (A:Around) (outer:List Env) (s:Shared) (H:Hp) (E:XK),Room k (A.deeper (envOfC qual (Zg st) s.heap.objs.size f cdv))->PSs (SG (CXw P w) P w K mg base N qual (Zg st) f cdv A outer s H E) (Zv st) (tS E S)) :
    FnOk P w K mg base (CXw P w) (k+1) f fd ps (spM ps.length (Yj N.length S)):=by
  refine F.okX Sc (fun vs H Q E h=>?_) (fun cdv A outer s H vs Q E hr hsp=>⟨_,h cdv A outer s H E hr,?_⟩)
  · obtain ⟨F,β,om,ws,M,rs,hl,R⟩:=h
    rw[← rs.length,hl]
  · obtain ⟨F,β,om,ws,M,rs,hl,R⟩:=hsp
    refine ⟨F,β,om,_,M,EnvOk.start N rs,Res.bind (m:=S (Xq N.length ws)) (k:=QR) R fun y om1 F1 H1 β1 g1 M1 R1=>?_⟩
    obtain ⟨fl,sl⟩:=y
    cases fl with
    |nx=>exact fun σ' V'=>(show Res E (ret Wv.non om1) F1 H1 β1 (PV Q) from R1).now M1 _ .non
    |bk=>exact R1.elim
    |ct=>exact R1.elim
    |rt u=>exact (show Res E (ret u om1) F1 H1 β1 (PV Q) from R1).now M1
theorem FnOk.as {k n:Nat} {f:Addr} {fd:FuncData} {ps:List Str} {CX:CXT} {g g':List Wv->Mw Wv} (F:FnOk P w K mg base CX k f fd ps (spM n g)) (h:∀ws om,ws.length=n->g' ws om≠none->g ws om=g' ws om):FnOk P w K mg base CX k f fd ps (spM n g') :=
 F.imp fun vs H Q E ⟨F,β,om,ws,M,rs,hl,R⟩=>⟨F,β,om,ws,M,rs,hl,by
  rw[h ws om hl (fun z=>by rw[z]at R; exact R)]
  exact R⟩
end
end
end L2
namespace L2
open PySem PySem.W PyProof.Rows
structure Swo (lt:Nat->Nat->Bool):Prop where
 irr:∀a,lt a a=false
 tr:∀a b c,lt a b=true->lt b c=true->lt a c=true
 neg:∀a b c,lt a c=true->lt a b=true∨lt b c=true
def Hs {α:Type} (lt:Nat->Nat->Bool) (n:Nat) (Q:α->Prop):KasT α->Prop
 |.ret a=>Q a
 |.ask i j k=>i < n∧j < n∧Hs lt n Q (k (lt i j))
theorem Hs.bind {α γ:Type} {lt:Nat->Nat->Bool} {n:Nat} {Q:γ->Prop} {f:α->KasT γ}:∀{t:KasT α},Hs lt n (fun a=>Hs lt n Q (f a)) t->Hs lt n Q (t.bind f)
 |.ret a,h=>h
 |.ask i j k,⟨h1,h2,h3⟩=>⟨h1,h2,Hs.bind h3⟩
theorem Hs.wp {α:Type} {lt:Nat->Nat->Bool} {n:Nat} {Q':α->Prop} {Q:α->Shared->Prop} {cmp:Nat->Nat->(Bool->Shared->Prop)->Shared->Prop} {s:Shared} (hc:∀i j C,i < n->j < n->C (lt i j) s->cmp i j C s) (hq:∀a,Q' a->Q a s):∀{t:KasT α},Hs lt n Q' t->t.kasWp cmp Q s
 |.ret a,h=>hq a h
 |.ask i j k,⟨h1,h2,h3⟩=>hc i j _ h1 h2 (Hs.wp hc hq h3)
def gN (p:Array Nat) (i:Nat):Nat:=p.getD i 0
theorem gN_of {p q:Array Nat} {i j:Nat} (h:p[i]?=q[j]?):gN p i=gN q j:=by
 unfold gN
 rw[Array.getD_eq_getD_getElem?,Array.getD_eq_getD_getElem?,h]
theorem Sr {p:Array Nat} {i j:Nat} (hj:j<=p.size) (k:Nat):gN (kas_rev p i j) k=if i<=k∧k < j then gN p (i+j - 1 - k) else gN p k:=by
 have e:=getElem?_mirror_all (xs:=p) (i:=i) hj k
 unfold kas_rev
 split at e <;> rename_i h
 ·rw[if_pos h]; exact gN_of e
 ·rw[if_neg h]; exact gN_of e
theorem gN_bub {p:Array Nat} {k d:Nat} (hs:k < p.size) (hd:d<=k) (i:Nat):gN (bubble p k d) i=if i=k - d then gN p k else if k - d < i∧i<=k then gN p (i - 1) else gN p i:=by
 have e:=getElem?_bubble hs d hd i
 by_cases h1:i=k - d
 ·rw[if_pos h1]at e ⊢; exact gN_of e
 ·rw[if_neg h1]at e ⊢
  by_cases h2:k - d < i∧i<=k
  ·rw[if_pos h2]at e ⊢; exact gN_of e
  ·rw[if_neg h2]at e ⊢; exact gN_of e
structure Pm (n:Nat) (p:Array Nat):Prop where
 size:p.size=n
 perm:p.toList.Perm (List.range n)
theorem Pm.lt {n:Nat} {p:Array Nat} (P:Pm n p) (hn:0 < n) (i:Nat):gN p i < n:=by
 unfold gN
 by_cases h:i < p.size
 ·rw[Array.getD_eq_getD_getElem?,Array.getElem?_eq_getElem h]
  have:p[i]∈p.toList:=by simp
  have:=P.perm.mem_iff.mp this
  simpa using this
 ·rw[Array.getD_eq_getD_getElem?,Array.getElem?_eq_none (by omega)]
  exact hn
theorem Pm.rev {n:Nat} {p:Array Nat} (P:Pm n p) (i j:Nat):Pm n (kas_rev p i j) :=
 ⟨(mirror_size _ _ _ _).trans P.size,(Array.perm_iff_toList_perm.mp (mirror_perm _ _ _ _)).trans P.perm⟩
theorem Pm.bub {n:Nat} {p:Array Nat} (P:Pm n p) (k d:Nat):Pm n (bubble p k d) :=
 ⟨(bubble_size _ _ _).trans P.size,(Array.perm_iff_toList_perm.mp (bubble_perm _ _ _)).trans P.perm⟩
section
variable {lt:Nat->Nat->Bool} (O:Swo lt) {n:Nat}
def le' (lt:Nat->Nat->Bool) (a b:Nat):Prop:=lt b a=false
include O
theorem Xc {a b c:Nat} (h1:le' lt a b) (h2:le' lt b c):le' lt a c:=by
  unfold le' at *
  cases h:lt c a with
  |false=>rfl
  | true => rcases O.neg c b a h with z | z
            · rw[h2]at z; cases z
            · rw[h1]at z; cases z
theorem Qa {a b:Nat} (h:lt a b=true):le' lt a b:=by
 unfold le'
 cases z:lt b a with
 |false=>rfl
 |true=>have:=O.tr a b a h z; rw[O.irr]at this; cases this
theorem lt_le' {a b c:Nat} (h1:lt a b=true) (h2:le' lt b c):lt a c=true:=by
 rcases O.neg a c b h1 with z|z
 ·exact z
 ·rw[h2]at z; cases z
omit O in
def Srt (lt:Nat->Nat->Bool) (p:Array Nat) (m:Nat):Prop:=∀i j,i<=j->j < m->le' lt (gN p i) (gN p j)
omit O in
def Fal (lt:Nat->Nat->Bool) (p:Array Nat) (m:Nat):Prop:=∀i j,i<=j->j < m->le' lt (gN p j) (gN p i)
theorem Srt.more {p:Array Nat} {m:Nat} (h1:1<=m) (S:Srt lt p m) (h:le' lt (gN p (m - 1)) (gN p m)):Srt lt p (m+1):=fun i j hij hj=>by
 by_cases hjm:j < m
 ·exact S i j hij hjm
 ·have:j=m:=by omega
  subst this
  by_cases hi:i=j
  ·subst hi; exact O.irr _
  ·exact Xc O (S i (j - 1) (by omega) (by omega)) h
theorem Fal.more {p:Array Nat} {m:Nat} (h1:1<=m) (S:Fal lt p m) (h:le' lt (gN p m) (gN p (m - 1))):Fal lt p (m+1):=fun i j hij hj=>by
 by_cases hjm:j < m
 ·exact S i j hij hjm
 ·have:j=m:=by omega
  subst this
  by_cases hi:i=j
  ·subst hi; exact O.irr _
  ·exact Xc O h (S i (j - 1) (by omega) (by omega))
theorem hs_asc {p:Array Nat} (P:Pm n p) (hn:0 < n) {Q:Nat->Prop}:∀(f m:Nat),1<=m->Srt lt p m->(∀k,m<=k->k<=m+f->Srt lt p k->(k < m+f->lt (gN p k) (gN p (k - 1))=true)->Q k)->Hs lt n Q (kas_asc p f m)
 |0,m,h1,S,q=>q m (Nat.le_refl _) (Nat.le_refl _) S fun z=>absurd z (Nat.lt_irrefl _)
 |f+1,m,h1,S,q=>by
  refine ⟨P.lt hn m,P.lt hn (m - 1),?_⟩
  cases h:lt (p.getD m 0) (p.getD (m - 1) 0) with
  |true=>dsimp only; rw[if_pos rfl]; exact q m (Nat.le_refl _) (by omega) S fun _=>h
  |false =>
   dsimp only; rw[if_neg Bool.false_ne_true]
   exact hs_asc P hn f (m+1) (by omega) (S.more O h1 h) fun k h2 h3 S' h4=>q k (by omega) (by omega) S' fun z=>h4 (by omega)
omit O in
def Eq' (lt:Nat->Nat->Bool) (a b:Nat):Prop:=le' lt a b∧le' lt b a
omit O in
def Tl (lt:Nat->Nat->Bool) (p:Array Nat) (m c:Nat):Prop:=∀i,m - c<=i->i < m->Eq' lt (gN p i) (gN p (m - 1))
theorem R8 {p:Array Nat} {m c:Nat} (hm:m<=p.size) (hc:c<=m) (S:Fal lt p m) (T:Tl lt p m c):Fal lt (kas_rev p (m - c) m) m∧(∀i,i < m->Eq' lt (gN (kas_rev p (m - c) m) i) (gN p i)):=by
 have e:∀i,i < m->Eq' lt (gN (kas_rev p (m - c) m) i) (gN p i):=fun i hi=>by
  rw[Sr hm]
  by_cases h:m - c<=i∧i < m
  ·rw[if_pos h]
   have t1:=T (m - c+m - 1 - i) (by omega) (by omega)
   have t2:=T i h.1 h.2
   exact ⟨Xc O t1.1 t2.2,Xc O t2.1 t1.2⟩
  ·rw[if_neg h]; exact ⟨O.irr _,O.irr _⟩
 exact ⟨fun i j hij hj=>Xc O (e j hj).1 (Xc O (S i j hij hj) (e i (by omega)).2),e⟩
theorem Tn (hn : 0 < n) {Q : Array Nat × Nat × Nat -> Prop} : ∀ (f : Nat) (p : Array Nat) (m q : Nat),Pm n p -> 1 <= m -> q + 1 <= m -> m + f <= n -> Fal lt p m -> Tl lt p m (q + 1) ->
    (∀p' k q',Pm n p'->m<=k->k<=m+f->q'+1<=k->Fal lt p' k->Tl lt p' k (q'+1)->Q (p',k,q'))->Hs lt n Q (kas_desc f p m q)
  |0,p,m,q,P,h1,hq,hm,S,T,k=>k p m q P (Nat.le_refl _) (Nat.le_refl _) hq S T
  |f+1,p,m,q,P,h1,hq,hm,S,T,k=>by
    refine ⟨P.lt hn m,P.lt hn (m - 1),?_⟩
    cases h:lt (p.getD m 0) (p.getD (m - 1) 0) with
    |true =>
      dsimp only; rw[if_pos rfl]
      have hl:le' lt (gN p m) (gN p (m - 1)):=Qa O h
      by_cases hq0:q > 0
      · rw[if_pos hq0]
        obtain ⟨S1,E1⟩:=R8 O (by rw[P.size]; omega) hq S T
        refine Tn hn f _ (m+1) 0 (P.rev _ _) (by omega) (by omega) (by omega) (Fal.more O h1 S1 ?_) (fun i hi hi2=>?_) fun p' k' q' P' a1 a2 a3 a4 a5=>k p' k' q' P' (by omega) (by omega) a3 a4 a5
        · have e2:gN (kas_rev p (m - (q+1)) m) m=gN p m:=by rw[Sr (by rw[P.size]; omega),if_neg (by omega)]
          rw[e2]
          exact Xc O hl (E1 (m - 1) (by omega)).2
        · have:i=m+1 - 1:=by omega
          rw[this]; exact ⟨O.irr _,O.irr _⟩
      · rw[if_neg hq0]
        refine Tn hn f _ (m+1) 0 P (by omega) (by omega) (by omega) (Fal.more O h1 S hl) (fun i hi hi2=>?_) fun p' k' q' P' a1 a2 a3 a4 a5=>k p' k' q' P' (by omega) (by omega) a3 a4 a5
        have:i=m+1 - 1:=by omega
        rw[this]; exact ⟨O.irr _,O.irr _⟩
    |false =>
      dsimp only; rw[if_neg Bool.false_ne_true]
      refine ⟨P.lt hn (m - 1),P.lt hn m,?_⟩
      cases h2:lt (p.getD (m - 1) 0) (p.getD m 0) with
      |true=>dsimp only; rw[if_pos rfl]; exact k p m q P (Nat.le_refl _) (by omega) hq S T
      |false =>
        dsimp only; rw[if_neg Bool.false_ne_true]
        have e:Eq' lt (gN p m) (gN p (m - 1)):=⟨h2,h⟩
        refine Tn hn f p (m+1) (q+1) P (by omega) (by omega) (by omega) (Fal.more O h1 S e.1) (fun i hi hi2=>?_) fun p' k' q' P' a1 a2 a3 a4 a5=>k p' k' q' P' (by omega) (by omega) a3 a4 a5
        show Eq' lt (gN p i) (gN p m)
        by_cases him:i=m
        · rw[him]; exact ⟨O.irr _,O.irr _⟩
        · have t:=T i (by omega) (by omega)
          exact ⟨Xc O t.1 e.2,Xc O e.1 t.2⟩
theorem srt_rev {p:Array Nat} {m:Nat} (hm:m<=p.size) (S:Fal lt p m):Srt lt (kas_rev p 0 m) m:=fun i j hij hj=>by
 rw[Sr hm,Sr hm,if_pos (by omega),if_pos (by omega)]
 exact S _ _ (by omega) (by omega)
theorem hs_tail {p:Array Nat} {m:Nat} (P:Pm n p) (hn:0 < n) (h1:1<=m) (hm:m<=n) (S:Fal lt p m) {Q:Nat × Array Nat->Prop} (k:∀c p',Pm n p'->1<=c->c<=n->Srt lt p' c->Q (c,p')):Hs lt n Q (kas_tail3 m n p):=by
 unfold kas_tail3
 refine Hs.bind (hs_asc O (P.rev 0 m) hn (n - m) m h1 (srt_rev O (by rw[P.size]; exact hm) S) fun c h2 h3 S' _=>?_)
 exact k c _ (P.rev 0 m) (by omega) (by omega) S'
theorem UY {p:Array Nat} {m:Nat} (P:Pm n p) (hn:0 < n) (h1:1<=m) (hm:m+1<=n) (S:Fal lt p (m+1)) {Q:Nat × Array Nat->Prop} (k:∀c p',Pm n p'->1<=c->c<=n->Srt lt p' c->Q (c,p')):Hs lt n Q (kas_descPart m n p):=by
 unfold kas_descPart
 refine Hs.bind (Tn O hn _ p (m+1) 0 P (by omega) (by omega) (by omega) S (fun i hi hi2=>?_) fun p' c q P' a1 a2 a3 a4 a5=>?_)
 ·have:i=m+1 - 1:=by omega
  rw[this]; exact ⟨O.irr _,O.irr _⟩
 ·dsimp only
  by_cases hq:q > 0
  ·rw[if_pos hq]
   exact hs_tail O (P'.rev _ _) hn (by omega) (by omega) (R8 O (by rw[P'.size]; omega) a3 a4 a5).1 k
  ·rw[if_neg hq]
   exact hs_tail O P' hn (by omega) (by omega) a4 k
theorem hs_count {p:Array Nat} (P:Pm n p) (hn:0 < n) {Q:Nat × Array Nat->Prop} (k:∀c p',Pm n p'->1<=c->c<=n->Srt lt p' c->Q (c,p')):Hs lt n Q (kas_count n p):=by
 unfold kas_count
 refine Hs.bind (hs_asc O P hn (n - 1) 1 (Nat.le_refl _) (fun i j hij hj=>?_) fun m h1 h2 S h3=>?_)
 ·have:i=j:=by omega
  rw[this]; exact O.irr _
 ·by_cases he:(m == n)=true
  ·rw[if_pos he]
   exact k m p P h1 (by have:=eq_of_beq he; omega) S
  ·rw[if_neg he]
   have hne:m≠n:=fun z=>he (beq_iff_eq.mpr z)
   have hlt:=h3 (by omega)
   by_cases hm:m > 1
   ·rw[if_pos hm]
    refine ⟨P.lt hn 0,P.lt hn (m - 1),?_⟩
    cases hc:lt (p.getD 0 0) (p.getD (m - 1) 0) with
    |true=>dsimp only; rw[if_pos rfl]; exact k m p P h1 (by omega) S
    |false =>
     dsimp only; rw[if_neg Bool.false_ne_true]
     have alike:∀i,i < m->Eq' lt (gN p i) (gN p (m - 1)):=fun i hi=>⟨S i (m - 1) (by omega) (by omega),Xc O (show le' lt (gN p (m - 1)) (gN p 0) from hc) (S 0 i (by omega) hi)⟩
     have F:Fal lt p m:=fun i j hij hj=>Xc O (alike j hj).1 (alike i (by omega)).2
     obtain ⟨F1,E1⟩:=R8 O (c:=m) (by rw[P.size]; omega) (Nat.le_refl _) F fun i _ hi=>alike i hi
     rw[Nat.sub_self]at F1 E1
     refine UY O (P.rev 0 m) hn (by omega) (by omega) (Fal.more O (by omega) F1 ?_) k
     have e2:gN (kas_rev p 0 m) m=gN p m:=by rw[Sr (by rw[P.size]; omega),if_neg (by omega)]
     rw[e2]
     exact Xc O (Qa O hlt) (E1 (m - 1) (by omega)).2
   ·rw[if_neg hm]
    have hm1:m=1:=by omega
    subst hm1
    refine UY O P hn (by omega) (by omega) (Fal.more O (by omega) (fun i j hij hj=>?_) (Qa O hlt)) k
    have:i=j:=by omega
    rw[this]; exact O.irr _
theorem T5 {p : Array Nat} {k : Nat} (P : Pm n p) (hn : 0 < n) (S : Srt lt p k) {Q : Nat -> Prop} : ∀ (f l r : Nat),l <= r -> r <= k -> r - l <= f -> (∀ i,i < l -> le' lt (gN p i) (gN p k)) -> (∀ i,r <= i -> i < k -> lt (gN p k) (gN p i) = true) ->
    (∀m,m<=k->(∀i,i < m->le' lt (gN p i) (gN p k))->(∀i,m<=i->i < k->lt (gN p k) (gN p i)=true)->Q m)->Hs lt n Q (kas_place p k f l r)
  |0,l,r,h1,h2,h3,a,b,q=>q l (by omega) a fun i hi hk=>b i (by omega) hk
  |f+1,l,r,h1,h2,h3,a,b,q=>by
    unfold kas_place
    by_cases hlr:l ≥ r
    · rw[if_pos hlr]
      exact q l (by omega) a fun i hi hk=>b i (by omega) hk
    · rw[if_neg hlr]
      refine ⟨P.lt hn k,P.lt hn _,?_⟩
      cases hc:lt (p.getD k 0) (p.getD ((l+r) / 2) 0) with
      |true =>
        dsimp only; rw[if_pos rfl]
        refine T5 P hn S f l ((l+r) / 2) (by omega) (by omega) (by omega) a (fun i hi hk=>lt_le' O hc (S _ _ hi hk)) q
      |false =>
        dsimp only; rw[if_neg Bool.false_ne_true]
        refine T5 P hn S f ((l+r) / 2+1) r (by omega) (by omega) (by omega) (fun i hi=>Xc O (S i ((l+r) / 2) (by omega) (by omega)) hc) b q
theorem srt_bub {p:Array Nat} {k m:Nat} (hk:k < p.size) (hm:m<=k) (S:Srt lt p k) (a:∀i,i < m->le' lt (gN p i) (gN p k)) (b:∀i,m<=i->i < k->lt (gN p k) (gN p i)=true):Srt lt (bubble p k (k - m)) (k+1):=fun i j hij hj=>by
 have e:k - (k - m)=m:=by omega
 rw[gN_bub hk (by omega),gN_bub hk (by omega),e]
 by_cases hi:i=m
 ·rw[if_pos hi]
  by_cases hj2:j=m
  ·rw[if_pos hj2]; exact O.irr _
  ·rw[if_neg hj2,if_pos (by omega)]; exact Qa O (b _ (by omega) (by omega))
 ·rw[if_neg hi]
  by_cases hi2:m < i∧i<=k
  ·rw[if_pos hi2,if_neg (by omega),if_pos (by omega)]; exact S _ _ (by omega) (by omega)
  ·rw[if_neg hi2]
   by_cases hj2:j=m
   ·rw[if_pos hj2]; exact a i (by omega)
   ·rw[if_neg hj2]
    by_cases hj3:m < j∧j<=k
    ·rw[if_pos hj3]; exact S _ _ (by omega) (by omega)
    ·rw[if_neg hj3]; exact S _ _ hij (by omega)
theorem hs_bin (hn:0 < n) {Q:Array Nat->Prop}:∀(f:Nat) (p:Array Nat) (k:Nat),Pm n p->k+f<=n->Srt lt p k->(∀p',Pm n p'->Srt lt p' (k+f)->Q p')->Hs lt n Q (kas_bin f p k)
 |0,p,k,P,h,S,q=>q p P S
 |f+1,p,k,P,h,S,q=>by
  unfold kas_bin
  refine Hs.bind (T5 O P hn S k 0 k (Nat.zero_le _) (Nat.le_refl _) (by omega) (fun i hi=>absurd hi (Nat.not_lt_zero _)) (fun i h1 h2=>absurd h2 (by omega)) fun m hm a b=>?_)
  exact hs_bin hn f _ (k+1) (P.bub _ _) (by omega) (srt_bub O (by rw[P.size]; omega) hm S a b) fun p' P' S'=>q p' P' (by rw[show k+(f+1)=k+1+f by omega]; exact S')
theorem hs_sort (hn:0 < n):Hs lt n (fun p=>Pm n p∧Srt lt p n) (kas_sort n):=by
 unfold kas_sort
 have P0:Pm n (List.toArray (List.range n)):=⟨by simp,by simp⟩
 refine Hs.bind (hs_count O P0 hn fun c p' P h1 h2 S=>?_)
 dsimp only
 by_cases hc:c < n
 ·rw[if_pos hc]
  have hm:max c 1=c:=by omega
  rw[hm]
  refine hs_bin O hn (n - c) p' c P (by omega) S fun p2 P2 S2=>⟨P2,?_⟩
  rw[show c+(n - c)=n by omega]at S2
  exact S2
 ·rw[if_neg hc]
  have:c=n:=by omega
  subst this
  exact ⟨P,S⟩
end
end L2
namespace L2
noncomputable section
open PySem PySem.Spec PyProof.Rows
section
variable {X:Cx} {E:XK} {e a b c o:Expr} {es:List Expr} {f fa fb fc fo:FE} {fs:FA} {pos p2 p p':Pos}
theorem WN {x:Str} {i:Int} (hg:Gl X x) (h:∃t,X.mg x=some (.int i t)) (hd:(x == ("__debug__":Str))=false:=by decide):PE X (.Name x pos) (tE E (fC (.int i))) :=
 let ⟨_,h⟩:=h; qe_c (pe_glob (v:=.int i) hg h ⟨_,rfl⟩ hd) fun _ _=>.int i
def kCat (x y:Wv):Mw Wv:=fun om=>match x,y with
 |.lst ws,.lst us=>if ws.length+us.length<=lim then some (.ok (.lst (ws++us)),om) else none
 |_,_=>none
end
def kUn (i:Nat):Fl × Sl->Mw (Fl × Sl):=fun x=>ret (x.1,x.2.set i none)
def sTry (caught:Addr->Bool) (i:Nat) (S suite:FS):FS:=fun sl om=>match S sl om with
 |some (.error C,om')=>if caught C=true then bnd (ZS (suite (sl.set i (some (.o om'.length))))) (kUn i) (om'++[.exc C]) else none
 |r=>r
section
variable {X:Cx} {E:XK} {pins:List (Addr × Obj)} {σ:St} {e o:Expr} {es:List Expr} {st:Stmt} {f fo:FE} {fs:FA} {S S1 S2:FS} {c:FT} {pos:Pos}
variable {CX:CXT} {k n:Nat} {fn C:Addr} {fd:FuncData} {ps:List Str} {g:List Wv->Mw Wv} {x m:Str}
end
structure ExcAll (K:PySem.W.Frag) (isE:Addr->Bool) (kit:Addr->Value->Bool) (Ds:List Value):Prop where
 k:∀C,isE C=true->ExcK K C
 a:∀C D,isE C=true->D∈Ds->PySem.W.kitOne K (.ref C) D=some (kit C D)
def kIsE (isE:Addr->Bool) (kit:Addr->Value->Bool) (D:Value) (x:Wv):Mw Wv:=fun om=>match x with
 |.o h=>match om[h]? with
  |some (.exc C)=>if isE C=true then some (.ok (.bl (kit C D)),om) else none
  |_=>none
 |_=>none
section
variable {X:Cx} {E:XK} {e:Expr} {f:FE} {pos p p2:Pos} {isE:Addr->Bool} {kit:Addr->Value->Bool} {Ds:List Value}
end
end
end L2
namespace L2
noncomputable section
open PySem PySem.Spec PyProof.Rows
mutual
def small (n:Nat):Wv->Prop
 |.o h=>h < n
 |.lst ws=>WL n ws
 |.tup ws=>WL n ws
 |_=>True
def WL (n:Nat):List Wv->Prop
 |[]=>True
 |w::r=>small n w∧WL n r
end
def Vc (n:Nat):Ob->Prop
 |.ins _ fs=>∀p∈fs,small n p.2
 |.lst ws=>WL n ws
 |.dk kvs=>∀p∈kvs,small n p.2
 |.dt kvs=>∀p∈kvs,small n p.2
 |.exc _=>True
 |.dz kvs=>∀p∈kvs,small n p.2
mutual
theorem RW.small {F:Hp} {β:List Addr}:∀{w:Wv} {v:V},RW F β w v->small β.length w
 |_,_,.non=>trivial
 |_,_,.bl _=>trivial
 |_,_,.int _=>trivial
 |_,_,.str _=>trivial
 |_,_,.lst _ r=>RWs.small r
 |_,_,.tup _ r=>RWs.small r
 |_,_,.o e=>(List.getElem?_eq_some_iff.mp e).1
 |_,_,.g _=>trivial
theorem RWs.small {F:Hp} {β:List Addr}:∀{ws:List Wv} {vs:List V},RWs F β ws vs->WL β.length ws
 |_,_,.nil=>trivial
 |_,_,.cons h r=>⟨RW.small h,RWs.small r⟩
end
theorem RK.small {F:Hp} {β:List Addr} {κ:Type}:∀{ps:List (κ × Wv)} {qs:List (κ × V)},RK F β ps qs->∀p∈ps,L2.small β.length p.2
 |_,_,.nil,_,hp=>nomatch hp
 |_,_,.cons h r,p,hp=>by
  rcases List.mem_cons.mp hp with rfl|hp
  ·exact h.small
  ·exact RK.small r p hp
theorem MOk.small {F H:Hp} {β:List Addr} {om:List Ob} (M:MOk F H β om):∀x∈om,Vc om.length x:=fun x hx=>by
 obtain ⟨i,hi⟩:=List.getElem?_of_mem hx
 obtain ⟨a,_,_,r⟩:=M.at hi
 rw[← M.len]
 cases x with
 |ins C fs=>obtain ⟨_,_,_,r⟩:=r; exact r.small
 |lst ws=>obtain ⟨_,_,r⟩:=r; exact r.small
 |dk kvs=>obtain ⟨_,_,r⟩:=r; exact r.small
 |dt kvs=>obtain ⟨_,_,r⟩:=r; exact r.small
 |exc C=>trivial
 |dz kvs=>obtain ⟨_,_,_,r⟩:=r; exact r.small
mutual
inductive FzW (om:List Ob) (n:Nat):Wv->Wv->Prop
 |same {w:Wv} (h:small n w):FzW om n w w
 |own {h:Nat} {xs ys:List Wv} (hn:n<=h) (e:om[h]?=some (.lst xs)) (r:FzWs om n xs ys):FzW om n (.o h) (.lst ys)
 |lst {xs ys:List Wv} (r:FzWs om n xs ys):FzW om n (.lst xs) (.lst ys)
 |tup {xs ys:List Wv} (r:FzWs om n xs ys):FzW om n (.tup xs) (.tup ys)
inductive FzWs (om:List Ob) (n:Nat):List Wv->List Wv->Prop
 |nil:FzWs om n [] []
 |cons {x y:Wv} {xs ys:List Wv} (h:FzW om n x y) (r:FzWs om n xs ys):FzWs om n (x::xs) (y::ys)
end
theorem FzWs.of_smalls {om:List Ob} {n:Nat}:∀{ws:List Wv},WL n ws->FzWs om n ws ws
 |[],_=>.nil
 |_::_,⟨h,r⟩=>.cons (.same h) (FzWs.of_smalls r)
section
variable {F' F'':Hp} {β β':List Addr} {n:Nat} (same':Same F' F'') (ext:∀(h:Nat),h < n->β'[h]?=β[h]?)
mutual
theorem RW.down (same':Same F' F'') (ext:∀(h:Nat),h < n->β'[h]?=β[h]?):∀{w:Wv} {v:V},RW F' β' w v->L2.small n w->RW F'' β w v
 |_,_,.non,_=>.non
 |_,_,.bl b,_=>.bl b
 |_,_,.int i,_=>.int i
 |_,_,.str x,_=>.str x
 |_,_,.lst e r,hs=>.lst (Rd.same same' e) (RWs.down same' ext r hs)
 |_,_,.tup e r,hs=>.tup (same' _ _ e) (RWs.down same' ext r hs)
 |_,_,.o (h:=h) e,hs=>.o ((ext h hs).symm.trans e)
 |_,_,.g a,_=>.g a
theorem RWs.down (same':Same F' F'') (ext:∀(h:Nat),h < n->β'[h]?=β[h]?):∀{ws:List Wv} {vs:List V},RWs F' β' ws vs->WL n ws->RWs F'' β ws vs
 |_,_,.nil,_=>.nil
 |_,_,.cons h r,hs=>.cons (RW.down same' ext h hs.1) (RWs.down same' ext r hs.2)
end
theorem RK.down (same':Same F' F'') (ext:∀(h:Nat),h < n->β'[h]?=β[h]?) {κ:Type}:∀{ps:List (κ × Wv)} {qs:List (κ × V)},RK F' β' ps qs->(∀p∈ps,L2.small n p.2)->RK F'' β ps qs
 |_,_,.nil,_=>.nil
 |_,_,.cons h r,hs=>.cons (RW.down same' ext h (hs _ (.head _))) (RK.down same' ext r fun q hq=>hs q (.tail _ hq))
variable {om:List Ob}
mutual
theorem FzW.rel (same':Same F' F'') (ext:∀(h:Nat),h < n->β'[h]?=β[h]?) (own:∀h a xs,n<=h->β'[h]?=some a->om[h]?=some (.lst xs)->∃zs,F'' a=some (.lst zs)∧RWs F' β' xs zs):∀{w w':Wv} {v:V},FzW om n w w'->RW F' β' w v->RW F'' β w' v
 |_,_,_,.same h,r=>r.down same' ext h
 |_,_,_,.own hn e r,.o eb=>let ⟨_,h1,h2⟩:=own _ _ _ hn eb e; .lst (.inl h1) (FzWs.rel same' ext own r h2)
 |_,_,_,.lst r,.lst e rs=>.lst (Rd.same same' e) (FzWs.rel same' ext own r rs)
 |_,_,_,.tup r,.tup e rs=>.tup (same' _ _ e) (FzWs.rel same' ext own r rs)
theorem FzWs.rel (same':Same F' F'') (ext:∀(h:Nat),h < n->β'[h]?=β[h]?) (own:∀h a xs,n<=h->β'[h]?=some a->om[h]?=some (.lst xs)->∃zs,F'' a=some (.lst zs)∧RWs F' β' xs zs):∀{ws ws':List Wv} {vs:List V},FzWs om n ws ws'->RWs F' β' ws vs->RWs F'' β ws' vs
 |_,_,_,.nil,.nil=>.nil
 |_,_,_,.cons h r,.cons h' r'=>.cons (FzW.rel same' ext own h h') (FzWs.rel same' ext own r r')
end
end
section
variable {F F' H H':Hp} {β β':List Addr} {om om1 l:List Ob}
def onlyL:Option HO->Option HO
 |some (.lst xs)=>some (.lst xs)
 |_=>none
theorem onlyL_sub {x:Option HO} {o:HO} (h:onlyL x=some o):x=some o:=by
 unfold onlyL at h
 split at h
 ·exact h
 ·cases h
def frzN (F' H':Hp) (new:List Addr):Hp:=fun b=>if b∈new then onlyL (H' b) else F' b
theorem Rn (M : MOk F H β om) (g : Gx F F' H H' β β') (M' : MOk F' H' β' (om1 ++ l)) (hl : om1.length = om.length) (hs : ∀ x ∈ om1,Vc om.length x) :
    ∃F'',Gx F F'' H H' β β∧MOk F'' H' β om1∧∀w w' v,FzW (om1++l) om.length w w'->RW F' β' w v->RW F'' β w' v:=by
  have hβ:β.length=om.length:=M.len
  have hβ':β'.length=om.length+l.length:=by rw[M'.len,List.length_append,hl]
  have ext:∀(h:Nat),h < om.length->β'[h]?=β[h]?:=fun h hh=>by
    have e:β[h]?=some β[h]:=List.getElem?_eq_getElem (by omega)
    rw[e]; exact g.pre h _ e
  have inNew:∀(h:Nat) (a:Addr),om.length<=h->β'[h]?=some a->a∈β'.drop om.length:=fun h a hh e=>by
    refine List.mem_of_getElem? (i:=h - om.length) ?_
    rw[List.getElem?_drop]
    rw[show om.length+(h - om.length)=h by omega]
    exact e
  have ofNew:∀a,a∈β'.drop om.length->∃h,om.length<=h∧β'[h]?=some a:=fun a ha=>by
    obtain ⟨i,hi⟩:=List.getElem?_of_mem ha
    rw[List.getElem?_drop]at hi
    exact ⟨_,Nat.le_add_right _ _,hi⟩
  have oldNew:∀(h:Nat) (a:Addr),β[h]?=some a->a ∉ β'.drop om.length:=fun h a e ha=>by
    obtain ⟨j,hj,ej⟩:=ofNew a ha
    have hh:h < om.length:=by rw[← hβ]; exact (List.getElem?_eq_some_iff.mp e).1
    have:=ndx M'.nd ej (g.pre h a e)
    omega
  have newNone:∀a,a∈β'.drop om.length->H a=none:=fun a ha=>by
    rcases g.new a (List.mem_of_mem_drop ha) with h|h
    · obtain ⟨i,hi⟩:=List.getElem?_of_mem h
      exact absurd ha (oldNew i a hi)
    · exact h
  have same':Same F' (frzN F' H' (β'.drop om.length)):=fun b o e=>by
    unfold frzN
    by_cases hb:b∈β'.drop om.length
    · obtain ⟨j,_,ej⟩:=ofNew b hb
      rw[M'.free j b ej]at e; cases e
    · rw[if_neg hb]; exact e
  have sub':Same (frzN F' H' (β'.drop om.length)) H':=fun b o e=>by
    unfold frzN at e
    by_cases hb:b∈β'.drop om.length
    · rw[if_pos hb]at e; exact onlyL_sub e
    · rw[if_neg hb]at e; exact M'.sub b o e
  refine ⟨frzN F' H' (β'.drop om.length),⟨⟨g.same.trans same',fun _ _ e=>e⟩,g.keep,g.there,fun b hb=>.inl hb,fun b o e=>?_,g.frz⟩,⟨sub',M.nd,by rw[hβ,hl],fun h a e=>?_,fun h a x e1 e2=>?_⟩,?_⟩
  · unfold frzN at e
    by_cases hb:b∈β'.drop om.length
    · exact .inr (newNone b hb)
    · rw[if_neg hb]at e; exact g.fnew b o e
  · unfold frzN
    rw[if_neg (oldNew h a e)]
    exact M'.free h a (g.pre h a e)
  · have hh:h < om1.length:=(List.getElem?_eq_some_iff.mp e2).1
    have hx:=M'.ob h a x (g.pre h a e1) (by rw[List.getElem?_append_left hh]; exact e2)
    have sx:=hs x (List.mem_of_getElem? e2)
    cases x with
    |ins C fs=>obtain ⟨dx,fs',h1,r⟩:=hx; exact ⟨dx,fs',h1,r.down same' ext sx⟩
    |lst ws=>obtain ⟨xs,h1,r⟩:=hx; exact ⟨xs,h1,r.down same' ext sx⟩
    |dk kvs=>obtain ⟨ks,h1,r⟩:=hx; exact ⟨ks,h1,r.down same' ext sx⟩
    |dt kvs=>obtain ⟨ks,h1,r⟩:=hx; exact ⟨ks,h1,r.down same' ext sx⟩
    |exc C=>exact hx
    |dz kvs=>obtain ⟨o,ks,h1,r⟩:=hx; exact ⟨o,ks,h1,r.down same' ext sx⟩
  · intro w w' v fz r
    refine FzW.rel same' ext (fun h a xs hn eb e=>?_) fz r
    obtain ⟨a',ea,_,zs,hz,rs⟩:=M'.at e
    rw[eb]at ea; cases ea
    refine ⟨zs,?_,rs⟩
    unfold frzN
    rw[if_pos (inNew h _ hn eb),hz]
    rfl
end
inductive Tidy (om:List Ob):Option (Except Addr Wv × List Ob)->Option (Except Addr Wv × List Ob)->Prop
 |same (r:Option (Except Addr Wv × List Ob)):Tidy om r r
 |ok {w w':Wv} {om1 l:List Ob} (hl:om1.length=om.length) (hs:∀x∈om1,Vc om.length x) (fz:FzW (om1++l) om.length w w'):Tidy om (some (.ok w,om1++l)) (some (.ok w',om1))
 |err {C:Addr} {om1 l:List Ob} (hl:om1.length=om.length) (hs:∀x∈om1,Vc om.length x):Tidy om (some (.error C,om1++l)) (some (.error C,om1))
theorem FnOk.tidy {P : Program} {w : World} {K : PySem.W.Frag} {mg : Str -> Option Value} {base : Heap} {k n : Nat} {f : Addr} {fd : FuncData} {ps : List Str} {CX : CXT} {g g' : List Wv -> Mw Wv} (F : FnOk P w K mg base CX k f fd ps (spM n g))
    (h:∀ws om,ws.length=n->(∀x∈om,Vc om.length x)->g' ws om≠none->Tidy om (g ws om) (g' ws om)):FnOk P w K mg base CX k f fd ps (spM n g') :=
  F.imp fun vs H Q E ⟨F,β,om,ws,M,rs,hl,R⟩=>⟨F,β,om,ws,M,rs,hl,by
    have t:=h ws om hl M.small (fun z=>by rw[z]at R; exact R)
    generalize g ws om=r at t
    generalize g' ws om=r' at t R
    cases t with
    |same=>exact R
    |ok hl' hs fz =>
      intro F' H' β' g1 M' v rv
      obtain ⟨F'',g2,M2,rel⟩:=Rn M g1 M' hl' hs
      exact R F'' H' β g2 M2 v (rel _ _ v fz rv)
    |err hl' hs =>
      intro F' H' β' g1 M'
      obtain ⟨F'',g2,M2,_⟩:=Rn M g1 M' hl' hs
      exact R F'' H' β g2 M2⟩
end
end L2
namespace L2
noncomputable section
open PySem PySem.Spec PyProof.Rows PySem.W
def ltP (a b:Int × Int):Bool:=if a.1=b.1 then decide (a.2 < b.2) else decide (a.1 < b.1)
theorem Yt {a b:Int × Int}:ltP a b=true ↔ a.1 < b.1∨(a.1=b.1∧a.2 < b.2):=by
 unfold ltP
 split
 ·rw[decide_eq_true_iff]; omega
 ·rw[decide_eq_true_iff]; omega
def QW (ps:List (Int × Int)) (i j:Nat):Bool:=ltP (ps.getD i (0,0)) (ps.getD j (0,0))
theorem swo_at (ps:List (Int × Int)):Swo (QW ps) where
 irr:=fun a=>by
  cases h:QW ps a a with
  |false=>rfl
  |true=>have:=Yt.mp h; omega
 tr:=fun a b c h1 h2=>by
  have h1:=Yt.mp h1
  have h2:=Yt.mp h2
  exact Yt.mpr (by omega)
 neg:=fun a b c h=>by
  have h:=Yt.mp h
  by_cases hb:QW ps a b=true
  ·exact .inl hb
  ·refine .inr (Yt.mpr ?_)
   have hb:¬ (_∨_):=fun z=>hb (Yt.mpr z)
   omega
section
variable {prog:Program} {w:World} {A:Around} {E:Value->Shared->Prop} {s:Shared}
structure PrsAt (h:Heap) (as:List Addr) (ps:List (Int × Int)):Prop where
 len:as.length=ps.length
 at':∀(i:Nat) (a:Addr) (p:Int × Int),as[i]?=some a->ps[i]?=some p->∃t u,h.get? a=some { cls:=.type "tuple",data:=.seq #[.int p.1 t,.int p.2 u] }
theorem PrsAt.keep {h h':Heap} {as:List Addr} {ps:List (Int × Int)} (x:PrsAt h as ps) (k:∀a∈as,∀o,h.get? a=some o->h'.get? a=some o):PrsAt h' as ps :=
 ⟨x.len,fun i a p e1 e2=>let ⟨t,u,e⟩:=x.at' i a p e1 e2; ⟨t,u,k a (List.mem_of_getElem? e1) _ e⟩⟩
theorem ask_pair {a b : Addr} {x y : Int × Int} {t u t' u' : Tok} {C : Bool -> Shared -> Prop} (h1 : s.heap.get? a = some { cls := .type "tuple",data := .seq #[.int x.1 t,.int x.2 u] }) (h2 : s.heap.get? b = some { cls := .type "tuple",data := .seq #[.int y.1 t',.int y.2 u'] })
    (h:C (ltP x y) s):wpAny (model prog w) A (keyLt' (tuples' true) (.ref a) (.ref b)) C E s:=by
  refine kat_lt h1 rfl h2 rfl (kat_cons (wpAny_eqBool_int ?_))
  unfold ltP at h
  by_cases he:x.1=y.1
  · rw[if_pos he]at h
    rw[show (x.1 == y.1)=true from beq_iff_eq.mpr he]
    refine kat_yes (kat_cons (wpAny_eqBool_int ?_))
    by_cases he2:x.2=y.2
    · rw[show (x.2 == y.2)=true from beq_iff_eq.mpr he2]
      rw[decide_eq_false (by omega)]at h
      exact kat_yes (kat_nil h)
    · rw[show (x.2 == y.2)=false from beq_eq_false_iff_ne.mpr he2]
      exact kat_no (kat_one _ _ (lt_int h))
  · rw[if_neg he]at h
    rw[show (x.1 == y.1)=false from beq_eq_false_iff_ne.mpr he]
    exact kat_no (oneLt_int h)
theorem kind_pair {as:List Addr} {ps:List (Int × Int)} {Q:SortKind->Shared->Prop} (pa:PrsAt s.heap as ps) (hn:0 < ps.length) (h:Q (tuples' true) s):wpAny (model prog w) A (keyKind' (as.map Value.ref).toArray) Q E s:=by
 have key:∀(as:List Addr) (ps:List (Int × Int)),PrsAt s.heap as ps->∃fs,KatTups s.heap (as.map Value.ref) fs∧fs.length=ps.length∧∀v∈fs,∃i t,v=Value.int i t:=by
  intro as
  induction as with
  |nil =>
   intro ps pa
   have:ps=[]:=List.length_eq_zero_iff.mp pa.len.symm
   subst this
   exact ⟨[],KatTups.nil,rfl,fun v hv=>nomatch hv⟩
  |cons a as ih =>
   intro ps pa
   match ps,pa with
   |[],pa=>exact absurd pa.len (by simp)
   |p::ps,pa =>
    obtain ⟨fs,h1,h2,h3⟩:=ih ps ⟨by have:=pa.len; simpa using this,fun i a' p' e1 e2=>pa.at' (i+1) a' p' (by simpa using e1) (by simpa using e2)⟩
    obtain ⟨t,u,e⟩:=pa.at' 0 a p rfl rfl
    refine ⟨.int p.1 t::fs,KatTups.cons e rfl rfl rfl h1,by simp[h2],fun v hv=>?_⟩
    rcases List.mem_cons.mp hv with rfl|hv
    ·exact ⟨_,_,rfl⟩
    ·exact h3 v hv
 obtain ⟨fs,h1,h2,h3⟩:=key as ps pa
 refine kat_kind (T:=.type "int") h1 (by omega) (fun v hv=>?_) rfl h
 obtain ⟨i,t,rfl⟩:=h3 v hv
 exact Looks.now
theorem sort_shell {a : Addr} {as : List Addr} {ps : List (Int × Int)} {n : Nat} {P : PySem.Fin -> Shared -> Prop} (ho : s.heap.get? a = some (seqObj "list" (as.map Value.ref).toArray n)) (pa : PrsAt s.heap as ps) (hna : a ∉ as) (h64 : as.length < 64)
    (fin:∀h' bs qs c,(∀b o,b≠a->s.heap.get? b=some o->h'.get? b=some o)->h'.get? a=some (seqObj "list" (bs.map Value.ref).toArray c)->(∃p:List Nat,p.Perm (List.range as.length)∧bs=p.map (fun i=>as.getD i 0)∧qs=p.map (fun i=>ps.getD i (0,0)))->qs.Pairwise (fun x y=>ltP y x=false)->P (.done (.ret .none)) { s with heap:=h' }) :
    wpAny (model prog w) A (Builtin.«list.sort» ⟨[.ref a],[]⟩) P E s:=by
  have ha:a < s.heap.objs.size:=Heap.lt_size ho
  have upd1:=Heap.SameBut.update s.heap a (Obj.mapSeq fun _=>(#[]:Array Value))
  obtain ⟨e1,g1⟩:∃e1,(s.heap.update a (Obj.mapSeq fun _=>(#[]:Array Value))).get? a=some (seqObj "list" #[] e1):=⟨_,get?_update_seq ho fun _=>#[]⟩
  have hvl:(as.map Value.ref).toArray.size=as.length:=by simp
  rw[list_sort_plain]
  refine wpAny_bind (listItems_at ho rfl (wpAny_bind (listUpdate_at ho rfl (wpAny_bind (seqEpoch_at g1 rfl (wpAny_bind (wpAny_newTuple (wpAny_bind (wpAny_newList (wpAny_holding ?_) (Nat.zero_le _))) (by show (as.map Value.ref).length<=_; rw[List.length_map,sizeLine_eq]; omega))))) (by rw[hvl,sizeLine_eq]; omega) (Nat.zero_le _))))
  generalize hH:((s.heap.update a (Obj.mapSeq fun _=>(#[]:Array Value))).push (seqObj "tuple" (as.map Value.ref).toArray 0)).push (seqObj "list" #[] 0)=h3
  have keep3:∀b o,b≠a->s.heap.get? b=some o->h3.get? b=some o:=fun b o hb e=>by
    rw[← hH]
    exact Heap.get?_push_of_some _ (Heap.get?_push_of_some _ ((upd1.2 b hb).trans e))
  have g3:h3.get? a=some (seqObj "list" #[] e1):=by rw[← hH]; exact Heap.get?_push_of_some _ (Heap.get?_push_of_some _ g1)
  have pa3:PrsAt h3 as ps:=pa.keep fun b hb o e=>keep3 b o (fun z=>hna (z ▸ hb)) e
  show wpAny (model prog w) A _ P E { s with heap:=h3 }
  have hend : ∀ (bs : List Addr) (qs : List (Int × Int)) (st : SortSt),(arrOf st).map (·.2) = (bs.map Value.ref).toArray -> bs.length <= as.length -> failedOf st = none -> (∃ p : List Nat,p.Perm (List.range as.length) ∧ bs = p.map (fun i => as.getD i 0) ∧ qs = p.map (fun i => ps.getD i (0,0))) -> qs.Pairwise (fun x y => ltP y x = false) ->
      wpAny (model prog w) A (do
        let touched:=(← seqEpoch a) != e1
        Builtin.List.listUpdate (.ref a) fun _=>(arrOf st).map (·.2)
        if let some e:=failedOf st then rule "list.sort.comparison-raised"; throw e
        if touched then rule "list.sort.modified"; raiseError "ValueError" "list modified during sort"
        PySem.ret .none) P E { s with heap:=h3 }:=fun bs qs st hout hbl hf hp hs=>by
    refine wpAny_bind (seqEpoch_at g3 rfl (wpAny_bind (listUpdate_at g3 rfl ?_ (Nat.zero_le _) (by rw[hout]; simp only[List.size_toArray,List.length_map]; rw[sizeLine_eq]; omega))))
    rw[hout,hf]
    obtain ⟨c2,g4⟩:∃c2,(h3.update a (Obj.mapSeq fun _=>(bs.map Value.ref).toArray)).get? a=some (seqObj "list" (bs.map Value.ref).toArray c2):=⟨_,get?_update_seq g3 fun _=>(bs.map Value.ref).toArray⟩
    have upd2:=Heap.SameBut.update h3 a (Obj.mapSeq fun _=>(bs.map Value.ref).toArray)
    simp only[bne_self_eq_false,Bool.false_eq_true,if_false]
    exact wpAny_pure (fin _ bs qs c2 (fun b o hb e=>(upd2.2 b hb).trans (keep3 b o hb e)) g4 hp hs)
  by_cases h2:as.length < 2
  · have h2':(as.map Value.ref).toArray.size < 2:=by omega
    dsimp only
    rw[if_pos h2',if_pos h2']
    refine wpAny_bind (wpAny_pure ?_)
    rw[StateT.run_pure]
    refine wpAny_bind (wpAny_pure (hend as ps (SortSt.mk' general' ((as.map Value.ref).toArray.zip (as.map Value.ref).toArray) #[] 7 none) ?_ (Nat.le_refl _) rfl ⟨List.range as.length,List.Perm.refl _,?_,?_⟩ ?_))
    · show ((as.map Value.ref).toArray.zip (as.map Value.ref).toArray).map (·.2)=_
      apply Array.toList_inj.mp
      simp only[Array.toList_map,Array.toList_zip]
      exact List.map_snd_zip (Nat.le_refl _)
    · refine List.ext_getElem? fun i=>?_
      by_cases hi:i < as.length
      · simp[hi]
      · simp[hi]
    · refine List.ext_getElem? fun i=>?_
      have:=pa.len
      by_cases hi:i < as.length
      · simp[hi,show i < ps.length by omega]
      · simp[hi,show ps.length<=i by omega]
    · have:=pa.len
      match ps,this with
      |[],_=>exact List.Pairwise.nil
      |[_],_=>exact List.pairwise_singleton _ _
      |_::_::_,h=>simp at h; omega
  · have h2':¬ (as.map Value.ref).toArray.size < 2:=by omega
    dsimp only
    rw[if_neg h2',if_neg h2']
    have hvs:(as.map Value.ref).length=as.length:=by simp
    refine wpAny_bind (kind_pair (s:={ s with heap:=h3 }) pa3 (by have:=pa.len; omega) ?_)
    have O:=swo_at ps
    have tree:=Hs.wp (Q:=fun (p:Array Nat) s''=>s''={ s with heap:=h3 }∧Pm as.length p∧L2.Srt (QW ps) p as.length) (cmp:=kas_ask prog w A (tuples' true) (as.map Value.ref)) (s:={ s with heap:=h3 })
      (fun i j C hi hj hC=>by
        unfold kas_ask
        have gi:(as.map Value.ref).getD i Value.none=.ref as[i]:=by simp[hi]
        have gj:(as.map Value.ref).getD j Value.none=.ref as[j]:=by simp[hj]
        rw[gi,gj]
        have hl:=pa.len
        obtain ⟨t,u,ei⟩:=pa3.at' i as[i] (ps[i]'(by omega)) (List.getElem?_eq_getElem hi) (List.getElem?_eq_getElem (by omega))
        obtain ⟨t',u',ej⟩:=pa3.at' j as[j] (ps[j]'(by omega)) (List.getElem?_eq_getElem hj) (List.getElem?_eq_getElem (by omega))
        refine ask_pair ei ej ?_
        have d1:ps.getD i (0,0)=ps[i]'(by omega):=by simp[show i < ps.length by omega]
        have d2:ps.getD j (0,0)=ps[j]'(by omega):=by simp[show j < ps.length by omega]
        unfold QW at hC
        rw[d1,d2]at hC
        exact hC) (fun p hp=>⟨rfl,hp⟩) (hs_sort O (n:=as.length) (by omega))
    have tree2:(kas_sort (as.map Value.ref).length).kasWp (kas_ask prog w A (tuples' true) (as.map Value.ref)) (fun (p:Array Nat) s''=>s''={ s with heap:=h3 }∧Pm as.length p∧L2.Srt (QW ps) p as.length) { s with heap:=h3 }:=by rw[hvs]; exact tree
    refine wpAny_bind (wpAny_mono (kat_run (Q:=fun st' s'=>s'={ s with heap:=h3 }∧∃p:Array Nat,arrOf st'=p.map (kas_item ((as.map Value.ref).toArray.zip (as.map Value.ref).toArray))∧failedOf st'=none∧Pm as.length p∧L2.Srt (QW ps) p as.length) rfl (by omega) (by omega)
      (fun p st' s' _ a2 a3 a4=>⟨a4.1,p,a2,a3,a4.2.1,a4.2.2⟩) tree2) (fun r s' hr=>?_) fun _ _ e=>e)
    obtain ⟨⟨⟩,st'⟩:=r
    obtain ⟨rfl,p,har,hf,hPm,hSr⟩:=hr
    have hout:=kat_snds rfl har
    have hall:∀i∈p.toList,i < as.length:=fun i hi=>by have:=hPm.perm.mem_iff.mp hi; simpa using this
    refine hend (p.toList.map fun i=>as.getD i 0) (p.toList.map fun i=>ps.getD i (0,0)) st' ?_ (by rw[List.length_map,hPm.perm.length_eq,List.length_range]; exact Nat.le_refl _) hf ⟨p.toList,hPm.perm,rfl,rfl⟩ ?_
    · rw[hout,List.map_map]
      congr 1
      refine List.map_congr_left fun i hi=>?_
      have:=hall i hi
      simp[this]
    · rw[List.pairwise_map]
      refine List.pairwise_iff_getElem.mpr fun i j hi hj hij=>?_
      have hpl:p.toList.length=as.length:=by rw[hPm.perm.length_eq,List.length_range]
      have:=hSr i j (by omega) (by omega)
      unfold le' gN QW at this
      have q1:p.getD i 0=p.toList[i]:=by simp[Array.getD,show i < p.size by simpa using hi]
      have q2:p.getD j 0=p.toList[j]:=by simp[Array.getD,show j < p.size by simpa using hj]
      rw[q1,q2]at this
      exact this
end
end
end L2
namespace L2
noncomputable section
open PySem PySem.Spec PyProof.Rows PySem.W
theorem Sg {α:Type}:∀{as:List Addr} {ps:List α} {i:Nat} {a:Addr} {p:α},as.Nodup->as[i]?=some a->ps[i]?=some p->(as.zip ps).lookup a=some p
 |[],_,_,_,_,_,e,_=>by simp at e
 |_::_,[],_,_,_,_,_,e=>by simp at e
 |b::as,q::ps,0,a,p,nd,e1,e2=>by
  simp at e1 e2
  subst e1 e2
  simp[List.lookup_cons]
 |b::as,q::ps,i+1,a,p,nd,e1,e2=>by
  have e1:as[i]?=some a:=by simpa using e1
  have e2:ps[i]?=some p:=by simpa using e2
  have hb:(a == b)=false:=beq_eq_false_iff_ne.mpr fun z=>(List.nodup_cons.mp nd).1 (z ▸ List.mem_of_getElem? e1)
  rw[List.zip_cons_cons,List.lookup_cons,hb]
  exact Sg (List.nodup_cons.mp nd).2 e1 e2
theorem YK {α:Type}:∀{as:List Addr} {ps:List α} {a:Addr} {p:α},(as.zip ps).lookup a=some p->∃i:Nat,as[i]?=some a∧ps[i]?=some p
 |[],_,_,_,e=>by simp at e
 |_::_,[],_,_,e=>by simp at e
 |b::as,q::ps,a,p,e=>by
  rw[List.zip_cons_cons,List.lookup_cons]at e
  cases hb:(a == b) with
  |true=>rw[hb]at e; cases e; exact ⟨0,by simp[eq_of_beq hb],rfl⟩
  |false =>
   rw[hb]at e
   obtain ⟨i,h1,h2⟩:=YK e
   exact ⟨i+1,by simpa using h1,by simpa using h2⟩
theorem TW {α γ:Type} {R:α->γ->Prop}:∀{xs:List α} {ys:List γ} {i:Nat} {x:α} {y:γ},Paired R xs ys->xs[i]?=some x->ys[i]?=some y->R x y
 |_,_,_,_,_,.nil,e,_=>by simp at e
 |_,_,0,_,_,.cons h _,e1,e2=>by simp at e1 e2; subst e1 e2; exact h
 |_,_,i+1,_,_,.cons _ r,e1,e2=>TW (i:=i) r (by simpa using e1) (by simpa using e2)
theorem Rv:∀bs:List Addr,Vals (bs.map V.ref) (bs.map Value.ref)
 |[]=>.nil
 |_::r=>.cons rfl (Rv r)
def prT (p:Int × Int):HO:=.tup [.int p.1,.int p.2]
def YG (H:Hp) (as:List Addr) (ps:List (Int × Int)):Hp:=fun b=>match (as.zip ps).lookup b with
 |some p=>some (prT p)
 |none=>H b
def Pe (v d:Addr):HO:=.ext fun h=>h.IsItemsView v d
section
variable {X:Cx} {E:XK}
def rItems:V->List V->Hp->VK->Prop:=fun x vs H Q=>∃d kvs,x=.ref d∧vs=[]∧H d=some (.dK kvs)∧∀p,H p=none->Q (.ref p) (upd H p (Pe p d))
theorem mt_items:MtM X "dict.items" rItems:=by
 intro pins s σ H x vs v us Q I rx rv h
 obtain ⟨d,kvs,rfl,rfl,hd,q⟩:=h
 cases rx
 cases rv
 obtain ⟨z,hS,ws,r,m⟩:=I.hok d _ hd
 refine call_meetsIn PySem.F.slot_dict_items m.typeIs PySem.F.entry_dict_items (PySem.F.args_dict_items_1 _) (meets_dict_items (ZQ X.prog X.w) d hS) ⟨⟨ws,m⟩,?_⟩
 refine ⟨.ref s.heap.objs.size,_,I.laid (o:=Pe s.heap.objs.size d) (t':=s.toks) (fun b u e=>Heap.get?_push_of_some _ e) (Nat.le_refl _) ?_,rfl,q _ I.fresh⟩
 exact ⟨⟨_,Heap.get?_push_size _ rfl,rfl,rfl⟩,⟨_,Heap.get?_push_size _ rfl⟩,fun h1 h2 ⟨o,e1,e2,e3⟩ k=>⟨o,k o e1,e2,e3⟩⟩
def rSortV:List V->Hp->VK->Prop:=fun xs H Q=>∃v d ps,xs=[.ref v]∧H v=some (Pe v d)∧H d=some (.dK (ps.map fun (p:Int × Int)=>((Sum.inl p.1:Key),V.int p.2)))∧ps.length < 64 ∧
 ∀(B:Addr) (as bs:List Addr) (qs:List (Int × Int)),as.Nodup->as.length=ps.length->(∀a∈as,H a=none)->H B=none->B ∉ as->(∃p:List Nat,p.Perm (List.range as.length)∧bs=p.map (fun i=>as.getD i 0)∧qs=p.map (fun i=>ps.getD i (0,0)))->qs.Pairwise (fun x y=>ltP y x=false) ->
  Q (.ref B) (upd (YG H as ps) B (.lst (bs.map V.ref)))
theorem call_sortV (hc:X.calm=true):CallR X (.builtin "sorted") rSortV:=by
 intro pins s σ H xs us Q I r h
 obtain ⟨v,d,ps,rfl,hv,hd,h64,q⟩:=h
 obtain ⟨u,rfl,ru⟩:=Q7 r
 cases (show u=Value.ref v from ru)
 obtain ⟨hview,_,_⟩:=I.hok v _ hv
 obtain ⟨z,hS,ws,rk,m⟩:=I.hok d _ hd
 obtain ⟨o,es,ep,hm⟩:=m
 have hwl:ws.length=ps.length:=by have:=rk.length; rw[List.length_map]at this; exact this.symm
 refine Calls.call_function_entry kind_sorted plain_sorted entry_sorted (args_sorted1 _) (show wpAny _ _ (Builtin.«sorted» _) _ _ _ from ?_)
 unfold Builtin.«sorted»
 refine wpAny_bind (m:=checkCount "sorted" 1 1 _) (wpAny_pure (wpAny_bind (kdx_collect (A:=X.A.in1) (knd:=ZQ X.prog X.w) (kvs:=ws) (ep:=ep) (I.ok.hd hc) hview ⟨o,es,hm⟩ (by rw[sizeLine_eq]; omega) fun h' tk as hk hl hG=>?_)))
 have nd:as.Nodup:=hG.rise.imp fun h=>Nat.ne_of_lt h
 have hal:as.length=ps.length:=by omega
 have pa:PrsAt h' as ps:=⟨hal,fun i a p e1 e2=>by
  obtain ⟨key,k,x,f1,f2,f3⟩:=hG.pairs i a e1
  have e3:(ps.map fun (p:Int × Int)=>((Sum.inl p.1:Key),V.int p.2))[i]?=some ((Sum.inl p.1:Key),V.int p.2):=by rw[List.getElem?_map,e2]; rfl
  obtain ⟨g1,g2⟩:=TW rk e3 f1
  have g1:(Sum.inl p.1:Key)=k:=g1
  subst g1
  obtain ⟨u,g2⟩:=(show ∃u,x=Value.int p.2 u from g2)
  subst g2
  obtain ⟨t,g3⟩:=Value.isInt_shape (k:=p.1) (v:=key) f2
  subst g3
  exact ⟨t,u,f3⟩⟩
 have hB:∀a∈as,a < h'.objs.size:=fun a ha=>hG.there ha
 refine wpAny_bind (wpAny_newList ?_ (by rw[List.length_map,sizeLine_eq]; omega))
 generalize hH1:h'.push { cls:=.type "list",data:=.seq (as.map Value.ref).toArray }=h1
 have k1:∀b o,h'.get? b=some o->h1.get? b=some o:=fun b o e=>by rw[← hH1]; exact Heap.get?_push_of_some _ e
 have hoL:h1.get? h'.objs.size=some (seqObj "list" (as.map Value.ref).toArray 0):=by rw[← hH1]; exact Heap.get?_push_size _ rfl
 have hBn:h'.objs.size ∉ as:=fun hm=>Nat.lt_irrefl _ (hB _ hm)
 refine wpAny_bind (wpAny_holding (wpAny_call_entry slot_list_sort ⟨_,hoL,rfl⟩ entry_list_sort (sort_shell (s:={ s with heap:=h1,toks:=tk }) hoL (pa.keep fun a _ o e=>k1 a o e) hBn (by omega) fun h2 bs qs c k2 g2 hp hs=>⟨_,rfl,wpAny_pure ⟨_,rfl,?_⟩⟩) (args_list_sort _)))
 have kp:∀b o,s.heap.get? b=some o->h2.get? b=some o:=fun b o e=>k2 b o (Nat.ne_of_lt (Heap.lt_size (hk b o e))) (k1 b o (hk b o e))
 have fa:∀a∈as,s.heap.get? a=none:=fun a ha=>Heap.get?_none_of_le (Nat.le_of_lt (hG.above a ha))
 have fH:∀a∈as,H a=none:=fun a ha=>I.hok.fresh (Nat.le_of_lt (hG.above a ha))
 have fB:H h'.objs.size=none:=by
  cases hh:H h'.objs.size with
  |none=>rfl
  |some ob =>
   obtain ⟨x,ex⟩:=(I.hok _ _ hh).ex
   exact absurd (Heap.lt_size (hk _ _ ex)) (Nat.lt_irrefl _)
 have inA:∀{b:Addr} {p:Int × Int},(as.zip ps).lookup b=some p->b∈as:=fun {b p} e=>let ⟨i,h1,_⟩:=YK e; List.mem_of_getElem? h1
 have old:∀b o,H b=some o->upd (YG H as ps) h'.objs.size (.lst (bs.map V.ref)) b=some o:=fun b o e=>by
  rw[Zp (ZL e fB)]
  unfold YG
  match hx:(as.zip ps).lookup b with
  |some p=>rw[fH b (inA hx)]at e; cases e
  |none=>exact e
 have notOld:∀b o,s.heap.get? b=some o->H b=none->upd (YG H as ps) h'.objs.size (.lst (bs.map V.ref)) b=none:=fun b o e n=>by
  rw[Zp (Nat.ne_of_lt (Heap.lt_size (hk b o e)))]
  unfold YG
  match hx:(as.zip ps).lookup b with
  |some p=>rw[fa b (inA hx)]at e; cases e
  |none=>exact n
 refine ⟨.ref h'.objs.size,_,I.un (t':=tk) (H':=upd (YG H as ps) h'.objs.size (.lst (bs.map V.ref))) ⟨fun b o e n _ _=>kp b o e,fun b o e n _ _=>⟨o.slots,kp b o e⟩,fun b o e n _=>notOld b o e n,fun b o e _=>⟨o,kp b o e⟩,fun b xs e=>old b _ e,fun b o u e=>old b _ e,fun b xs e=>⟨#[],by rw[Array.append_empty]; exact old b _ e⟩⟩ (fun b o e=>?_),rfl,q _ as bs qs nd hal fH fB hBn hp hs⟩
 by_cases hb:b=h'.objs.size
 ·subst hb
  rw[ZA]at e
  cases e
  obtain ⟨p,hp1,hp2,hp3⟩:=hp
  refine ⟨?_,bs.map Value.ref,c,?_,g2⟩
  ·rw[List.length_map,hp2,List.length_map,hp1.length_eq,List.length_range,sizeLine_eq]; omega
  ·exact Rv bs
 ·rw[Zp hb]at e
  unfold YG at e
  match hx:(as.zip ps).lookup b,e with
  |some p,e =>
   have e:some (prT p)=some o:=e
   cases e
   obtain ⟨i,h1',h2'⟩:=YK hx
   obtain ⟨t,u,ho⟩:=pa.at' i b p h1' h2'
   exact ⟨by show 2<=sizeLine; decide,[.int p.1 t,.int p.2 u],.cons ⟨t,rfl⟩ (.cons ⟨u,rfl⟩ .nil),⟨_,k2 b _ hb (k1 b _ ho),rfl,_,rfl⟩⟩
  |none,e =>
   exact (I.hok b o e).stay (fun c w' _ q'=>kp c w' q') (fun c q'=>old c _ q') fun c xs q'=>old c _ q'
def insP (p:Int × Int):List (Int × Int)->List (Int × Int)
 |[]=>[p]
 |q::r=>if ltP q p=true then q::insP p r else p::q::r
def Xk:List (Int × Int)->List (Int × Int)
 |[]=>[]
 |p::r=>insP p (Xk r)
theorem UG (p:Int × Int):∀l,(insP p l).Perm (p::l)
 |[]=>List.Perm.refl _
 |q::r=>by
  unfold insP
  split
  ·exact ((UG p r).cons q).trans (List.Perm.swap p q r)
  ·exact List.Perm.refl _
theorem YY:∀l,(Xk l).Perm l
 |[]=>List.Perm.refl _
 |p::r=>(UG p (Xk r)).trans ((YY r).cons p)
abbrev SrtP (l:List (Int × Int)):Prop:=l.Pairwise fun x y=>ltP y x=false
theorem QT (p:Int × Int):∀l,SrtP l->SrtP (insP p l)
 |[],_=>List.pairwise_singleton _ _
 |q::r,h=>by
  have h':=List.pairwise_cons.mp h
  unfold insP
  by_cases hc:ltP q p=true
  ·rw[if_pos hc]
   refine List.pairwise_cons.mpr ⟨fun y hy=>?_,QT p r h'.2⟩
   rcases List.mem_cons.mp ((UG p r).mem_iff.mp hy) with rfl|hy
   ·cases z:ltP y q with
    |false=>rfl
    |true=>have a:=Yt.mp hc; have b:=Yt.mp z; omega
   ·exact h'.1 y hy
  ·rw[if_neg hc]
   refine List.pairwise_cons.mpr ⟨fun y hy=>?_,h⟩
   have hc':ltP q p=false:=by simpa using hc
   rcases List.mem_cons.mp hy with rfl|hy
   ·exact hc'
   ·cases z:ltP y p with
    |false=>rfl
    |true =>
     have e:=h'.1 y hy
     have a:=Yt.mp z
     have b:¬ _:=fun w'=>hc (Yt.mpr w')
     have c:¬ _:=fun w'=>absurd (Yt.mpr w') (by rw[e]; exact Bool.false_ne_true)
     omega
theorem W7:∀l,SrtP (Xk l)
 |[]=>List.Pairwise.nil
 |p::r=>QT p _ (W7 r)
theorem S5:∀{l m:List (Int × Int)},l.Perm m->SrtP l->SrtP m->l=m
 |[],m,h,_,_=>(List.nil_perm.mp h).symm
 |x::l,[],h,_,_=>absurd h (by simp)
 |x::l,y::m,h,h1,h2=>by
  have h1':=List.pairwise_cons.mp h1
  have h2':=List.pairwise_cons.mp h2
  have e:x=y:=by
   have hx:=h.mem_iff.mp (List.mem_cons_self (a:=x) (l:=l))
   have hy:=h.mem_iff.mpr (List.mem_cons_self (a:=y) (l:=m))
   rcases List.mem_cons.mp hx with hx|hx
   ·exact hx
   ·rcases List.mem_cons.mp hy with hy|hy
    ·exact hy.symm
    ·have a:=h1'.1 y hy
     have b:=h2'.1 x hx
     have a':¬ _:=fun w'=>absurd (Yt.mpr w') (by rw[a]; exact Bool.false_ne_true)
     have b':¬ _:=fun w'=>absurd (Yt.mpr w') (by rw[b]; exact Bool.false_ne_true)
     exact Prod.ext (by omega) (by omega)
  subst e
  rw[S5 h.cons_inv h1'.2 h2'.2]
def UJ:List (Key × Wv)->Option (List (Int × Int))
 |[]=>some []
 |(.inl k,.int v)::r=>match UJ r with
  |some ps=>some ((k,v)::ps)
  |none=>none
 |_=>none
def prW (p:Int × Int):Wv:=.tup [.int p.1,.int p.2]
def Wl (d:Wv):Mw (List Wv):=fun om=>match d with
 |.o h=>match om[h]? with
  |some (.dk kvs)=>match UJ kvs with
   |some ps=>if ps.length < 64 then some (.ok ((Xk ps).map prW),om) else none
   |none=>none
  |_=>none
 |_=>none
theorem RC {F:Hp} {β:List Addr}:∀{kvs:List (Key × Wv)} {qs:List (Key × V)} {ps:List (Int × Int)},RK F β kvs qs->UJ kvs=some ps->qs=ps.map fun (p:Int × Int)=>((Sum.inl p.1:Key),V.int p.2)
 |_,_,_,.nil,e=>by cases e; rfl
 |(.inr _,_)::_,_,_,.cons _ _,e=>by cases e
 |(.inl k,w)::r,_,_,.cons h rr,e=>by
  cases h with
  |int v =>
   have e:(match UJ r with|some ps=>some ((k,v)::ps)|none=>none)=some _:=e
   match hr:UJ r,e with
   |some ps,e =>
    have e:some ((k,v)::ps)=some _:=e
    cases e
    rw[List.map_cons,← RC rr hr]
   |none,e=>exact nomatch e
  |_=>exact nomatch e
theorem MOk.newP {F H:Hp} {β:List Addr} {om:List Ob} {as:List Addr} {ps:List (Int × Int)} (M:MOk F H β om) (hf:∀a∈as,H a=none):Gx F (YG F as ps) H (YG H as ps) β β∧MOk (YG F as ps) (YG H as ps) β om:=by
 have inA:∀{b:Addr} {p:Int × Int},(as.zip ps).lookup b=some p->b∈as:=fun {b p} e=>let ⟨i,h1,_⟩:=YK e; List.mem_of_getElem? h1
 have oldH:∀b o,H b=some o->YG H as ps b=some o:=fun b o e=>by
  unfold YG
  match hx:(as.zip ps).lookup b with
  |some p=>rw[hf b (inA hx)]at e; cases e
  |none=>exact e
 have oldF:∀b o,F b=some o->YG F as ps b=some o:=fun b o e=>by
  unfold YG
  match hx:(as.zip ps).lookup b with
  |some p=>have:=M.sub b o e; rw[hf b (inA hx)]at this; cases this
  |none=>exact e
 have out:∀b,b ∉ as->YG F as ps b=F b∧YG H as ps b=H b:=fun b hb=>by
  unfold YG
  match hx:(as.zip ps).lookup b with
  |some p=>exact absurd (inA hx) hb
  |none=>exact ⟨rfl,rfl⟩
 have nb:∀(h:Nat) (a:Addr),β[h]?=some a->a ∉ as:=fun h a e ha=>by
  obtain ⟨x,hx⟩:=M.there e
  rw[hf a ha]at hx; cases hx
 have g:Gr F (YG F as ps) β β:=⟨oldF,fun _ _ e=>e⟩
 refine ⟨⟨g,fun b o e _=>oldH b o e,fun b e=>?_,fun b hb=>.inl hb,fun b o e=>?_,fun b o u e=>oldH b _ e⟩,⟨fun b o e=>?_,M.nd,M.len,fun h a e=>by rw[(out a (nb h a e)).1]; exact M.free h a e,fun h a x e1 e2=>(M.ob h a x e1 e2).mono g (out a (nb h a e1)).2⟩⟩
 ·cases hh:H b with
  |none=>rfl
  |some o=>rw[oldH b o hh]at e; cases e
 ·by_cases hb:b∈as
  ·exact .inr (hf b hb)
  ·rw[(out b hb).1]at e; exact .inl e
 ·unfold YG at e ⊢
  match hx:(as.zip ps).lookup b,e with
  |some p,e=>exact e
  |none,e=>exact M.sub b o e
def Wk (k:List Wv->Mw Wv) (f:FE):FE:=fun sl=>bnd (f sl) fun d=>bnd (Wl d) k
variable {o:Expr} {f:FE} {k:List Wv->Mw Wv} {p pos apos cpos:Pos}
theorem qe_sortIt (hk : U4 E k) (hc : X.calm = true) (hg : Gl X "sorted") (hm : X.mg "sorted" = none) (ho : PE X o (tE E f)) (hbase : attributeBase o "items" X.env (eval o X.env) = eval o X.env := by rfl) (hline : (apos.endLine == cpos.line) = true := by rfl)
    (h0:starEach [.Call (.Attribute o "items" apos) [] [] cpos] X.env=(false,eval (.Call (.Attribute o "items" apos) [] [] cpos) X.env)::starEach [] X.env:=by rfl) (hpl:(backTo pos (starEach [] X.env)).any (·.1)=false:=by rfl) :
    PE X (.Call (.Name "sorted" p) [.Call (.Attribute o "items" apos) [] [] cpos] [] pos) (tE E (Wk k f)) :=
  (Tq (call_sortV hc) hg hm PyProof.Rows.boot_sorted (Wn (pe_bm0 PySem.F.plainAttrs_dict PySem.F.slot_dict_items PySem.F.type_dict_items mt_items ho hbase hline) UH h0) (by decide) (by decide) h0 hpl).weak fun σ H Q ⟨F,β,om,sl,M,V,R⟩=>by
  refine ⟨F,β,om,sl,M,V,R.bind fun x om1 F1 H1 β1 g1 M1 R1 v rv=>?_⟩
  cases rv with
  |@o h a eb =>
    unfold bnd Wl at R1
    dsimp only at R1
    match hx:om1[h]?,R1 with
    |none,R1=>exact R1.elim
    |some (.ins _ _),R1=>exact R1.elim
    |some (.exc _),R1=>exact R1.elim
    |some (.dz _),R1=>exact R1.elim
    |some (.lst _),R1=>exact R1.elim
    |some (.dt _),R1=>exact R1.elim
    |some (.dk kvs),R1 =>
      obtain ⟨a',ea,_,ks,hks,rs⟩:=M1.at hx
      rw[eb]at ea; cases ea
      dsimp only at R1
      match hp:UJ kvs,R1 with
      |none,R1=>exact R1.elim
      |some ps,R1 =>
        dsimp only at R1
        by_cases hl:ps.length < 64
        · have R2 : Res E (k ((Xk ps).map prW) om1) F1 H1 β1 (PV Q):=by
            have:=R1
            rw[if_pos hl]at this
            exact this
          have eks:=RC rs hp
          refine ⟨.inr (.inr (.inl ⟨rfl,.inl ⟨ks,hks⟩⟩)),a,ks,rfl,rfl,hks,fun v hv=>?_⟩
          have MU:=M1.newU (o:=Pe v a) hv
          have gU:=M1.gxU (o:=Pe v a) hv
          refine ⟨v,a,ps,rfl,ZA,by rw[Zp (ZL hks hv),hks,eks],hl,fun B as bs qs nd hal hf hB hBa ⟨p,hp1,hp2,hp3⟩ hs=>?_⟩
          obtain ⟨g3,M3⟩:=MU.newP (ps:=ps) hf
          have eqs:qs=Xk ps:=by
            refine S5 ?_ hs (W7 ps)
            refine List.Perm.trans ?_ (YY ps).symm
            rw[hp3]
            refine (hp1.map _).trans ?_
            rw[hal]
            have:(List.range ps.length).map (fun i=>ps.getD i (0,0))=ps:=List.ext_getElem? fun i=>by
              by_cases hi:i < ps.length
              · simp[hi]
              · simp[hi]
            rw[this]
          have rws:RWs (YG F1 as ps) β1 ((Xk ps).map prW) (bs.map L2.V.ref):=by
            rw[← eqs,hp3,hp2]
            have hall:∀i∈p,i < as.length:=fun i hi=>by have:=hp1.mem_iff.mp hi; simpa using this
            clear hp1 hp2 hp3 eqs hs
            induction p with
            |nil=>exact .nil
            |cons i p ih =>
              have hi:=hall i (.head _)
              refine .cons ?_ (ih fun j hj=>hall j (.tail _ hj))
              have e1:as.getD i 0=as[i]:=by simp[hi]
              have e2:ps.getD i (0,0)=ps[i]'(by omega):=by simp[show i < ps.length by omega]
              show RW (YG F1 as ps) β1 (prW (ps.getD i (0,0))) (L2.V.ref (as.getD i 0))
              rw[e1,e2]
              refine .tup ?_ (.cons (.int _) (.cons (.int _) .nil))
              unfold YG
              rw[Sg nd (List.getElem?_eq_getElem hi) (List.getElem?_eq_getElem (by omega))]
              rfl
          exact (hk M3 rws (Res.mono (gU.trans g3) R2)).2 (by
            unfold YG
            match hx2:(as.zip ps).lookup B with
            |some p=>exact absurd (let ⟨i,h1,_⟩:=YK hx2; List.mem_of_getElem? h1) hBa
            |none=>exact hB)
        · rw[if_neg hl]at R1; exact R1.elim
  |_=>exact R1.elim
end
end
end L2
namespace L2
noncomputable section
open PySem
theorem VC {c:FT} {f:FE} {mk:Wv->Sl} {om:List Ob} (p:Wv->Bool) (g:Wv->Wv):∀{l:List Wv},(∀w∈l,c (mk w) om=some (.ok (p w),om))->(∀w∈l,p w=true->f (mk w) om=some (.ok (g w),om))->Y5 c f mk l om=some (.ok ((l.filter p).map g),om)
 |[],_,_=>rfl
 |w::r,hc,hf=>by
  have ih:=VC p g (l:=r) (fun x hx=>hc x (.tail _ hx)) (fun x hx=>hf x (.tail _ hx))
  have h1:=hc w (.head _)
  show bnd (ZS (c (mk w))) (kOne (Y5 c f mk r) (f (mk w))) om=_
  cases hp:p w with
  |false=>simp[bnd,ZS,h1,hp,kOne,ih,List.filter_cons]
  |true =>
   have h2:=hf w (.head _) hp
   simp[bnd,ZS,h1,hp,kOne,ih,h2,List.filter_cons,ret]
theorem Pd (p:Wv->Bool) (n:Nat):(Vd n).filter p=((List.range n).filter fun k=>p (.int (k:Nat))).map fun (k:Nat)=>Wv.int k:=by
 unfold Vd
 rw[List.filter_map]
 rfl
theorem QP {n:Nat} {w:Wv} (h:w∈Vd n):∃k,k < n∧w=.int (k:Nat):=by
 obtain ⟨k,hk,e⟩:=List.mem_map.mp h
 exact ⟨k,List.mem_range.mp hk,e.symm⟩
theorem Pt (n:Nat):(Vd n).length=n:=by simp[Vd]
def Y2 (us:List (Int × Int)):List (Key × Wv):=us.map fun p=>(.inl p.1,.int p.2)
theorem To (us:List (Int × Int)) (k:Int):X1 (Y2 us) (.inl k)=(us.lookup k).map Wv.int:=by
 induction us with
 |nil=>rfl
 |cons p us ih =>
  unfold X1 Y2 at ih ⊢
  rw[List.map_cons,List.find?_cons,List.lookup_cons]
  by_cases h:p.1=k
  ·simp[h]
  ·have h':(k == p.1)=false:=beq_eq_false_iff_ne.mpr (Ne.symm h)
   have h2:¬ (Sum.inl p.1:Key)=Sum.inl k:=fun z=>h (Sum.inl.inj z)
   simp only[h2,decide_false,h']
   exact ih
theorem putW_us {us:List (Int × Int)} {k:Int} (s:Int) (h:us.lookup k=none):Xv (Y2 us) (.inl k) (.int s)=Y2 (us++[(k,s)]):=by
 have:((Y2 us).any fun kv=>decide (kv.1=(Sum.inl k:Key)))=false:=by
  have hv:=To us k
  rw[h]at hv
  unfold X1 at hv
  cases hf:(Y2 us).find? fun kv=>decide (kv.1=(Sum.inl k:Key)) with
  |some x=>rw[hf]at hv; cases hv
  |none =>
   rw[List.any_eq_false]
   intro x hx
   exact List.find?_eq_none.mp hf x hx
 unfold Xv
 rw[this,if_neg Bool.false_ne_true]
 simp[Y2]
theorem Pu:∀us:List (Int × Int),UJ (Y2 us)=some us
 |[]=>rfl
 |p::us=>by
  show (match UJ (Y2 us) with|some ps=>some ((p.1,p.2)::ps)|none=>none)=_
  rw[Pu us]
theorem kvsOf_len (us:List (Int × Int)):(Y2 us).length=us.length:=by simp[Y2]
def Xr:Option Int->Wv
 |none=>.non
 |some s=>.int s
structure UR (us:List (Int × Int)) (f:List (Option Int)):Prop where
 nd:(us.map (·.1)).Nodup
 mem:∀k s,(k,s)∈us ↔ 0<=k∧f[k.toNat]?=some (some s)
def dueL (f:List (Option Int)):List (Int × Int):=(List.range f.length).filterMap fun k=>(f.getD k none).map fun s=>((k:Int),s)
theorem mem_dueL {f:List (Option Int)} {k s:Int}:(k,s)∈dueL f ↔ 0<=k∧f[k.toNat]?=some (some s):=by
 unfold dueL
 rw[List.mem_filterMap]
 constructor
 ·rintro ⟨j,hj,e⟩
  obtain ⟨t,ht,e2⟩:=Option.map_eq_some_iff.mp e
  cases e2
  have hj:=List.mem_range.mp hj
  refine ⟨by omega,?_⟩
  rw[Int.toNat_natCast]
  rw[List.getD_eq_getElem?_getD,List.getElem?_eq_getElem hj]at ht
  rw[List.getElem?_eq_getElem hj]
  simpa using ht
 ·rintro ⟨h0,e⟩
  have hl:=(List.getElem?_eq_some_iff.mp e).1
  refine ⟨k.toNat,List.mem_range.mpr hl,?_⟩
  rw[List.getD_eq_getElem?_getD,e]
  simp; omega
theorem WT:∀{l m:List (Int × Int)},l.Pairwise (fun x y=>x.1 < y.1)->m.Pairwise (fun x y=>x.1 < y.1)->(∀p,p∈l ↔ p∈m)->l=m
 |[],[],_,_,_=>rfl
 |[],y::m,_,_,h=>absurd ((h y).mpr (.head _)) (by simp)
 |x::l,[],_,_,h=>absurd ((h x).mp (.head _)) (by simp)
 |x::l,y::m,h1,h2,h=>by
  have h1':=List.pairwise_cons.mp h1
  have h2':=List.pairwise_cons.mp h2
  have e:x=y:=by
   rcases List.mem_cons.mp ((h x).mp (.head _)) with hx|hx
   ·exact hx
   ·rcases List.mem_cons.mp ((h y).mpr (.head _)) with hy|hy
    ·exact hy.symm
    ·have a:=h1'.1 y hy
     have b:=h2'.1 x hx
     omega
  subst e
  congr 1
  refine WT h1'.2 h2'.2 fun p=>⟨fun hp=>?_,fun hp=>?_⟩
  ·rcases List.mem_cons.mp ((h p).mp (.tail _ hp)) with rfl|hq
   ·have:=h1'.1 p hp; omega
   ·exact hq
  ·rcases List.mem_cons.mp ((h p).mpr (.tail _ hp)) with rfl|hq
   ·have:=h2'.1 p hp; omega
   ·exact hq
theorem dueL_strict (f:List (Option Int)):(dueL f).Pairwise (fun x y=>x.1 < y.1):=by
 unfold dueL
 refine List.Pairwise.filterMap (R:=(· < ·)) _ (fun a b hab x hx y hy=>?_) List.pairwise_lt_range
 obtain ⟨s,_,rfl⟩:=Option.map_eq_some_iff.mp hx
 obtain ⟨t,_,rfl⟩:=Option.map_eq_some_iff.mp hy
 show (a:Int) < b
 omega
theorem UR.sort {us:List (Int × Int)} {f:List (Option Int)} (u:UR us f):Xk us=dueL f:=by
 have hp:=YY us
 have hn:((Xk us).map (·.1)).Nodup:=(hp.map _).nodup_iff.mpr u.nd
 refine WT ?_ (dueL_strict f) fun p=>?_
 ·have hs:=W7 us
  have hn':=List.pairwise_map.mp hn
  refine (hs.and hn').imp fun {x y} h=>?_
  have a:¬ _:=fun w'=>absurd (Yt.mpr w') (by rw[h.1]; exact Bool.false_ne_true)
  have b:=h.2
  omega
 ·obtain ⟨k,s⟩:=p
  rw[hp.mem_iff,u.mem,mem_dueL]
theorem UR.len {us:List (Int × Int)} {f:List (Option Int)} (u:UR us f):us.length<=f.length:=by
 rw[← (YY us).length_eq,u.sort]
 unfold dueL
 exact Nat.le_trans (List.length_filterMap_le _ _) (by simp)
theorem Wt {a b:String}:(Str.ofString a=Str.ofString b)=(a=b):=by
 refine propext ⟨fun h=>?_,fun h=>by rw[h]⟩
 rw[Str.ofString_eq_toList,Str.ofString_eq_toList]at h
 injection h with h
 have h:=congrArg Array.toList h
 simp only at h
 have inj:∀{l m:List Char},l.map Char.toNat=m.map Char.toNat->l=m:=by
  intro l
  induction l with
  |nil=>intro m e; cases m with|nil=>rfl|cons _ _=>simp at e
  |cons x l ih =>
   intro m e
   cases m with
   |nil=>simp at e
   |cons y m =>
    simp only[List.map_cons,List.cons.injEq]at e
    rw[ih e.2,Char.ext (UInt32.toNat_inj.mp e.1)]
 exact String.toList_inj.mp (inj h)
theorem Yw {a b:String}:(Str.ofString a == Str.ofString b)=decide (a=b):=by
 rw[Bool.eq_iff_iff,beq_iff_eq,decide_eq_true_iff,Wt]
theorem W2:isNon .non=true:=rfl
theorem W5 (i:Int):isNon (.int i)=false:=rfl
theorem Ub (b:Bool):isNon (.bl b)=false:=rfl
theorem W3 (ws:List Wv):isNon (.tup ws)=false:=rfl
theorem W9 (ws:List Wv):isNon (.lst ws)=false:=rfl
theorem Tf (h:Nat):isNon (.o h)=false:=rfl
theorem Xz (n:Nat) (om:List Ob) (h:n<=lim):XU (.int n) om=some (.ok (Vd n),om):=by
 have hl:n<=100000:=Z1 ▸ h
 have hd:decide (-(2 ^ 62)<=(n:Int)∧(n:Int) < 2 ^ 62)=true:=by
  rw[decide_eq_true_iff]
  exact ⟨by omega,by omega⟩
 simp only[XU,hd]
 rw[Int.toNat_natCast]
 rfl
theorem Xd (a b:Int) (om:List Ob):XS true (.int a) (.int b) om=some (.ok (.bl (!decide (a=b))),om):=by
 simp[XS,YT,X8,Ww,PyData.canLay0,PyData.depth,PyData.eqv]
 rfl
theorem Xp (a b:Int) (om:List Ob):XS false (.int a) (.int b) om=some (.ok (.bl (decide (a=b))),om):=by
 simp[XS,YT,X8,Ww,PyData.canLay0,PyData.depth,PyData.eqv]
 rfl
theorem Zk {S1 S2:FS} {sl sl1:Sl} {om om1:List Ob} (h:S1 sl om=some (.ok (.nx,sl1),om1)):ZE S1 S2 sl om=S2 sl1 om1:=by
 simp[ZE,bnd,h,kSeq]
theorem Yr {S1 S2:FS} {sl sl1:Sl} {om om1:List Ob} {w:Wv} (h:S1 sl om=some (.ok (.rt w,sl1),om1)):ZE S1 S2 sl om=some (.ok (.rt w,sl1),om1):=by
 simp[ZE,bnd,h,kSeq,ret]
theorem ZJ {N:Nat} {S:FS} {ws:List Wv} {sl1:Sl} {om om1:List Ob} {w:Wv} (h:S (Xq N ws) om=some (.ok (.rt w,sl1),om1)):Yj N S ws om=some (.ok w,om1):=by
 simp[Yj,bnd,h,QR,ret]
theorem WG {N:Nat} {S:FS} {ws:List Wv} {sl1:Sl} {om om1:List Ob} (h:S (Xq N ws) om=some (.ok (.nx,sl1),om1)):Yj N S ws om=some (.ok .non,om1):=by
 simp[Yj,bnd,h,QR,ret]
theorem Va {fi:FI} {T:TgW} {S:FS} {sl sl1:Sl} {om om1 om2:List Ob} {ws:List Wv} {r:Fl × Sl} (h:fi sl om=some (.ok ws,om1)) (hf:We T S ws sl om1=some (.ok r,om2)):Ve fi T S sl om=some (.ok r,om2):=by
 simp[Ve,bnd,h,hf]
theorem WZ {k:List Wv->Mw Wv} {js:List Nat} {fi:FI} {c:FT} {f:FE} {sl:Sl} {om om1 om2:List Ob} {ws us:List Wv} (h:fi sl om=some (.ok ws,om1)) (hl:ws.length<=lim) (hc:Y5 c f (fun w=>YR js w sl) ws om1=some (.ok us,om2)):Yh k js fi c f sl om=k us om2:=by
 simp[Yh,bnd,h,chk,hl,hc,ret]
theorem ZK {i:Nat} {f:FE} {sl:Sl} {om om1:List Ob} {w:Wv} (h:f sl om=some (.ok w,om1)):ZU i f sl om=some (.ok (.nx,sl.set i (some w)),om1):=by
 simp[ZU,bnd,h,ret]
end
end L2
set_option maxHeartbeats 400000
namespace L2
open PySem
theorem Zs {α β:Type} {m:Mw α} {k:α->Mw β} {om om1:List Ob} {a:α} (h:m om=some (.ok a,om1)):bnd m k om=k a om1:=by
 simp[bnd,h]
section
variable {sl sl1:Sl} {om om1 om2:List Ob} {f fa fb fo:FE} {c c1 c2:FT} {S S1 S2:FS} {fs:FA} {w x y:Wv} {ws:List Wv} {b:Bool} {i j n:Nat}
theorem Y8 (h:c sl om=some (.ok true,om1)):sIf c S1 S2 sl om=S1 sl om1:=by simp[sIf,bnd,h]
theorem sIf_f (h:c sl om=some (.ok false,om1)):sIf c S1 S2 sl om=S2 sl om1:=by simp[sIf,bnd,h]
theorem ZY (h:c sl om=some (.ok false,om1)):sIf c S1 YJ sl om=some (.ok (.nx,sl),om1):=(sIf_f h).trans rfl
theorem Zb (h:sl[i]?=some (some w)):Za i sl om=some (.ok w,om):=by simp[Za,h,ret]
theorem Zr:fC w sl om=some (.ok w,om):=rfl
theorem Zj:Zi sl om=some (.ok [],om):=rfl
theorem Ze (h:f sl om=some (.ok w,om1)) (hr:fs sl om1=some (.ok ws,om2)):Zc f fs sl om=some (.ok (w::ws),om2):=by simp[Zc,bnd,h,hr,ret]
theorem ZI {k:List Wv->Mw Wv} (h:fs sl om=some (.ok ws,om1)):fA k fs sl om=k ws om1:=by simp[fA,bnd,h]
theorem Vh {k:Wv->Mw Wv} (h:f sl om=some (.ok w,om1)):f1 k f sl om=k w om1:=by simp[f1,bnd,h]
theorem Zx {k:Wv->Wv->Mw Wv} (h:fa sl om=some (.ok x,om1)) (h2:fb sl om1=some (.ok y,om2)):f2 k fa fb sl om=k x y om2:=by simp[f2,bnd,h,h2]
theorem Yz {g:List Wv->Mw Wv} (h:ws.length=n):kN n g ws om=g ws om:=by subst h; simp[kN,chk,bnd,ret]
theorem Z2 (h:f sl om=some (.ok (.bl b),om1)):fB f sl om=some (.ok b,om1):=by simp[fB,bnd,h,kB,ret]
theorem W8 (h:f sl om=some (.ok (.bl b),om1)):X5 f sl om=some (.ok b,om1):=by simp[X5,bnd,h,kTru,UM]
theorem fNot_ok (h:c sl om=some (.ok b,om1)):Se c sl om=some (.ok (!b),om1):=by simp[Se,bnd,h,ret]
theorem fAnd_t (h:c1 sl om=some (.ok true,om1)):Vs c1 c2 sl om=c2 sl om1:=by simp[Vs,bnd,h]
theorem fAnd_f (h:c1 sl om=some (.ok false,om1)):Vs c1 c2 sl om=some (.ok false,om1):=by simp[Vs,bnd,h,ret]
theorem RP (h:c1 sl om=some (.ok false,om1)):fOr c1 c2 sl om=c2 sl om1:=by simp[fOr,bnd,h]
theorem VY (h:fa sl om=some (.ok (.bl true),om1)):Y3 fa fb sl om=fb sl om1:=by simp[Y3,bnd,h,kB,ret]
theorem Zy (h:f sl om=some (.ok w,om1)):Z9 f sl om=some (.ok (.rt w,sl),om1):=by simp[Z9,bnd,h,ret]
theorem Z4 (h:f sl om=some (.ok w,om1)):ZR f sl om=some (.ok (.nx,sl),om1):=by simp[ZR,bnd,h,ret]
theorem Zw {C:Addr} {m:Str} {g:List Wv->Mw Wv} {k:List (Str × Wv)} (h:fo sl om=some (.ok w,om1)) (hi:XQ om1 w=some (C,k)) (hk:k.lookup m=none) (hs:fs sl om1=some (.ok ws,om2)) (hn:ws.length+1=n):Zq C m n g fo fs sl om=g (w::ws) om2:=by
 subst hn
 simp[Zq,bnd,h,kIns,hi,hk,hs,kN,chk,ret]
end
end L2
set_option maxHeartbeats 400000
namespace L2
open PySem
theorem notL_no {K:PySem.W.Frag} (h:notL K=true) {a:Addr} {o:Obj} (e:K.lookup a=some o):o.cls≠.type "list":=by
 intro z
 have hm:∃b,(b,o)∈K:=by
  clear h z
  induction K with
  |nil=>cases e
  |cons p K ih =>
   rw[List.lookup_cons]at e
   split at e
   ·cases e; exact ⟨p.1,.head _⟩
   ·obtain ⟨b,hb⟩:=ih e; exact ⟨b,.tail _ hb⟩
 obtain ⟨b,hb⟩:=hm
 have:=List.all_eq_true.mp h _ hb
 rw[show tyL ((b,o):Addr × Obj).2.cls=true by show tyL o.cls=true; rw[z]; rfl]at this
 cases this
def spLaw (K:PySem.W.Frag):Sp:=fun vs H Q _=>∃(a:Addr) (ns:List Int),vs=[.ref a]∧SqL K H a (ns.map V.int)∧ns.length<=63∧∀H',Q (.bl true) H'
theorem Pl (F:Hp) (β:List Addr):∀ns:List Int,RWs F β (ns.map Wv.int) (ns.map V.int)
 |[]=>.nil
 |i::ns=>.cons (.int i) (Pl F β ns)
theorem law_fin {P : Program} {w : World} {K : PySem.W.Frag} {mg : Str -> Option Value} {base : Heap} {CX : CXT} {k : Nat} {f : Addr} {fd : FuncData} {ps : List Str} {g : List Wv -> Mw Wv} (hK : notL K = true) (G : FnOk P w K mg base CX k f fd ps (spM 1 g))
    (h:∀ns:List Int,∃om,g [.lst (ns.map .int)] []=some (.ok (.bl true),om)):FnOk P w K mg base CX k f fd ps (spLaw K):=G.imp fun vs H Q E ⟨a,ns,e,S,_,q⟩=>by
  subst e
  have r:Rd H a (.lst (ns.map V.int)):=S.resolve_right fun ⟨o,its,n,e,hc,_⟩=>notL_no hK e hc
  obtain ⟨om,e⟩:=h ns
  refine ⟨fun b=>if b=a then H b else none,[],[],[.lst (ns.map .int)],⟨fun b u z=>?_,.nil,rfl,fun h a z=>(by cases z),fun h a x z _=>(by cases z)⟩,.cons (.lst ?_ (Pl _ _ ns)) .nil,rfl,?_⟩
  · by_cases hb:b=a
    · exact (if_pos hb).symm.trans z
    · have:=(if_neg hb).symm.trans z; cases this
  · rcases r with r|⟨o,r⟩
    · exact .inl ((if_pos rfl).trans r)
    · exact .inr ⟨o,(if_pos rfl).trans r⟩
  · rw[e]
    exact fun F' H' β' _ _ v rv=>by cases rv; exact q H'
theorem KIsi.of {K:PySem.W.Frag} {T:Kd} (h:Qg.map (fun s=>PySem.W.kitOne K (.type s) (.type T.nm))=[Kd.non,.bl,.int,.str,.lst,.tup,.dct].map fun t=>some (Kd.isi t T)):KIsi K T:=by
 simp only[Qg,List.map_cons,List.map_nil,List.cons.injEq]at h
 exact ⟨h.1,h.2.1,h.2.2.1,h.2.2.2.1,h.2.2.2.2.1,h.2.2.2.2.2.1,h.2.2.2.2.2.2.1⟩
end L2
set_option maxHeartbeats 400000
namespace L2
noncomputable section
open PySem
def fzW (om:List Ob) (n:Nat):Nat->Wv->Wv
 |0,w=>w
 |k+1,.o h=>if n<=h then (match om[h]? with|some (.lst xs)=>.lst (xs.map (fzW om n k))|_=>.o h) else .o h
 |k+1,.lst xs=>.lst (xs.map (fzW om n k))
 |k+1,.tup xs=>.tup (xs.map (fzW om n k))
 |_+1,w=>w
open Classical in def tidyR (om:List Ob):Option (Except Addr Wv × List Ob)->Option (Except Addr Wv × List Ob)
 |none=>none
 |some (.ok w,om')=>if om'.take om.length=om∧FzW om' om.length w (fzW om' om.length 4 w) then some (.ok (fzW om' om.length 4 w),om) else none
 |some (.error C,om')=>if om'.take om.length=om then some (.error C,om) else none
def tidyG (g:List Wv->Mw Wv):List Wv->Mw Wv:=fun ws om=>tidyR om (g ws om)
open Classical in theorem tidyR_tidy {om:List Ob} (hs:∀x∈om,Vc om.length x) {r:Option (Except Addr Wv × List Ob)} (h:tidyR om r≠none):Tidy om r (tidyR om r):=by
  match r,h with
  |none,h=>exact absurd rfl h
  |some (.ok w,om'),h =>
    have h:¬ ((if om'.take om.length=om∧FzW om' om.length w (fzW om' om.length 4 w) then some (Except.ok (fzW om' om.length 4 w),om) else none)=(none:Option (Except Addr Wv × List Ob))):=h
    by_cases c:om'.take om.length=om∧FzW om' om.length w (fzW om' om.length 4 w)
    · have e : om' = om ++ om'.drop om.length:=by
        conv=>lhs; rw[← List.take_append_drop om.length om',c.1]
      show Tidy om (some (.ok w,om')) (if om'.take om.length=om∧FzW om' om.length w (fzW om' om.length 4 w) then some (Except.ok (fzW om' om.length 4 w),om) else none)
      rw[if_pos c]
      have f:=c.2
      generalize fzW om' om.length 4 w=w' at f
      rw[e]at f ⊢
      exact .ok rfl hs f
    · rw[if_neg c]at h; exact absurd rfl h
  |some (.error C,om'),h =>
    have h:¬ ((if om'.take om.length=om then some (Except.error C,om) else none)=(none:Option (Except Addr Wv × List Ob))):=h
    by_cases c:om'.take om.length=om
    · have e : om' = om ++ om'.drop om.length:=by
        conv=>lhs; rw[← List.take_append_drop om.length om',c]
      show Tidy om (some (.error C,om')) (if om'.take om.length=om then some (Except.error C,om) else none)
      rw[if_pos c]
      rw[e]
      exact .err rfl hs
    · rw[if_neg c]at h; exact absurd rfl h
theorem FnOk.tidyG {P:Program} {w:World} {K:PySem.W.Frag} {mg:Str->Option Value} {base:Heap} {k n:Nat} {f:Addr} {fd:FuncData} {ps:List Str} {CX:CXT} {g:List Wv->Mw Wv} (F:FnOk P w K mg base CX k f fd ps (spM n g)):FnOk P w K mg base CX k f fd ps (spM n (L2.tidyG g)) :=
 FnOk.tidy F fun ws om _ hs h=>tidyR_tidy hs h
open Classical in theorem tidyG_ok {g:List Wv->Mw Wv} {ws:List Wv} {om l:List Ob} {w w':Wv} (h:g ws om=some (.ok w,om++l)) (f:FzW (om++l) om.length w w') (e:fzW (om++l) om.length 4 w=w'):tidyG g ws om=some (.ok w',om):=by
 unfold tidyG
 rw[h]
 show (if (om++l).take om.length=om∧FzW (om++l) om.length w (fzW (om++l) om.length 4 w) then some (Except.ok (fzW (om++l) om.length 4 w),om) else none)=_
 rw[e,if_pos ⟨List.take_left,f⟩]
open Classical in theorem tidyG_er {g:List Wv->Mw Wv} {ws:List Wv} {om l:List Ob} {C:Addr} (h:g ws om=some (.error C,om++l)):tidyG g ws om=some (.error C,om):=by
 unfold tidyG
 rw[h]
 show (if (om++l).take om.length=om then some (Except.error C,om) else none)=_
 rw[if_pos List.take_left]
end
end L2
set_option maxHeartbeats 400000
namespace L2
open PySem
theorem Ys {om:List Ob} {w v:Wv} {xs:List Wv} {k:Nat} (h:YU om w=some xs) (e:xs[k]?=some v):kIx w (.int k) om=some (.ok v,om):=by
 simp[kIx,h,atI_nat e]
theorem Sv {om:List Ob} {w:Wv} {xs:List Wv} (h:YU om w=some xs):Wo [w] om=some (.ok (.int xs.length),om):=by
 simp[Wo,h]
theorem map_get {α:Type} {f:α->Wv} {xs:List α} {k:Nat} (h:k < xs.length) (d:α):(xs.map f)[k]?=some (f (xs.getD k d)):=by
 simp[h,List.getD_eq_getElem?_getD]
theorem ix_at {α:Type} {f:α->Wv} {xs:List α} {om:List Ob} {w:Wv} {k:Nat} (h:YU om w=some (xs.map f)) (hk:k < xs.length) (d:α):kIx w (.int k) om=some (.ok (f (xs.getD k d)),om) :=
 Ys h (map_get hk d)
theorem eq_str (a b:String) (ha:PyData.strOk (Str.ofString a)=true) (hb:PyData.strOk (Str.ofString b)=true) (om:List Ob):XS false (.str a) (.str b) om=some (.ok (.bl (decide (a=b))),om):=by
 simp[XS,YT,X8,Ww,PyData.canLay0,PyData.depth,PyData.eqv,Yw,Wt,ha,hb]
theorem ne_str (a b:String) (ha:PyData.strOk (Str.ofString a)=true) (hb:PyData.strOk (Str.ofString b)=true) (om:List Ob):XS true (.str a) (.str b) om=some (.ok (.bl (!decide (a=b))),om):=by
 simp[XS,YT,X8,Ww,PyData.canLay0,PyData.depth,PyData.eqv,Yw,Wt,ha,hb]
theorem Q4 (a b:Option Int) (om:List Ob):XS true (Xr a) (Xr b) om=some (.ok (.bl (!decide (a=b))),om):=by
 cases a <;> cases b <;> simp[Xr,XS,YT,X8,Ww,PyData.canLay0,PyData.depth,PyData.eqv] <;> rfl
theorem RI {T:TgW} {S:FS} (J:Nat->Sl->List Ob->Prop):∀(n s:Nat) {sl:Sl} {om:List Ob},(∀m,s<=m->m < s+n->∀sl om,J m sl om->∃sl1 fl sl2 om2,T (.int (m:Nat)) sl=some sl1∧S sl1 om=some (.ok (fl,sl2),om2)∧(fl=.nx∨fl=.ct)∧J (m+1) sl2 om2)->J s sl om->∃sl' om',We T S ((List.range' s n).map fun (i:Nat)=>Wv.int i) sl om=some (.ok (.nx,sl'),om')∧J (s+n) sl' om'
 |0,s,sl,om,_,j=>⟨sl,om,rfl,j⟩
 |n+1,s,sl,om,h,j=>by
  obtain ⟨sl1,fl,sl2,om2,h1,h2,h3,h4⟩:=h s (Nat.le_refl _) (by omega) sl om j
  obtain ⟨sl',om',e,j'⟩:=RI J n (s+1) (fun m ha hb=>h m (by omega) (by omega)) h4
  refine ⟨sl',om',?_,by rw[show s+(n+1)=s+1+n by omega]; exact j'⟩
  rw[List.range'_succ,List.map_cons]
  show (match T (.int (s:Nat)) sl with|none=>Y1|some sl1=>bnd (S sl1) (U9 fun sl2=>We T S _ sl2)) om=_
  rw[h1]
  rcases h3 with rfl|rfl
  ·simp[bnd,h2,U9,e]
  ·simp[bnd,h2,U9,e]
theorem TX {T:TgW} {S:FS} {n:Nat} {sl:Sl} {om:List Ob} (J:Nat->Sl->List Ob->Prop) (h:∀m,m < n->∀sl om,J m sl om->∃sl1 fl sl2 om2,T (.int (m:Nat)) sl=some sl1∧S sl1 om=some (.ok (fl,sl2),om2)∧(fl=.nx∨fl=.ct)∧J (m+1) sl2 om2) (j:J 0 sl om):∃sl' om',We T S (Vd n) sl om=some (.ok (.nx,sl'),om')∧J n sl' om':=by
 obtain ⟨sl',om',e,j'⟩:=RI J n 0 (fun m _ hm=>h m (by omega)) j
 rw[Nat.zero_add]at j'
 refine ⟨sl',om',?_,j'⟩
 unfold Vd
 rw[List.range_eq_range']
 exact e
section
variable {sl:Sl} {om:List Ob} {c1 c2:FT} {b1 b2:Bool} {r:Wv}
theorem fAnd_b (h1:c1 sl om=some (.ok b1,om)) (h2:b1=true->c2 sl om=some (.ok b2,om)):Vs c1 c2 sl om=some (.ok (b1&&b2),om):=by
 cases b1 with
 |true=>exact (fAnd_t h1).trans (h2 rfl)
 |false=>exact fAnd_f h1
theorem v2 {k:Wv->Wv->Mw Wv} {i j:Nat} {x y:Wv} (hi:sl[i]?=some (some x)) (hj:sl[j]?=some (some y)):f2 k (Za i) (Za j) sl om=k x y om:=Zx (Zb hi) (Zb hj)
end
theorem QB {ws:List Wv} {om:List Ob} (h:ws.length<=8):Wz ws om=some (.ok (.tup ws),om):=by
 have:ws.length<=lim:=by have:=Z1; omega
 simp[Wz,this,L2.ret]
theorem so_stand:PyData.strOk (Str.ofString "stand")=true:=by decide +kernel
theorem so_move:PyData.strOk (Str.ofString "move")=true:=by decide +kernel
theorem Tj:PyData.strOk (Str.ofString "help")=true:=by decide +kernel
end L2
set_option maxHeartbeats 400000
namespace L2
noncomputable section
open PySem PySem.Spec PyProof.Rows
def RM:List Wv->Mw Wv
 |[x,y]=>kI (fun i j=>.int (if j > i then j else i)) x y
 |_=>Y1
def Q5:List Wv->Mw Wv
 |[x,y]=>kI (fun i j=>.int (if j < i then j else i)) x y
 |_=>Y1
section
variable {X:Cx} {E:XK} {e a b:Expr} {es:List Expr} {f fa fb:FE} {fs:FA} {pos p:Pos}
theorem callK_max2:T7 E (fun xs H Q=>∃i j,xs=[.int i,.int j]∧Q (.int (if j > i then j else i)) H) RM:=by
 intro F H β om ws vs Q M rs R
 match ws,rs,R with
 |[],_,R=>exact R.elim
 |[_],_,R=>exact R.elim
 |_::_::_::_,_,R=>exact R.elim
 |[x,y],.cons rx (.cons ry .nil),R =>
  have R:Res E (kI (fun i j=>.int (if j > i then j else i)) x y om) F H β (PV Q):=R
  cases rx <;> first|exact R.elim|skip
  cases ry <;> first|exact R.elim|skip
  exact ⟨_,_,rfl,(show Res E (ret (Wv.int _) om) F H β (PV Q) from R).now M _ (.int _)⟩
theorem callK_min2:T7 E (fun xs H Q=>∃i j,xs=[.int i,.int j]∧Q (.int (if j < i then j else i)) H) Q5:=by
 intro F H β om ws vs Q M rs R
 match ws,rs,R with
 |[],_,R=>exact R.elim
 |[_],_,R=>exact R.elim
 |_::_::_::_,_,R=>exact R.elim
 |[x,y],.cons rx (.cons ry .nil),R =>
  have R:Res E (kI (fun i j=>.int (if j < i then j else i)) x y om) F H β (PV Q):=R
  cases rx <;> first|exact R.elim|skip
  cases ry <;> first|exact R.elim|skip
  exact ⟨_,_,rfl,(show Res E (ret (Wv.int _) om) F H β (PV Q) from R).now M _ (.int _)⟩
theorem qe_max2 (hc : X.calm = true) (hg : Gl X "max") (hm : X.mg "max" = none) (hb : bootBuiltins "max" = some (.builtin "max")) (ha : PA X (e :: es) (tA E fs)) (he : starEach (e :: es) X.env = (false,eval e X.env) :: starEach es X.env := by rfl) (hpl : (backTo pos (starEach es X.env)).any (·.1) = false := by rfl) :
    PE X (.Call (.Name "max" p) (e::es) [] pos) (tE E (fA RM fs)):=WM (call_max2 hc) callK_max2 hg hm hb ha (by decide) (by decide) he hpl
theorem qe_min2 (hc : X.calm = true) (hg : Gl X "min") (hm : X.mg "min" = none) (hb : bootBuiltins "min" = some (.builtin "min")) (ha : PA X (e :: es) (tA E fs)) (he : starEach (e :: es) X.env = (false,eval e X.env) :: starEach es X.env := by rfl) (hpl : (backTo pos (starEach es X.env)).any (·.1) = false := by rfl) :
    PE X (.Call (.Name "min" p) (e::es) [] pos) (tE E (fA Q5 fs)):=WM (call_min2 hc) callK_min2 hg hm hb ha (by decide) (by decide) he hpl
end
end
end L2
namespace L2
noncomputable section
open PySem PySem.Spec PyProof.Rows
end
end L2
set_option maxHeartbeats 400000
namespace L2
noncomputable section
open PySem PySem.Spec PyProof.Rows
abbrev stW:Wv:=.tup [.str "stand"]
def GTup (K:PySem.W.Frag) (a:Addr):Prop:=∃(o:Obj) (its:Array Value) (n:Nat),K.lookup a=some o∧o.cls=.type "tuple"∧o.data=.seq its n∧its.size<=sizeLine∧Vals [V.str "stand"] its.toList
theorem GTup.sq {K:PySem.W.Frag} {a:Addr} (h:GTup K a) (H:Hp):SqT K H a [.str "stand"]:=.inr h
theorem GTup.of {K:PySem.W.Frag} {a:Addr} {od:Option Addr} {n:Nat} {t:Tok} {sl:Array (Option Value)} (h:K.lookup a=some ⟨.type "tuple",od,.seq #[.str "stand" t] n,sl⟩):GTup K a:=⟨_,_,_,h,rfl,rfl,by show 1<=sizeLine; decide,.cons ⟨t,rfl⟩ .nil⟩
def unG (s:Addr):Wv->Wv
 |.g a=>if a=s then stW else .g a
 |w=>w
theorem unG_g (s:Addr):unG s (.g s)=stW:=if_pos rfl
theorem unG_or {F:Hp} {β:List Addr} {s:Addr} {x:Wv} {v:V} (r:RW F β x v):unG s x=x∨(x=.g s∧v=.ref s∧unG s x=stW):=by
 cases r with
 |g a =>
  by_cases h:a=s
  ·subst h; exact .inr ⟨rfl,rfl,unG_g _⟩
  ·exact .inl (if_neg h)
 |_=>exact .inl rfl
def X6 (s:Addr) (x i:Wv):Mw Wv:=kIx (unG s x) i
section
variable {X:Cx} {E:XK} {e a b:Expr} {es:List Expr} {f fa fb:FE} {fs:FA} {pos p p2:Pos} {s:Addr}
theorem qe_gtup {x:Str} (hg:Gl X x) (h:X.mg x=some (.ref s)) (hd:(x == ("__debug__":Str))=false:=by decide):PE X (.Name x pos) (tE E (fC (.g s))):=qe_c (pe_glob (v:=.ref s) hg h rfl hd) fun _ _=>.g s
theorem st_rws {F:Hp} {β:List Addr}:RWs F β [Wv.str "stand"] [V.str "stand"]:=.cons (.str _) .nil
theorem op2_ixG (G:GTup X.K s):Op2 E (rIx X.K) (X6 s):=by
 intro F H β om x y v u Q M rx ry R
 unfold X6 at R
 rcases unG_or (s:=s) rx with h|⟨rfl,rfl,h⟩
 ·rw[h]at R; exact op2_ix M rx ry R
 ·rw[h]at R
  cases ry with
  |int i =>
   have R:Res E (match L2.atI [Wv.str "stand"] i with|some w=>some (Except.ok w,om)|none=>none) F H β (PV Q):=R
   match ha:L2.atI [Wv.str "stand"] i,R with
   |none,R=>exact R.elim
   |some w,R =>
    obtain ⟨z,ez,rz⟩:=(st_rws (F:=F) (β:=β)).atI ha
    exact .inr (.inl ⟨s,_,i,z,rfl,rfl,G.sq H,ez,(show Res E (ret w om) F H β (PV Q) from R).now M z rz⟩)
  |_=>exact R.elim
theorem Wh (G:GTup X.K s) (ha:PE X a (tE E fa)) (hb:PE X b (tE E fb)) (hs:Qh b:=by intro _ _; rfl):PE X (.Subscript a b pos) (tE E (f2 (X6 s) fa fb)):=(pe_ix ix_seq ha hb hs).weak fun _ _ _ h=>tE_2 (op2_ixG G) h
def Wu:List Wv->Option (List Int)
 |[]=>some []
 |.int i::r=>match Wu r with
  |some is=>some (i::is)
  |none=>none
 |_=>none
theorem Tw {F:Hp} {β:List Addr}:∀{ws:List Wv} {vs:List V} {ns:List Int},RWs F β ws vs->Wu ws=some ns->vs=ns.map V.int
 |_,_,_,.nil,e=>by cases e; rfl
 |_,_,_,.cons (ws:=r) h rr,e=>by
  cases h with
  |int i =>
   have e:(match Wu r with|some is=>some (i::is)|none=>none)=some _:=e
   match hr:Wu r,e with
   |some is,e =>
    have e:some (i::is)=some _:=e
    cases e
    rw[List.map_cons,← Tw rr hr]
   |none,e=>exact nomatch e
  |_=>exact nomatch e
def insI (p:Int):List Int->List Int
 |[]=>[p]
 |q::r=>if q < p then q::insI p r else p::q::r
def WB:List Int->List Int
 |[]=>[]
 |p::r=>insI p (WB r)
theorem Ux (p:Int):∀l,(insI p l).Perm (p::l)
 |[]=>List.Perm.refl _
 |q::r=>by
  unfold insI
  split
  ·exact ((Ux p r).cons q).trans (List.Perm.swap p q r)
  ·exact List.Perm.refl _
theorem XD:∀l,(WB l).Perm l
 |[]=>List.Perm.refl _
 |p::r=>(Ux p (WB r)).trans ((XD r).cons p)
theorem insI_srt (p:Int):∀l:List Int,l.Pairwise (·<=·)->(insI p l).Pairwise (·<=·)
 |[],_=>List.pairwise_singleton _ _
 |q::r,h=>by
  have h':=List.pairwise_cons.mp h
  unfold insI
  by_cases hc:q < p
  ·rw[if_pos hc]
   refine List.pairwise_cons.mpr ⟨fun y hy=>?_,insI_srt p r h'.2⟩
   rcases List.mem_cons.mp ((Ux p r).mem_iff.mp hy) with rfl|hy
   ·omega
   ·exact h'.1 y hy
  ·rw[if_neg hc]
   refine List.pairwise_cons.mpr ⟨fun y hy=>?_,h⟩
   rcases List.mem_cons.mp hy with rfl|hy
   ·omega
   ·have:=h'.1 y hy; omega
theorem Uo:∀l,(WB l).Pairwise (·<=·)
 |[]=>List.Pairwise.nil
 |p::r=>insI_srt p _ (Uo r)
theorem S8:∀{l m:List Int},l.Perm m->l.Pairwise (·<=·)->m.Pairwise (·<=·)->l=m
 |[],m,h,_,_=>(List.nil_perm.mp h).symm
 |x::l,[],h,_,_=>absurd h (by simp)
 |x::l,y::m,h,h1,h2=>by
  have h1':=List.pairwise_cons.mp h1
  have h2':=List.pairwise_cons.mp h2
  have e:x=y:=by
   have hx:=h.mem_iff.mp (List.mem_cons_self (a:=x) (l:=l))
   have hy:=h.mem_iff.mpr (List.mem_cons_self (a:=y) (l:=m))
   rcases List.mem_cons.mp hx with hx|hx
   ·exact hx
   ·rcases List.mem_cons.mp hy with hy|hy
    ·exact hy.symm
    ·have a:=h1'.1 y hy
     have b:=h2'.1 x hx
     omega
  subst e
  rw[S8 h.cons_inv h1'.2 h2'.2]
def seqL (om:List Ob):Wv->Option (List Wv)
 |.lst ws=>some ws
 |.o h=>match om[h]? with
  |some (.lst ws)=>some ws
  |_=>none
 |_=>none
theorem Q2 {F H:Hp} {β:List Addr} {om:List Ob} {w:Wv} {v:V} {ws:List Wv} (M:MOk F H β om) (r:RW F β w v) (e:seqL om w=some ws):∃a xs,v=.ref a∧SqL X.K H a xs∧RWs F β ws xs:=by
 cases r with
 |lst q rs=>cases e; exact ⟨_,_,rfl,.inl (Rd.same M.sub q),rs⟩
 |@o h a eb =>
  have e:(match om[h]? with|some (.lst ws)=>some ws|_=>none)=some ws:=e
  match hx:om[h]?,e with
  |none,e=>exact nomatch e
  |some (.ins _ _),e=>exact nomatch e
  |some (.exc _),e=>exact nomatch e
  |some (.dk _),e=>exact nomatch e
  |some (.dt _),e=>exact nomatch e
  |some (.dz _),e=>exact nomatch e
  |some (.lst us),e =>
   have e:some us=some ws:=e
   cases e
   obtain ⟨a',ea,_,xs,hxs,rs⟩:=M.at hx
   rw[eb]at ea; cases ea
   exact ⟨_,_,rfl,SqL.of hxs,rs⟩
 |_=>cases e
def Xy (k:List Wv->Mw Wv) (ws:List Wv):Mw Wv:=fun om=>match ws with
 |[x]=>match seqL om x with
  |some us=>match Wu us with
   |some ns=>if ns.length < 64 then k ((WB ns).map Wv.int) om else none
   |none=>none
  |none=>none
 |_=>none
theorem ints_rws {F:Hp} {β:List Addr}:∀ns:List Int,RWs F β (ns.map Wv.int) (ns.map V.int)
 |[]=>.nil
 |_::r=>.cons (.int _) (ints_rws r)
theorem callK_sortI {k:List Wv->Mw Wv} (lk:U4 E k):T7 E (rSortI X.K) (Xy k):=by
 intro F H β om ws vs Q M rs R
 match ws,rs,R with
 |[],_,R=>exact R.elim
 |_::_::_,_,R=>exact R.elim
 |[x],.cons rx .nil,R =>
  unfold Xy at R
  dsimp only at R
  match hx:seqL om x,R with
  |none,R=>exact R.elim
  |some us,R =>
   dsimp only at R
   match hn:Wu us,R with
   |none,R=>exact R.elim
   |some ns,R =>
    dsimp only at R
    by_cases hl:ns.length < 64
    ·rw[if_pos hl]at R
     obtain ⟨p,xs,rfl,hs,r2⟩:=Q2 (X:=X) M rx hx
     rw[Tw r2 hn]at hs
     refine ⟨p,ns,rfl,hs,hl,fun q ms h1 h2 hq=>?_⟩
     have e:ms=WB ns:=S8 (h1.trans (XD ns).symm) h2 (Uo ns)
     rw[e]
     exact (lk M (ints_rws _) R).2 hq
    ·rw[if_neg hl]at R; exact R.elim
theorem qe_sortInts {k : List Wv -> Mw Wv} (lk : U4 E k) (hg : Gl X "sorted") (hm : X.mg "sorted" = none) (ha : PA X [e] (tA E fs)) (he : starEach [e] X.env = (false,eval e X.env) :: starEach [] X.env := by rfl) (hpl : (backTo pos (starEach [] X.env)).any (·.1) = false := by rfl) :
    PE X (.Call (.Name "sorted" p) [e] [] pos) (tE E (fA (Xy k) fs)):=WM call_sortI (callK_sortI (X:=X) lk) hg hm PyProof.Rows.boot_sorted ha (by decide) (by decide) he hpl
def XZ:List Wv->Option (List Bool)
 |[]=>some []
 |.bl b::r=>match XZ r with
  |some bs=>some (b::bs)
  |none=>none
 |_=>none
theorem TM {F:Hp} {β:List Addr}:∀{ws:List Wv} {vs:List V} {bs:List Bool},RWs F β ws vs->XZ ws=some bs->vs=bs.map V.bl
 |_,_,_,.nil,e=>by cases e; rfl
 |_,_,_,.cons (ws:=r) h rr,e=>by
  cases h with
  |bl i =>
   have e:(match XZ r with|some is=>some (i::is)|none=>none)=some _:=e
   match hr:XZ r,e with
   |some is,e =>
    have e:some (i::is)=some _:=e
    cases e
    rw[List.map_cons,← TM rr hr]
   |none,e=>exact nomatch e
  |_=>exact nomatch e
def kAnyB (g:List Bool->Bool) (ws:List Wv):Mw Wv:=fun om=>match ws with
 |[x]=>match seqL om x with
  |some us=>match XZ us with
   |some bs=>some (.ok (.bl (g bs)),om)
   |none=>none
  |none=>none
 |_=>none
abbrev kAny:=kAnyB fun bs=>bs.any id
theorem callK_anyB {g:List Bool->Bool}:T7 E (rAnyB X.K g) (kAnyB g):=by
 intro F H β om ws vs Q M rs R
 match ws,rs,R with
 |[],_,R=>exact R.elim
 |_::_::_,_,R=>exact R.elim
 |[x],.cons rx .nil,R =>
  unfold kAnyB at R
  dsimp only at R
  match hx:seqL om x,R with
  |none,R=>exact R.elim
  |some us,R =>
   dsimp only at R
   match hn:XZ us,R with
   |none,R=>exact R.elim
   |some bs,R =>
    obtain ⟨p,xs,rfl,hs,r2⟩:=Q2 (X:=X) M rx hx
    rw[TM r2 hn]at hs
    exact ⟨p,bs,rfl,hs,(show Res E (ret (Wv.bl (g bs)) om) F H β (PV Q) from R).now M _ (.bl _)⟩
theorem qe_any (hc : X.calm = true) (hg : Gl X "any") (hm : X.mg "any" = none) (hb : bootBuiltins "any" = some (.builtin "any")) (ha : PA X [e] (tA E fs)) (he : starEach [e] X.env = (false,eval e X.env) :: starEach [] X.env := by rfl) (hpl : (backTo pos (starEach [] X.env)).any (·.1) = false := by rfl) :
    PE X (.Call (.Name "any" p) [e] [] pos) (tE E (fA kAny fs)):=WM (call_anyB hc) (callK_anyB (X:=X)) hg hm hb ha (by decide) (by decide) he hpl
end
section
variable {X:Cx} {E:XK} {e o:Expr} {fo f:FE}
def rExtR:V->List V->Hp->VK->Prop:=fun x vs H Q=>∃l b xs zs,x=.ref l∧vs=[.ref b]∧H l=some (.lst xs)∧Rd H b (.lst zs)∧xs.length+zs.length<=sizeLine∧Q .non (upd H l (.lst (xs++zs)))
theorem mt_extR:MtM X "list.extend" rExtR:=by
 intro pins s σ H x vs v us Q I rx rv h
 obtain ⟨l,b,xs,zs,rfl,rfl,hH,hB,hz,q⟩:=h
 cases rx
 obtain ⟨u,rfl,ru⟩:=rv.one
 cases ru
 obtain ⟨_,its,n,r,hl,e⟩:=I.lstM hH
 obtain ⟨_,jts,m,r2,e2⟩:=hB.ok I.hok
 have hl2:=r2.length
 have hs:its.toArray.size+jts.toArray.size<=sizeLine:=by simp only[List.size_toArray]; omega
 have hn:¬ (!its.toArray.isEmpty&&Builtin.List.listTooLong (its.toArray.size+jts.toArray.size))=true:=fun z=>by
  rw[notLongL hs,Bool.and_false]at z; cases z
 refine call_meets F.slot_list_extend ⟨_,e,rfl⟩ F.entry_list_extend (F.args_list_extend_2 _ _) (AutoSeq1.list_extend_list_list_0 l its.toArray n b jts.toArray m hn (by simp only[List.size_toArray]; omega) (by omega)) ⟨e,e2,?_⟩
 exact ⟨.non,_,I.lset (its':=its++jts) hH e (by simp) (r.append r2) (by rw[List.length_append]; omega),rfl,q⟩
def kExt (x y:Wv):Mw Wv:=fun om=>match Wc om x,y with
 |some (h,ws),.lst us=>if ws.length+us.length<=lim then some (.ok .non,om.set h (.lst (ws++us))) else none
 |_,_=>none
def fExt (fo f:FE):FE:=fun sl=>bnd (fo sl) fun x=>bnd (kIsL x) fun _=>bnd (f sl) fun y=>kExt x y
theorem qe_extend {apos cpos : Pos} (ho : PE X o (tE E fo)) (he : PE X e (tE E f)) (hbase : attributeBase o "extend" X.env (eval o X.env) = eval o X.env := by rfl)
    (hfew:((backTo cpos (starEach [e] X.env)).all (fun x=>!x.1)&&(backToKw cpos (keywordEach [] X.env)).all (fun x=>x.1.isSome)
      && decide (([e]:List Expr).length+([]:List Keyword).length+(if ([]:List Keyword).isEmpty then 0 else 1) < 30))=true:=by rfl)
    (hline:(apos.endLine == cpos.line)=true:=by rfl) (hs:starEach [e] X.env=(false,eval e X.env)::starEach [] X.env:=by rfl) (hplain:(backTo cpos (starEach [] X.env)).any (·.1)=false:=by rfl) :
    PE X (.Call (.Attribute o "extend" apos) [e] [] cpos) (tE E (fExt fo f)):=(pe_bm PySem.F.plainAttrs_list PySem.F.slot_list_extend PySem.F.type_list_extend mt_extR ho (Wn he UH hs) hbase hfew hline hs hplain).weak fun σ H Q ⟨F,β,om,sl,M,V,R⟩=>by
  refine ⟨F,β,om,sl,M,V,R.bind fun x om1 F1 H1 β1 g1 M1 R1 v rv=>?_⟩
  obtain ⟨ty,R2⟩:=kIsL_rel (X:=X) M1 rv R1
  refine ⟨ty,F1,β1,om1,sl,M1,V.mono g1.toGr,R2.bind fun y om3 F3 H3 β3 g3 M3 R3 u ru=>?_⟩
  show rExtR v [u] H3 Q
  unfold kExt at R3
  match hx:Wc om3 x,R3 with
  |none,R3=>exact R3.elim
  |some (h,ws),R3 =>
    cases ru with
    |@lst b zs us q rs2 =>
      dsimp only at R3
      obtain ⟨a,xs,_,_,eb,rfl,ha,rs⟩:=RL M3 (rv.mono g3.toGr) hx
      by_cases hc:ws.length+us.length<=lim
      · rw[if_pos hc]at R3
        have:=Uf
        have:=rs.length
        have:=rs2.length
        refine ⟨a,b,xs,zs,rfl,rfl,ha,Rd.same M3.sub q,by omega,?_⟩
        exact R3 F3 _ β3 (M3.gxP eb (nz ha)) (M3.put eb ⟨xs++zs,ZA,rs.append rs2⟩) _ .non
      · rw[if_neg hc]at R3; exact R3.elim
    |_=>exact R3.elim
end
section
variable {X:Cx} {E:XK} {tg iter:Expr} {body:List Stmt} {fo:FE} {T:TgW} {g:TG} {S:FS} {pos:Pos}
end
end
end L2
namespace MP
noncomputable section
open PySem L2
structure CA where
 Map:Addr
 Board:Addr
 Orders:Addr
 Turn:Addr
 OrderError:Addr
 NoPlace:Addr
 NoSide:Addr
 Crowded:Addr
 NoUnit:Addr
 OutOfReach:Addr
 STAND:Addr
 kit:Addr->Value->Bool
 caught:Addr->Addr->Bool
def CA.isE (c:CA) (C:Addr):Bool:=C == c.NoPlace || C == c.NoSide || C == c.Crowded || C == c.NoUnit || C == c.OutOfReach
def CA.Ds (c:CA):List Value:=[.ref c.NoPlace,.ref c.NoSide,.ref c.Crowded,.ref c.NoUnit,.ref c.OutOfReach,.type "ValueError"]
def Sn (c:CA):FS :=
 (ZE (sIf (fB (f2 kLt (Za 1) (fA Wo (Zc (Za 0) Zi)))) (Z9 (f2 kIx (Za 0) (Za 1))) YJ)
  (Z9 (fC (.int 0))))
def g__law_cell_at (c:CA):List Wv->Mw Wv:=Yj 2 (Sn c)
def VO (c:CA):FS :=
 (Z9 (Y3 (f1 (kIsi .int) (Za 0)) (f1 Sj (f1 (kIsi .bl) (Za 0)))))
def g__law_whole (c:CA):List Wv->Mw Wv:=Yj 1 (VO c)
end
end MP
set_option maxHeartbeats 400000
namespace MP
open PySem L2
inductive Od where
 |stand
 |move (g:Nat)
 |help (h g:Nat)
 deriving DecidableEq
def odW:Option Od->Wv
 |none=>.non
 |some .stand=>.tup [.str "stand"]
 |some (.move g)=>.tup [.str "move",.int g]
 |some (.help h g)=>.tup [.str "help",.int h,.int g]
abbrev at' {α:Type} (l:List (Option α)) (k:Nat):Option α:=l.getD k none
structure OkT (told:List (Option Od)) (f:List (Option Int)):Prop where
 len:told.length=f.length
 few:told.length<=60
 both:∀k,k < told.length->((at' told k).isSome=true ↔ (at' f k).isSome=true)
 mv:∀k g,at' told k=some (.move g)->g < told.length∧g≠k
 hl:∀k h g,at' told k=some (.help h g)->h < told.length∧g < told.length∧h≠k∧g≠k∧(at' f h).isSome=true
structure Rows (om:List Ob) (tw sw:Wv) (told:List (Option Od)) (f:List (Option Int)):Prop where
 t:YU om tw=some (told.map odW)
 s:YU om sw=some (f.map Xr)
def QJ (told:List (Option Od)) (f:List (Option Int)) (k g:Nat):Bool:=(List.range told.length).any fun m=>decide (at' told m=some (.move k))&&(!decide (m=g)&&!decide (at' f m=at' f k))
section
variable (c:CA) {om:List Ob} {tw sw:Wv} {told:List (Option Od)} {f:List (Option Int)}
end
end MP
set_option maxHeartbeats 400000
namespace MP
open PySem L2
def odN:Od->String
 |.stand=>"stand"
 |.move _=>"move"
 |.help _ _=>"help"
theorem so_od (o:Od):PyData.strOk (Str.ofString (odN o))=true:=by
 cases o with
 |stand=>exact so_stand
 |move g=>exact so_move
 |help h g=>exact Tj
def Y4:Option Od->Bool
 |some (.move _)=>true
 |_=>false
theorem isN_side (o:Option Int) (om:List Ob):WE (Xr o) om=some (.ok (.bl o.isNone),om):=by
 cases o <;> rfl
def YF (told:List (Option Od)) (f:List (Option Int)) (k:Nat):Bool:=match at' told k with
 |some (.help h g)=>!QJ told f k g&&(if h=g then !Y4 (at' told h) else decide (at' told h=some (.move g)))
 |_=>false
section
variable (c:CA) {om:List Ob} {tw sw:Wv} {told:List (Option Od)} {f:List (Option Int)}
end
end MP
set_option maxHeartbeats 400000
namespace MP
open PySem L2
def SD (told:List (Option Od)) (f:List (Option Int)) (k goal:Nat) (sd:Option Int) (h:Nat):Bool:=decide (at' told h=some (.help k goal))&&(YF told f h&&!decide (at' f h=sd))
def YQ (told:List (Option Od)) (f:List (Option Int)) (k goal:Nat) (sd:Option Int):Int:=(List.range told.length).foldl (fun a h=>bif SD told f k goal sd h then a+1 else a) 1
def QM (told:List (Option Od)) (f:List (Option Int)) (k:Nat):Int:=bif Y4 (at' told k) then 1 else YQ told f k k (some (-1))
section
variable (c:CA) {om:List Ob} {tw sw kw:Wv} {told:List (Option Od)} {f:List (Option Int)} {kept:List Bool}
end
end MP
set_option maxHeartbeats 400000
namespace MP
open PySem L2
abbrev XX (ns:List Int):Wv:=.lst (ns.map .int)
section
variable (c:CA) {om:List Ob}
theorem cell_ok (ns:List Int) (k:Nat) (om:List Ob):g__law_cell_at c [XX ns,.int k] om=some (.ok (.int (ns.getD k 0)),om):=by
 have hlen:fA Wo (Zc (Za 0) Zi) [some (XX ns),some (.int k)] om=some (.ok (.int ns.length),om):=by
  refine (ZI (Ze (Zb rfl) Zj)).trans ((Sv rfl).trans ?_)
  rw[List.length_map]
 have a1:fB (f2 kLt (Za 1) (fA Wo (Zc (Za 0) Zi))) [some (XX ns),some (.int k)] om=some (.ok (decide (k < ns.length)),om):=by
  refine Z2 ((Zx (Zb rfl) hlen).trans ?_)
  simp[kI,L2.ret]
 by_cases h:k < ns.length
 ·rw[decide_eq_true h]at a1
  refine ZJ (Yr ((Y8 a1).trans (Zy ((v2 rfl rfl).trans (ix_at (xs:=ns) rfl h 0)))))
 ·rw[decide_eq_false h]at a1
  rw[show ns.getD k 0=0 by simp[List.getD_eq_getElem?_getD,List.getElem?_eq_none (Nat.le_of_not_lt h)]]
  exact ZJ ((Zk (ZY a1)).trans (Zy Zr))
theorem whole_ok (i:Int) (om:List Ob):g__law_whole c [.int i] om=some (.ok (.bl true),om):=by
 simp[g__law_whole,VO,Yj,Xq,ZE,kSeq,ZU,ZR,Z9,sRetN,sIf,YJ,Za,fC,f1,f2,fB,kB,fA,Zc,Zi,Wo,YU,bnd,L2.ret,kI,kIc,kIx,QR,Vs,fOr,Se,Y3,fOrV,Qq,WE,WA,W2,W5,Ub,W3,W9,Tf,Sj,kIsi,kdOf,Kd.isi,X5,kTru,UM,Z6,XQ,Zq,kIns,kN,chk,XC,WS,Rm,VX,newO,VJ,Y9,Yk,Yu,Vo,Um,UQ,V4,VE,isD,fPop,kPop,Xo,Ug,U6,kFmt,L2.Rt,Wz,ZT,WD,fRep,QZ,kSl,fSl,fNoP,fPart,Q3,sSetI,kSetI,Wc,Yh,Ve,ZZ,Xz,tgN,kClr,Wk,Wl,ZS,kIsE,sTry,kUn,WP,kCat,Y1,Wt,Yw,L2.Xd,L2.Xp,List.lookup_cons,List.lookup_nil]
theorem Ut {sl:Sl} {i:Nat} {fe:FE} {ns:List Int} {k:Nat} (h:sl[i]?=some (some (XX ns))) (hk:fe sl om=some (.ok (.int k),om)):fA (kN 2 (g__law_cell_at c)) (Zc (Za i) (Zc fe Zi)) sl om=some (.ok (.int (ns.getD k 0)),om) :=
 (ZI (Ze (Zb h) (Ze hk Zj))).trans ((Yz rfl).trans (cell_ok c ns k om))
theorem mod_e {sl:Sl} {fa:FE} {a q:Int} (h:fa sl om=some (.ok (.int a),om)) (hq:0 < q):f2 Vf fa (fC (.int q)) sl om=some (.ok (.int (a % q)),om):=(Zx h Zr).trans (by simp[kIc,L2.ret,hq])
theorem div_e {sl:Sl} {fa:FE} {a q:Int} (h:fa sl om=some (.ok (.int a),om)) (hq:0 < q∧q < 1073741824):f2 kDiv fa (fC (.int q)) sl om=some (.ok (.int (a / q)),om):=(Zx h Zr).trans (by simp[kIc,L2.ret,hq])
theorem Tg {sl:Sl} {i m:Nat} (h:sl[i]?=some (some (.int m))) (hm:m<=lim) (om:List Ob):(fun sl=>bnd ((Za i) sl) XU) sl om=some (.ok (Vd m),om):=(Zs (Zb h)).trans (Xz _ _ hm)
end
end MP
set_option maxHeartbeats 400000
namespace MP
open PySem L2
abbrev Mx:=List (List Bool)
def X3 (rows:Mx) (a b:Nat):Bool:=(rows.getD a []).getD b false
def VL (rows:Mx) (a b:Nat) (v:Bool):Mx:=rows.set a ((rows.getD a []).set b v)
def lkStep (a:Nat) (s:Int × Mx) (b:Nat):Int × Mx:=(s.1 / 2,VL (VL s.2 a b (decide (s.1 % 2=1))) b a (decide (s.1 % 2=1)))
def lkRow (s:Int × Mx) (a:Nat):Int × Mx:=(List.range a).foldl (lkStep a) s
def bits0 (ns:List Int):Int:=if ns.getD 2 0 % 3=0 then 2097151 else ns.getD 1 0 % 2097152
def lksTo (ns:List Int) (m a:Nat):Int × Mx:=(List.range a).foldl lkRow (bits0 ns,List.replicate m (List.replicate m false))
structure Lk (m:Nat) (rows:Mx):Prop where
 len:rows.length=m
 row:∀a,a < m->(rows.getD a []).length=m
 sym:∀a b,X3 rows a b=X3 rows b a
 dg:∀a,X3 rows a a=false
theorem setB_row {rows:Mx} {a b i:Nat} {v:Bool} (ha:a < rows.length):(VL rows a b v).getD i []=if i=a then (rows.getD a []).set b v else rows.getD i []:=by
 unfold VL
 rw[List.getD_eq_getElem?_getD,List.getElem?_set]
 by_cases h:a=i
 ·subst h; simp[ha]
 ·rw[if_neg h,if_neg (Ne.symm h),List.getD_eq_getElem?_getD]
theorem setB_at {rows:Mx} {a b i j:Nat} {v:Bool} (ha:a < rows.length) (hb:b < (rows.getD a []).length):X3 (VL rows a b v) i j=if i=a∧j=b then v else X3 rows i j:=by
 unfold X3
 rw[setB_row ha]
 by_cases h:i=a
 ·subst h
  rw[if_pos rfl,List.getD_eq_getElem?_getD,List.getElem?_set]
  by_cases h2:b=j
  ·subst h2; simp only[if_pos rfl,if_pos hb]; simp
  ·rw[if_neg h2,if_neg (fun z=>h2 z.2.symm),← List.getD_eq_getElem?_getD]
 ·rw[if_neg h,if_neg (fun z=>h z.1)]
theorem Sh (rows:Mx) (a b:Nat) (v:Bool):(VL rows a b v).length=rows.length:=by simp[VL]
theorem WW {rows:Mx} {a b i:Nat} {v:Bool} (ha:a < rows.length):((VL rows a b v).getD i []).length=(rows.getD i []).length:=by
 rw[setB_row ha]
 by_cases h:i=a
 ·subst h; simp
 ·rw[if_neg h]
theorem Lk.step {m:Nat} {rows:Mx} (L:Lk m rows) {a b:Nat} (ha:a < m) (hb:b < a) (v:Bool):Lk m (VL (VL rows a b v) b a v):=by
 have h1:a < rows.length:=L.len ▸ ha
 have h2:b < (rows.getD a []).length:=by rw[L.row a ha]; omega
 have h3:b < (VL rows a b v).length:=by rw[Sh,L.len]; omega
 have h4:a < ((VL rows a b v).getD b []).length:=by rw[WW h1,L.row b (by omega)]; exact ha
 have at2:∀i j,X3 (VL (VL rows a b v) b a v) i j=if i=b∧j=a then v else if i=a∧j=b then v else X3 rows i j:=fun i j=>by
  rw[setB_at h3 h4,setB_at h1 h2]
 refine ⟨by rw[Sh,Sh,L.len],fun i hi=>by rw[WW h3,WW h1,L.row i hi],fun i j=>?_,fun i=>?_⟩
 ·rw[at2,at2]
  by_cases e1:i=b∧j=a
  ·rw[if_pos e1,if_neg (by omega),if_pos ⟨e1.2,e1.1⟩]
  ·rw[if_neg e1]
   by_cases e2:i=a∧j=b
   ·rw[if_pos e2,if_pos ⟨e2.2,e2.1⟩]
   ·rw[if_neg e2,if_neg (by omega),if_neg (by omega),L.sym]
 ·rw[at2,if_neg (by omega),if_neg (by omega),L.dg]
theorem Lk.zero (m:Nat):Lk m (List.replicate m (List.replicate m false)):=by
 have z:∀a b,X3 (List.replicate m (List.replicate m false)) a b=false:=fun a b=>by
  unfold X3
  rw[List.getD_eq_getElem?_getD,List.getD_eq_getElem?_getD,List.getElem?_replicate]
  by_cases h:a < m
  ·rw[if_pos h]
   show ((List.replicate m false)[b]?).getD false=false
   rw[List.getElem?_replicate]
   by_cases h2:b < m
   ·rw[if_pos h2]; rfl
   ·rw[if_neg h2]; rfl
  ·rw[if_neg h]; rfl
 refine ⟨by simp,fun a ha=>?_,fun a b=>by rw[z,z],fun a=>z a a⟩
 rw[List.getD_eq_getElem?_getD,List.getElem?_replicate,if_pos ha]
 simp
theorem Lk.row_to {m:Nat} {s:Int × Mx} (L:Lk m s.2) {a:Nat} (ha:a < m):∀k,k<=a->Lk m ((List.range k).foldl (lkStep a) s).2
 |0,_=>L
 |k+1,h=>by
  rw[List.range_succ,List.foldl_append]
  exact Lk.step (Lk.row_to L ha k (by omega)) ha (by omega) _
theorem Lk.to (ns:List Int) (m:Nat):∀a,a<=m->Lk m (lksTo ns m a).2
 |0,_=>Lk.zero m
 |a+1,h=>by
  unfold lksTo
  rw[List.range_succ,List.foldl_append]
  exact Lk.row_to (Lk.to ns m a (by omega)) (by omega) a (Nat.le_refl _)
end MP
set_option maxHeartbeats 400000
namespace MP
open PySem L2
section
variable (c:CA) {om:List Ob}
theorem chk_ok {b:Bool} {om:List Ob} (h:b=true):chk b om=some (.ok (),om):=by subst h; rfl
end
end MP
set_option maxHeartbeats 400000
namespace MP
open PySem L2
def okOd (rows:Mx) (f:List (Option Int)) (k:Nat):Option Od->Prop
 |none=>at' f k=none
 |some .stand=>(at' f k).isSome=true
 |some (.move g)=>(at' f k).isSome=true∧g < f.length∧X3 rows k g=true
 |some (.help h g)=>(at' f k).isSome=true∧h < f.length∧g < f.length∧h≠k∧(at' f h).isSome=true∧X3 rows k g=true∧(h=g∨X3 rows h g=true)
section
variable (c:CA) {om:List Ob}
theorem Pk {cT:FT} {f:FE} {mk:Wv->Sl} {om:List Ob} {n:Nat} (p:Nat->Bool) (g:Nat->Wv) (hc:∀k,k < n->cT (mk (.int (k:Nat))) om=some (.ok (p k),om)) (hf:∀k,k < n->p k=true->f (mk (.int (k:Nat))) om=some (.ok (g k),om)):Y5 cT f mk (Vd n) om=some (.ok (((List.range n).filter p).map g),om):=by
 rw[VC (fun w=>match w with|.int i=>p i.toNat|_=>false) (fun w=>match w with|.int i=>g i.toNat|_=>.non)]
 ·rw[Pd,List.map_map]
  have e:((List.range n).filter fun k=>(match Wv.int (k:Nat) with|.int i=>p i.toNat|_=>false))=(List.range n).filter p:=List.filter_congr fun k _=>by
   show p ((k:Nat):Int).toNat=_
   rw[Int.toNat_natCast]
  rw[e]
  refine congrArg (fun l=>some (Except.ok l,om)) (List.map_congr_left fun k _=>?_)
  show g ((k:Nat):Int).toNat=_
  rw[Int.toNat_natCast]
 ·intro w hw
  obtain ⟨k,hk,rfl⟩:=QP hw
  show _=some (Except.ok (p ((k:Nat):Int).toNat),om)
  rw[Int.toNat_natCast]
  exact hc k hk
 ·intro w hw hp
  obtain ⟨k,hk,rfl⟩:=QP hw
  have hp:p ((k:Nat):Int).toNat=true:=hp
  rw[Int.toNat_natCast]at hp
  show _=some (Except.ok (g ((k:Nat):Int).toNat),om)
  rw[Int.toNat_natCast]
  exact hf k hk hp
end
end MP
set_option maxHeartbeats 400000
namespace MP
open PySem L2
structure Givn (rows:Mx) (f:List (Option Int)) (told:List (Option Od)):Prop where
 lk:Lk f.length rows
 len:told.length=f.length
 few:f.length<=60
 ok:∀k,k < f.length->okOd rows f k (at' told k)
theorem V8 {α:Type} {l:List (Option α)} {k:Nat} (h:¬ k < l.length):at' l k=none:=by
 unfold at'; rw[List.getD_eq_getElem?_getD,List.getElem?_eq_none (by omega)]; rfl
theorem Givn.okT {rows:Mx} {f:List (Option Int)} {told:List (Option Od)} (G:Givn rows f told):OkT told f:=by
 have dg:∀k g,X3 rows k g=true->g≠k:=fun k g h z=>by subst z; rw[G.lk.dg]at h; cases h
 have inr:∀k o,at' told k=some o->k < f.length:=fun k o e=>by
  by_cases h:k < told.length
  ·rw[← G.len]; exact h
  ·rw[V8 h]at e; cases e
 refine ⟨G.len,by rw[G.len]; exact G.few,fun k hk=>?_,fun k g e=>?_,fun k h g e=>?_⟩
 ·have o:=G.ok k (G.len ▸ hk)
  match e:at' told k,o with
  |none,o=>have o:at' f k=none:=o; rw[o]; simp
  |some .stand,o=>exact ⟨fun _=>o,fun _=>rfl⟩
  |some (.move g),o=>exact ⟨fun _=>o.1,fun _=>rfl⟩
  |some (.help h g),o=>exact ⟨fun _=>o.1,fun _=>rfl⟩
 ·have o:=G.ok k (inr k _ e)
  rw[e]at o
  exact ⟨by rw[G.len]; exact o.2.1,dg k g o.2.2⟩
 ·have o:=G.ok k (inr k _ e)
  rw[e]at o
  exact ⟨by rw[G.len]; exact o.2.1,by rw[G.len]; exact o.2.2.1,o.2.2.2.1,dg k g o.2.2.2.2.2.1,o.2.2.2.2.1⟩
theorem Givn.stand {rows:Mx} {f:List (Option Int)} {told:List (Option Od)} (G:Givn rows f told) {k:Nat} (hk:k < f.length) (hs:(at' f k).isSome=true):Givn rows f (told.set k (some .stand)):=by
 refine ⟨G.lk,by rw[List.length_set]; exact G.len,G.few,fun i hi=>?_⟩
 unfold at'
 rw[List.getD_eq_getElem?_getD,List.getElem?_set]
 by_cases h:k=i
 ·subst h; rw[if_pos rfl,if_pos (by rw[G.len]; exact hk)]; exact hs
 ·rw[if_neg h,← List.getD_eq_getElem?_getD]; exact G.ok i hi
section
variable (c:CA) {om:List Ob}
end
end MP
namespace MP
noncomputable section
open PySem L2
def Sq (c:CA):FS :=
 (ZE (WS c.Map "size" (Za 1) (Za 0))
  (WS c.Map "links" (fun _=>newO (.dt [])) (Za 0)))
def XG (c:CA):List Wv->Mw Wv:=Yj 2 (Sq c)
def Uy (c:CA):FS :=
 (sIf (fOr (fB (f2 kLt (Za 1) (fC (.int 0)))) (fB (f2 kGe (Za 1) (f1 (Z6 c.Map "size") (Za 0))))) (Xo c.NoPlace (Ug (Za 1) U6)) YJ)
def ZC (c:CA):List Wv->Mw Wv:=Yj 2 (Uy c)
def S_Map_link (c:CA):FS :=
 (ZE (ZR (Zq c.Map "need_place" 2 (ZC c) (Za 0) (Zc (Za 1) Zi)))
  (ZE (ZR (Zq c.Map "need_place" 2 (ZC c) (Za 0) (Zc (Za 2) Zi)))
  (ZE (sIf (fB (f2 kEq (Za 1) (Za 2))) (Xo c.OutOfReach (Ug (Za 1) U6)) YJ)
  (ZE (Yu (fC (.bl true)) (f1 (Z6 c.Map "links") (Za 0)) (fA Wz (Zc (Za 1) (Zc (Za 2) Zi))))
  (Yu (fC (.bl true)) (f1 (Z6 c.Map "links") (Za 0)) (fA Wz (Zc (Za 2) (Zc (Za 1) Zi))))))))
def Xg (c:CA):List Wv->Mw Wv:=Yj 3 (S_Map_link c)
def Qb (c:CA):FS :=
 (ZE (ZR (Zq c.Map "need_place" 2 (ZC c) (Za 0) (Zc (Za 1) Zi)))
  (ZE (ZR (Zq c.Map "need_place" 2 (ZC c) (Za 0) (Zc (Za 2) Zi)))
  (Z9 (f2 (VJ false) (fA Wz (Zc (Za 1) (Zc (Za 2) Zi))) (f1 (Z6 c.Map "links") (Za 0))))))
def Wg (c:CA):List Wv->Mw Wv:=Yj 3 (Qb c)
def VR (c:CA):FS :=
 (ZE (WS c.Board "chart" (Za 1) (Za 0))
  (WS c.Board "units" (fun _=>newO (.dk [])) (Za 0)))
def Y6 (c:CA):List Wv->Mw Wv:=Yj 2 (VR c)
def QA (c:CA):FS :=
 (ZE (ZR (Zq c.Map "need_place" 2 (ZC c) (f1 (Z6 c.Board "chart") (Za 0)) (Zc (Za 1) Zi)))
  (ZE (sIf (fOr (fB (f2 kLt (Za 2) (fC (.int 0)))) (fB (f2 kGt (Za 2) (fC (.int 7))))) (Xo c.NoSide (Ug (Za 2) U6)) YJ)
  (ZE (sIf (fB (f2 (VJ false) (Za 1) (f1 (Z6 c.Board "units") (Za 0)))) (Xo c.Crowded (Ug (Za 1) U6)) YJ)
  (Yu (Za 2) (f1 (Z6 c.Board "units") (Za 0)) (Za 1)))))
def YM (c:CA):List Wv->Mw Wv:=Yj 3 (QA c)
def Td (c:CA):FS :=
 (ZE (ZR (Zq c.Map "need_place" 2 (ZC c) (f1 (Z6 c.Board "chart") (Za 0)) (Zc (Za 1) Zi)))
  (Z9 (V4 (f1 (Z6 c.Board "units") (Za 0)) (Za 1))))
def ZD (c:CA):List Wv->Mw Wv:=Yj 2 (Td c)
def V3 (c:CA):FS :=
 (sIf (fB (f1 WE (Zq c.Board "side_at" 2 (ZD c) (Za 0) (Zc (Za 1) Zi)))) (Xo c.NoUnit (Ug (Za 1) U6)) YJ)
def Yp (c:CA):List Wv->Mw Wv:=Yj 2 (V3 c)
def R0 (c:CA):FS :=
 (Z9 (Wk ZT (f1 (Z6 c.Board "units") (Za 0))))
def Xx (c:CA):List Wv->Mw Wv:=Yj 1 (R0 c)
end
end MP
set_option maxHeartbeats 400000
namespace MP
open PySem L2
def pk (a b:Int):List Key:=[.inl a,.inl b]
theorem R9 {a b x y:Int}:pk a b=pk x y ↔ a=x∧b=y:=by
 unfold pk
 constructor
 ·intro h; injection h with h1 h2; injection h2 with h2 _; exact ⟨Sum.inl.inj h1,Sum.inl.inj h2⟩
 ·rintro ⟨rfl,rfl⟩; rfl
theorem Qy {κ:Type} [DecidableEq κ] (kvs:List (κ × Wv)) (k k':κ) (v:Wv):(kvs.map (fun kv=>if kv.1=k then (kv.1,v) else kv)).find? (fun kv=>decide (kv.1=k'))=(kvs.find? fun kv=>decide (kv.1=k')).map (fun kv=>if kv.1=k then (kv.1,v) else kv):=by
 induction kvs with
 |nil=>rfl
 |cons p kvs ih =>
  rw[List.map_cons,List.find?_cons,List.find?_cons]
  have e:(if p.1=k then (p.1,v) else p).1=p.1:=by split <;> rfl
  rw[e]
  cases h:decide (p.1=k') with
  |true=>rfl
  |false=>exact ih
theorem QO {κ:Type} [DecidableEq κ] (kvs:List (κ × Wv)) (k k':κ) (v:Wv):X1 (Xv kvs k v) k'=if k'=k then some v else X1 kvs k':=by
 unfold Xv
 by_cases ha:(kvs.any fun kv=>decide (kv.1=k))=true
 ·rw[if_pos ha]
  unfold X1
  rw[Qy]
  by_cases h:k'=k
  ·subst h
   rw[if_pos rfl]
   obtain ⟨p,hp,e⟩:=List.any_eq_true.mp ha
   cases hf:kvs.find? fun kv=>decide (kv.1=k') with
   |none=>exact absurd e (List.find?_eq_none.mp hf p hp)
   |some q =>
    have hq:=List.find?_some hf
    have hq:q.1=k':=of_decide_eq_true hq
    simp[hq]
  ·rw[if_neg h]
   cases hf:kvs.find? fun kv=>decide (kv.1=k') with
   |none=>rfl
   |some q =>
    have hq:=List.find?_some hf
    have hq:q.1=k':=of_decide_eq_true hq
    simp[show ¬ q.1=k from fun z=>h (hq ▸ z)]
 ·rw[if_neg ha]
  unfold X1
  rw[List.find?_append]
  have hn:(kvs.find? fun kv=>decide (kv.1=k))=none:=List.find?_eq_none.mpr fun p hp z=>ha (List.any_eq_true.mpr ⟨p,hp,z⟩)
  by_cases h:k'=k
  ·subst h
   rw[if_pos rfl,hn]
   simp
  ·rw[if_neg h]
   cases hf:kvs.find? fun kv=>decide (kv.1=k') with
   |none=>simp[show ¬ k=k' from fun z=>h z.symm]
   |some q=>rfl
theorem TR {κ:Type} [DecidableEq κ] (kvs:List (κ × Wv)) (k:κ) (v:Wv):(Xv kvs k v).length<=kvs.length+1:=by
 unfold Xv
 split
 ·simp
 ·simp
abbrev Yn (c:CA) (size:Int) (hl:Nat):Ob:=.ins c.Map [("size",.int size),("links",.o hl)]
abbrev XW (c:CA) (hm hu:Nat):Ob:=.ins c.Board [("chart",.o hm),("units",.o hu)]
section
variable (c:CA) {om:List Ob} {h hl:Nat} {size:Int}
theorem Xi {C:Addr} {n:Str} {fs:List (Str × Wv)} {w:Wv} {sl:Sl} {i:Nat} (hv:sl[i]?=some (some (.o h))) (hm:om[h]?=some (.ins C fs)) (hw:fs.lookup n=some w):f1 (Z6 C n) (Za i) sl om=some (.ok w,om):=by
 refine (Vh (Zb hv)).trans ?_
 simp[Z6,XQ,hm,hw]
theorem look_size (size:Int) (hl:Nat):List.lookup (Str.ofString "size") [(Str.ofString "size",Wv.int size),(Str.ofString "links",Wv.o hl)]=some (.int size):=by simp[List.lookup_cons,Yw]
theorem Tr (size:Int) (hl:Nat):List.lookup (Str.ofString "links") [(Str.ofString "size",Wv.int size),(Str.ofString "links",Wv.o hl)]=some (.o hl):=by simp[List.lookup_cons,Yw]
theorem Xf (m:String) (size:Int) (hl:Nat) (h1:m≠"size") (h2:m≠"links"):List.lookup (Str.ofString m) [(Str.ofString "size",Wv.int size),(Str.ofString "links",Wv.o hl)]=none:=by simp[List.lookup_cons,Yw,h1,h2]
theorem VA (hm hu:Nat):List.lookup (Str.ofString "chart") [(Str.ofString "chart",Wv.o hm),(Str.ofString "units",Wv.o hu)]=some (.o hm):=by simp[List.lookup_cons,Yw]
theorem Wj (hm hu:Nat):List.lookup (Str.ofString "units") [(Str.ofString "chart",Wv.o hm),(Str.ofString "units",Wv.o hu)]=some (.o hu):=by simp[List.lookup_cons,Yw]
theorem Yv (m:String) (hm hu:Nat) (h1:m≠"chart") (h2:m≠"units"):List.lookup (Str.ofString m) [(Str.ofString "chart",Wv.o hm),(Str.ofString "units",Wv.o hu)]=none:=by simp[List.lookup_cons,Yw,h1,h2]
theorem ZB {C:Addr} {fs:List (Str × Wv)} (hm:om[h]?=some (.ins C fs)):XQ om (.o h)=some (C,fs):=by simp[XQ,hm]
theorem V7 (hm:om[h]?=some (Yn c size hl)) {a:Int} (h0:0<=a) (h1:a < size):ZC c [.o h,.int a] om=some (.ok .non,om):=by
 have t:fOr (fB (f2 kLt (Za 1) (fC (.int 0)))) (fB (f2 kGe (Za 1) (f1 (Z6 c.Map "size") (Za 0)))) [some (.o h),some (.int a)] om=some (.ok false,om):=by
  refine (RP (Z2 ((Zx (Zb rfl) Zr).trans (show kLt (.int a) (.int 0) om=some (.ok (.bl false),om) by simp[kI,L2.ret,show ¬ a < 0 by omega])))).trans ?_
  exact Z2 ((Zx (Zb rfl) (Xi rfl hm (look_size ..))).trans (by simp[kI,L2.ret]; omega))
 exact WG (ZY t)
end
end MP
set_option maxHeartbeats 400000
namespace MP
open PySem L2
section
variable (c:CA) {om:List Ob} {h hl:Nat} {size:Int} {kvs:List (List Key × Wv)}
def XE (kvs:List (List Key × Wv)) (a b:Int):List (List Key × Wv):=Xv (Xv kvs (pk a b) (.bl true)) (pk b a) (.bl true)
def UB (kvs:List (List Key × Wv)) (a b:Int):Bool:=(X1 kvs (pk a b)).isSome
theorem Wa (kvs:List (List Key × Wv)) (a b x y:Int):UB (XE kvs a b) x y=(decide (x=a∧y=b) || (decide (x=b∧y=a) || UB kvs x y)):=by
 unfold UB XE
 rw[QO,QO]
 by_cases h1:pk x y=pk b a
 ·rw[if_pos h1]; simp[R9.mp h1]
 ·rw[if_neg h1]
  have h1':¬ (x=b∧y=a):=fun z=>h1 (R9.mpr z)
  by_cases h2:pk x y=pk a b
  ·rw[if_pos h2]; simp[R9.mp h2]
  ·rw[if_neg h2]
   have h2':¬ (x=a∧y=b):=fun z=>h2 (R9.mpr z)
   rw[decide_eq_false h1',decide_eq_false h2']; simp
theorem VG (kvs:List (List Key × Wv)) (a b:Int):(XE kvs a b).length<=kvs.length+2:=by
 unfold XE
 have h1:=TR kvs (pk a b) (.bl true)
 have h2:=TR (Xv kvs (pk a b) (.bl true)) (pk b a) (.bl true)
 omega
theorem dput_t {sl : Sl} {i j k : Nat} {x y : Int} (hh : h ≠ hl) (hv : sl[i]? = some (some (.o h))) (hm : om[h]? = some (Yn c size hl)) (hk : om[hl]? = some (.dt kvs)) (hx : sl[j]? = some (some (.int x))) (hy : sl[k]? = some (some (.int y))) (hlen : kvs.length < lim) :
    Yu (fC (.bl true)) (f1 (Z6 c.Map "links") (Za i)) (fA Wz (Zc (Za j) (Zc (Za k) Zi))) sl om=some (.ok (.nx,sl),om.set hl (.dt (Xv kvs (pk x y) (.bl true)))):=by
  unfold Yu
  rw[Zs Zr,Zs (Xi hv hm (Tr ..)),Zs ((ZI (Ze (Zb hx) (Ze (Zb hy) Zj))).trans (QB (by simp)))]
  refine (Zs (a:=()) (om1:=om.set hl (.dt (Xv kvs (pk x y) (.bl true)))) ?_).trans rfl
  simp[Vo,Um,hk,XI,Yk,hlen,pk]
theorem link_ok (hh : h ≠ hl) (hm : om[h]? = some (Yn c size hl)) (hk : om[hl]? = some (.dt kvs)) {a b : Int} (ha : 0 <= a ∧ a < size) (hb : 0 <= b ∧ b < size) (hne : a ≠ b) (hlen : kvs.length + 1 < lim) :
    Xg c [.o h,.int a,.int b] om=some (.ok .non,om.set hl (.dt (XE kvs a b))):=by
  have n1:ZR (Zq c.Map "need_place" 2 (ZC c) (Za 0) (Zc (Za 1) Zi)) [some (.o h),some (.int a),some (.int b)] om=_:=Z4 ((Zw (Zb rfl) (ZB hm) (Xf _ _ _ (by decide) (by decide)) (Ze (Zb rfl) Zj) rfl).trans (V7 c hm ha.1 ha.2))
  have n2:ZR (Zq c.Map "need_place" 2 (ZC c) (Za 0) (Zc (Za 2) Zi)) [some (.o h),some (.int a),some (.int b)] om=_:=Z4 ((Zw (Zb rfl) (ZB hm) (Xf _ _ _ (by decide) (by decide)) (Ze (Zb rfl) Zj) rfl).trans (V7 c hm hb.1 hb.2))
  have t:fB (f2 kEq (Za 1) (Za 2)) [some (.o h),some (.int a),some (.int b)] om=some (.ok false,om):=Z2 ((v2 rfl rfl).trans ((Xp _ _ _).trans (by rw[decide_eq_false hne])))
  have hlt:hl < om.length:=(List.getElem?_eq_some_iff.mp hk).1
  have p1:=dput_t c (sl:=[some (.o h),some (.int a),some (.int b)]) (i:=0) (j:=1) (k:=2) hh rfl hm hk rfl rfl (by omega)
  have hm2:(om.set hl (.dt (Xv kvs (pk a b) (.bl true))))[h]?=some (Yn c size hl):=by rw[List.getElem?_set_ne (Ne.symm hh)]; exact hm
  have hk2:(om.set hl (.dt (Xv kvs (pk a b) (.bl true))))[hl]?=some (.dt (Xv kvs (pk a b) (.bl true))):=by rw[List.getElem?_set_self hlt]
  have p2:=dput_t c (sl:=[some (.o h),some (.int a),some (.int b)]) (i:=0) (j:=2) (k:=1) hh rfl hm2 hk2 rfl rfl (by have:=TR kvs (pk a b) (.bl true); omega)
  rw[List.set_set]at p2
  exact WG ((Zk n1).trans ((Zk n2).trans ((Zk (ZY t)).trans ((Zk p1).trans p2))))
theorem newmap_ok (om:List Ob):XC c.Map 2 (XG c) [.int size] om=some (.ok (.o om.length),om++[Yn c size (om.length+1),.dt []]):=by
 simp[XG,Sq,Yj,Xq,ZE,kSeq,ZU,ZR,Z9,sRetN,sIf,YJ,Za,fC,f1,f2,fB,kB,fA,Zc,Zi,Wo,YU,bnd,L2.ret,kI,kIc,kIx,QR,Vs,fOr,Se,Y3,fOrV,Qq,WE,WA,W2,W5,Ub,W3,W9,Tf,Sj,kIsi,kdOf,Kd.isi,X5,kTru,UM,Z6,XQ,Zq,kIns,kN,chk,XC,WS,Rm,VX,newO,VJ,Y9,Yk,Yu,Vo,Um,UQ,V4,VE,isD,fPop,kPop,Xo,Ug,U6,kFmt,L2.Rt,Wz,ZT,WD,fRep,QZ,kSl,fSl,fNoP,fPart,Q3,sSetI,kSetI,Wc,Yh,Ve,ZZ,Xz,tgN,kClr,Wk,Wl,ZS,kIsE,sTry,kUn,WP,kCat,Y1,Wt,Yw,L2.Xd,L2.Xp,List.lookup_cons,List.lookup_nil]
theorem QV (om:List Ob) (hm:Nat):XC c.Board 2 (Y6 c) [.o hm] om=some (.ok (.o om.length),om++[XW c hm (om.length+1),.dk []]):=by
 simp[Y6,VR,Yj,Xq,ZE,kSeq,ZU,ZR,Z9,sRetN,sIf,YJ,Za,fC,f1,f2,fB,kB,fA,Zc,Zi,Wo,YU,bnd,L2.ret,kI,kIc,kIx,QR,Vs,fOr,Se,Y3,fOrV,Qq,WE,WA,W2,W5,Ub,W3,W9,Tf,Sj,kIsi,kdOf,Kd.isi,X5,kTru,UM,Z6,XQ,Zq,kIns,kN,chk,XC,WS,Rm,VX,newO,VJ,Y9,Yk,Yu,Vo,Um,UQ,V4,VE,isD,fPop,kPop,Xo,Ug,U6,kFmt,L2.Rt,Wz,ZT,WD,fRep,QZ,kSl,fSl,fNoP,fPart,Q3,sSetI,kSetI,Wc,Yh,Ve,ZZ,Xz,tgN,kClr,Wk,Wl,ZS,kIsE,sTry,kUn,WP,kCat,Y1,Wt,Yw,L2.Xd,L2.Xp,List.lookup_cons,List.lookup_nil]
end
end MP
set_option maxHeartbeats 400000
namespace MP
open PySem L2
def dn (a b i j:Nat):Prop:=(j < i∧(i < a∨(i=a∧j < b)))∨(i < j∧(j < a∨(j=a∧i < b)))
structure Laid (rows:Mx) (off a b:Nat) (kvs:List (List Key × Wv)):Prop where
 has:∀x y:Int,UB kvs x y=true ↔ ∃i j:Nat,x=off+i∧y=off+j∧X3 rows i j=true∧dn a b i j
 few:kvs.length<=20 * a+2 * b
theorem Laid.zero (rows:Mx) (off:Nat):Laid rows off 0 0 []:=by
 refine ⟨fun x y=>Iff.intro (fun h=>(by cases h)) (fun h=>?_),by simp⟩
 obtain ⟨i,j,_,_,_,h⟩:=h
 unfold dn at h; omega
theorem Laid.next {rows:Mx} {off a:Nat} {kvs:List (List Key × Wv)} (L:Laid rows off a a kvs) (ha:a<=7):Laid rows off (a+1) 0 kvs:=by
 refine ⟨fun x y=>?_,by have:=L.few; omega⟩
 rw[L.has]
 constructor
 ·rintro ⟨i,j,h1,h2,h3,h4⟩
  exact ⟨i,j,h1,h2,h3,by unfold dn at *; omega⟩
 ·rintro ⟨i,j,h1,h2,h3,h4⟩
  exact ⟨i,j,h1,h2,h3,by unfold dn at *; omega⟩
theorem Lk.inr {m:Nat} {rows:Mx} (L:Lk m rows) {i j:Nat} (h:X3 rows i j=true):i < m∧j < m∧i≠j:=by
 have hi:i < m:=by
  by_cases hi:i < m
  ·exact hi
  ·unfold X3 at h
   rw[List.getD_eq_getElem?_getD (l:=rows),List.getElem?_eq_none (by rw[L.len]; omega)]at h
   simp at h
 refine ⟨hi,?_,fun z=>by subst z; rw[L.dg]at h; cases h⟩
 by_cases hj:j < m
 ·exact hj
 ·unfold X3 at h
  rw[List.getD_eq_getElem?_getD,List.getElem?_eq_none (by rw[L.row i hi]; omega)]at h
  cases h
section
variable (c:CA) {om:List Ob} {many off size:Nat} {rows:Mx}
end
end MP
set_option maxHeartbeats 400000
namespace MP
open PySem L2
def Yl (off:Nat) (f:List (Option Int)) (n:Nat):List (Int × Int):=(List.range n).filterMap fun k=>(at' f k).map fun s=>((off:Int)+k,s)
theorem Rj (off:Nat) (f:List (Option Int)) (n:Nat):Yl off f (n+1)=Yl off f n++(match at' f n with|some s=>[((off:Int)+n,s)]|none=>[]):=by
 unfold Yl
 rw[List.range_succ,List.filterMap_append]
 congr 1
 rw[List.filterMap_cons,List.filterMap_nil]
 cases at' f n <;> rfl
theorem usOf_len (off:Nat) (f:List (Option Int)) (n:Nat):(Yl off f n).length<=n:=by
 unfold Yl
 exact Nat.le_trans (List.length_filterMap_le _ _) (by simp)
theorem Ri (off:Nat) (f:List (Option Int)) (n:Nat) (x:Int):(Yl off f n).lookup x=if 0<=x - off∧x - off < n then at' f (x - off).toNat else none:=by
 induction n with
 |zero=>rw[if_neg (by omega)]; rfl
 |succ n ih =>
  rw[Rj,List.lookup_append,ih]
  by_cases h:0<=x - off∧x - off < n
  ·rw[if_pos h,if_pos (by omega)]
   cases ha:at' f (x - off).toNat with
   |some s=>rfl
   |none =>
    cases hb:at' f n with
    |none=>rfl
    |some s =>
     have:(x == (off:Int)+n)=false:=beq_eq_false_iff_ne.mpr (by omega)
     simp[List.lookup_cons,this]
  ·rw[if_neg h]
   by_cases h2:x=(off:Int)+n
   ·rw[if_pos (by omega),show (x - off).toNat=n by omega]
    cases hb:at' f n with
    |none=>rfl
    |some s=>simp[List.lookup_cons,h2]
   ·rw[if_neg (by omega)]
    cases hb:at' f n with
    |none=>rfl
    |some s =>
     have:(x == (off:Int)+n)=false:=beq_eq_false_iff_ne.mpr h2
     simp[List.lookup_cons,this]
section
variable (c:CA) {om:List Ob} {hb hm hu hl:Nat} {size:Int} {us:List (Int × Int)}
theorem fldf_ok {C:Addr} {n:Str} {fs:List (Str × Wv)} {w:Wv} {sl:Sl} {fe:FE} {h:Nat} (hv:fe sl om=some (.ok (.o h),om)) (hm:om[h]?=some (.ins C fs)) (hw:fs.lookup n=some w):f1 (Z6 C n) fe sl om=some (.ok w,om):=by
 refine (Vh hv).trans ?_
 simp[Z6,XQ,hm,hw]
theorem QQ (h1:om[hb]?=some (XW c hm hu)) (h2:om[hm]?=some (Yn c size hl)) {a:Int} (ha:0<=a∧a < size) {sl:Sl} (s0:sl[0]?=some (some (.o hb))) (s1:sl[1]?=some (some (.int a))):ZR (Zq c.Map "need_place" 2 (ZC c) (f1 (Z6 c.Board "chart") (Za 0)) (Zc (Za 1) Zi)) sl om=some (.ok (.nx,sl),om) :=
 Z4 ((Zw (Xi s0 h1 (VA ..)) (ZB h2) (Xf _ _ _ (by decide) (by decide)) (Ze (Zb s1) Zj) rfl).trans (V7 c h2 ha.1 ha.2))
theorem post_in (h1 : om[hb]? = some (XW c hm hu)) (h2 : om[hm]? = some (Yn c size hl)) (h3 : om[hu]? = some (.dk (Y2 us))) {a s : Int} (ha : 0 <= a ∧ a < size) (hs : 0 <= s ∧ s <= 7) (hn : us.lookup a = none) (hlen : us.length < lim) :
    YM c [.o hb,.int a,.int s] om=some (.ok .non,om.set hu (.dk (Y2 (us++[(a,s)])))):=by
  have n1:=QQ c (sl:=[some (.o hb),some (.int a),some (.int s)]) h1 h2 ha rfl rfl
  have t1:fOr (fB (f2 kLt (Za 2) (fC (.int 0)))) (fB (f2 kGt (Za 2) (fC (.int 7)))) [some (.o hb),some (.int a),some (.int s)] om=some (.ok false,om):=by
    refine (RP (Z2 ((Zx (Zb rfl) Zr).trans (show kLt (.int s) (.int 0) om=some (.ok (.bl false),om) by simp[kI,L2.ret]; omega)))).trans ?_
    exact Z2 ((Zx (Zb rfl) Zr).trans (by simp[kI,L2.ret]; omega))
  have t2:fB (f2 (VJ false) (Za 1) (f1 (Z6 c.Board "units") (Za 0))) [some (.o hb),some (.int a),some (.int s)] om=some (.ok false,om):=by
    refine Z2 ((Zx (Zb rfl) (Xi rfl h1 (Wj ..))).trans ?_)
    simp[VJ,Y9,h3,Yk,To,hn]
  have p:Yu (Za 2) (f1 (Z6 c.Board "units") (Za 0)) (Za 1) [some (.o hb),some (.int a),some (.int s)] om=some (.ok (.nx,[some (.o hb),some (.int a),some (.int s)]),om.set hu (.dk (Y2 (us++[(a,s)])))):=by
    unfold Yu
    rw[Zs (Zb rfl),Zs (Xi rfl h1 (Wj ..)),Zs (Zb rfl)]
    refine (Zs (a:=()) (om1:=om.set hu (.dk (Y2 (us++[(a,s)])))) ?_).trans rfl
    simp[Vo,Um,h3,Yk,kvsOf_len,hlen,putW_us s hn]
  exact WG ((Zk n1).trans ((Zk (ZY t1)).trans ((Zk (ZY t2)).trans p)))
theorem side_in (h1:om[hb]?=some (XW c hm hu)) (h2:om[hm]?=some (Yn c size hl)) (h3:om[hu]?=some (.dk (Y2 us))) {a:Int} (ha:0<=a∧a < size):ZD c [.o hb,.int a] om=some (.ok (Xr (us.lookup a)),om):=by
 have n1:=QQ c (sl:=[some (.o hb),some (.int a)]) h1 h2 ha rfl rfl
 have p:V4 (f1 (Z6 c.Board "units") (Za 0)) (Za 1) [some (.o hb),some (.int a)] om=some (.ok (Xr (us.lookup a)),om):=by
  have e:=Xi (sl:=[some (.o hb),some (.int a)]) (i:=0) rfl h1 (Wj hm hu)
  cases hq:us.lookup a with
  |none=>simp[V4,bnd,e,VE,isD,h3,Za,UQ,Y9,Yk,To,hq,L2.ret,Xr]
  |some s=>simp[V4,bnd,e,VE,isD,h3,Za,UQ,Y9,Yk,To,hq,L2.ret,Xr]
 exact ZJ ((Zk n1).trans (Zy p))
end
end MP
set_option maxHeartbeats 400000
namespace MP
open PySem L2
theorem usOf_strict (off:Nat) (f:List (Option Int)) (n:Nat):(Yl off f n).Pairwise (fun x y=>x.1 < y.1):=by
 unfold Yl
 refine List.Pairwise.filterMap (R:=(· < ·)) _ (fun a b hab x hx y hy=>?_) List.pairwise_lt_range
 obtain ⟨s,_,rfl⟩:=Option.map_eq_some_iff.mp hx
 obtain ⟨t,_,rfl⟩:=Option.map_eq_some_iff.mp hy
 show (off:Int)+a < off+b
 omega
theorem Qx {us:List (Int × Int)} (nd:(us.map (·.1)).Nodup):(Xk us).Pairwise (fun x y=>x.1 < y.1):=by
 have hp:=YY us
 have hn:((Xk us).map (·.1)).Nodup:=(hp.map _).nodup_iff.mpr nd
 refine ((W7 us).and (List.pairwise_map.mp hn)).imp fun {x y} h=>?_
 have a:¬ _:=fun w'=>absurd (Yt.mpr w') (by rw[h.1]; exact Bool.false_ne_true)
 have b:=h.2
 omega
theorem sortP_uniq {us vs:List (Int × Int)} (nd:(us.map (·.1)).Nodup) (hv:vs.Pairwise (fun x y=>x.1 < y.1)) (h:∀p,p∈us ↔ p∈vs):Xk us=vs :=
 WT (Qx nd) hv fun p=>by rw[(YY us).mem_iff,h]
theorem RX {us:List (Int × Int)} (h:us.Pairwise (fun x y=>x.1 < y.1)):(us.map (·.1)).Nodup:=by
 refine List.pairwise_map.mpr (h.imp fun {x y} hxy z=>?_)
 have hxy:x.1 < y.1:=hxy
 have z:x.1=y.1:=z
 omega
theorem sortP_self {us:List (Int × Int)} (h:us.Pairwise (fun x y=>x.1 < y.1)):Xk us=us:=sortP_uniq (RX h) h fun _=>Iff.rfl
section
variable (c:CA) {om:List Ob} {hb hm hu hl:Nat} {size:Int} {us:List (Int × Int)} {kvs:List (List Key × Wv)}
theorem roll_in (h1:om[hb]?=some (XW c hm hu)) (h3:om[hu]?=some (.dk (Y2 us))) (hn:us.length < 64):Xx c [.o hb] om=some (.ok (.lst ((Xk us).map prW)),om):=by
 have h2:(Xk us).length=us.length:=(YY us).length_eq
 have hlim:=Z1
 refine ZJ (Zy ?_)
 unfold Wk
 refine (Zs (Xi (sl:=[some (.o hb)]) (i:=0) rfl h1 (Wj ..))).trans ?_
 refine (Zs (a:=(Xk us).map prW) (om1:=om) ?_).trans ?_
 ·simp[Wl,h3,Pu,hn]
 ·unfold ZT
  rw[if_pos (by rw[List.length_map]; omega)]
  rfl
theorem Pc (h2:om[hm]?=some (Yn c size hl)) {a:Int} (ha:0<=a∧a < size) {sl:Sl} {i j:Nat} (s0:sl[i]?=some (some (.o hm))) (s1:sl[j]?=some (some (.int a))):ZR (Zq c.Map "need_place" 2 (ZC c) (Za i) (Zc (Za j) Zi)) sl om=some (.ok (.nx,sl),om) :=
 Z4 ((Zw (Zb s0) (ZB h2) (Xf _ _ _ (by decide) (by decide)) (Ze (Zb s1) Zj) rfl).trans (V7 c h2 ha.1 ha.2))
theorem has_e {sl:Sl} {i j k:Nat} {x y:Int} (h2:om[hm]?=some (Yn c size hl)) (h3:om[hl]?=some (.dt kvs)) (hi:sl[i]?=some (some (.int x))) (hj:sl[j]?=some (some (.int y))) (hk:sl[k]?=some (some (.o hm))):f2 (VJ false) (fA Wz (Zc (Za i) (Zc (Za j) Zi))) (f1 (Z6 c.Map "links") (Za k)) sl om=some (.ok (.bl (UB kvs x y)),om):=by
 refine (Zx ((ZI (Ze (Zb hi) (Ze (Zb hj) Zj))).trans (QB (by simp))) (Xi hk h2 (Tr ..))).trans ?_
 simp[VJ,Y9,h3,XI,Yk,UB,pk]
theorem beside_in (h2:om[hm]?=some (Yn c size hl)) (h3:om[hl]?=some (.dt kvs)) {a b:Int} (ha:0<=a∧a < size) (hb:0<=b∧b < size):Wg c [.o hm,.int a,.int b] om=some (.ok (.bl (UB kvs a b)),om):=by
 have n1:=Pc c (sl:=[some (.o hm),some (.int a),some (.int b)]) (i:=0) (j:=1) h2 ha rfl rfl
 have n2:=Pc c (sl:=[some (.o hm),some (.int a),some (.int b)]) (i:=0) (j:=2) h2 hb rfl rfl
 exact ZJ ((Zk n1).trans ((Zk n2).trans (Zy (has_e c (i:=1) (j:=2) (k:=0) h2 h3 rfl rfl rfl))))
end
end MP
namespace MP
noncomputable section
open PySem L2
def Vm (c:CA):FS :=
 (ZE (WS c.Orders "board" (Za 1) (Za 0))
  (WS c.Orders "given" (fun _=>newO (.dk [])) (Za 0)))
def YV (c:CA):List Wv->Mw Wv:=Yj 2 (Vm c)
def Y0 (c:CA):FS :=
 (ZR (Zq c.Map "need_place" 2 (ZC c) (f1 (Z6 c.Board "chart") (f1 (Z6 c.Orders "board") (Za 0))) (Zc (Za 3) Zi)))
def YX (c:CA):FS :=
 (ZR (Zq c.Board "need_unit" 2 (Yp c) (f1 (Z6 c.Orders "board") (Za 0)) (Zc (Za 3) Zi)))
def VT (c:CA):FS :=
 (ZE (Ve (fun sl=>bnd ((Za 1) sl) ZZ) (tgN 3) (Y0 c))
  (Ve (fun sl=>bnd ((Za 2) sl) ZZ) (tgN 3) (YX c)))
def Yc (c:CA):List Wv->Mw Wv:=Yj 4 (VT c)
def WF (c:CA):FS :=
 (sIf (Se (X5 (Zq c.Map "beside" 3 (Wg c) (f1 (Z6 c.Board "chart") (f1 (Z6 c.Orders "board") (Za 0))) (Zc (Za 1) (Zc (Za 2) Zi))))) (Xo c.OutOfReach (Ug (Za 2) (Ug (Za 1) U6))) YJ)
def ZH (c:CA):List Wv->Mw Wv:=Yj 3 (WF c)
def Sz (c:CA):FS :=
 (ZE (ZR (Zq c.Orders "need_all" 3 (Yc c) (Za 0) (Zc (fA ZT (Zc (Za 1) (Zc (Za 2) Zi))) (Zc (fA ZT (Zc (Za 1) Zi)) Zi))))
  (ZE (ZR (Zq c.Orders "need_beside" 3 (ZH c) (Za 0) (Zc (Za 1) (Zc (Za 2) Zi))))
  (Yu (fA Wz (Zc (fC (.str "move")) (Zc (Za 2) Zi))) (f1 (Z6 c.Orders "given") (Za 0)) (Za 1))))
def YS (c:CA):List Wv->Mw Wv:=Yj 3 (Sz c)
def QL (c:CA):FS :=
 (ZE (ZR (Zq c.Orders "need_all" 3 (Yc c) (Za 0) (Zc (fA ZT (Zc (Za 1) (Zc (Za 2) (Zc (Za 3) Zi)))) (Zc (fA ZT (Zc (Za 1) (Zc (Za 2) Zi))) Zi))))
  (ZE (sIf (fB (f2 kEq (Za 2) (Za 1))) (Xo c.OutOfReach (Ug (Za 1) U6)) YJ)
  (ZE (ZR (Zq c.Orders "need_beside" 3 (ZH c) (Za 0) (Zc (Za 1) (Zc (Za 3) Zi))))
  (ZE (sIf (fB (f2 kNe (Za 3) (Za 2))) (ZR (Zq c.Orders "need_beside" 3 (ZH c) (Za 0) (Zc (Za 2) (Zc (Za 3) Zi)))) YJ)
  (Yu (fA Wz (Zc (fC (.str "help")) (Zc (Za 2) (Zc (Za 3) Zi)))) (f1 (Z6 c.Orders "given") (Za 0)) (Za 1))))))
def Xw (c:CA):List Wv->Mw Wv:=Yj 4 (QL c)
def SE (c:CA):FS :=
 (ZE (ZR (Zq c.Board "need_unit" 2 (Yp c) (f1 (Z6 c.Orders "board") (Za 0)) (Zc (Za 1) Zi)))
  (Z9 (Sk (f1 (Z6 c.Orders "given") (Za 0)) (Za 1) (fC (.g c.STAND)))))
def Z8 (c:CA):List Wv->Mw Wv:=Yj 2 (SE c)
def Uz (c:CA):FS :=
 (ZE (ZU 2 (Sk (f1 (Z6 c.Orders "given") (Za 0)) (Za 1) (fC (.g c.STAND))))
  (ZE (sIf (fB (f2 kEq (f2 (X6 c.STAND) (Za 2) (fC (.int 0))) (fC (.str "move")))) (Z9 (f2 (X6 c.STAND) (Za 2) (fC (.int 1)))) YJ)
  (Z9 (fC .non))))
def Zm (c:CA):List Wv->Mw Wv:=Yj 3 (Uz c)
def Ul (c:CA):FT :=
 (fB (f1 WA (Zq c.Orders "goal_of" 2 (Zm c) (Za 1) (Zc (Za 0) Zi))))
def Uv (c:CA):FE :=
 (Za 0)
def U7 (c:CA):FS :=
 (Z9 (fA (Xy ZT) (Zc (XO ZT [0] (f1 (Z6 c.Orders "given") (Za 0)) (Ul c) (Uv c)) Zi)))
def ZM (c:CA):List Wv->Mw Wv:=Yj 1 (U7 c)
def Ud (c:CA):FT :=
 (fB (f1 WA (Zq c.Orders "goal_of" 2 (Zm c) (Za 1) (Zc (Za 0) Zi))))
def VS (c:CA):FE :=
 (Za 0)
def UE (c:CA):FS :=
 (Z9 (fA (Xy WD) (Zc (XO ZT [0] (f1 (Z6 c.Orders "given") (Za 0)) (Ud c) (VS c)) Zi)))
def Uj (c:CA):List Wv->Mw Wv:=Yj 1 (UE c)
end
end MP
set_option maxHeartbeats 400000
namespace MP
open PySem L2
abbrev XB (c:CA) (hb hg:Nat):Ob:=.ins c.Orders [("board",.o hb),("given",.o hg)]
theorem look_bd (hb hg:Nat):List.lookup (Str.ofString "board") [(Str.ofString "board",Wv.o hb),(Str.ofString "given",Wv.o hg)]=some (.o hb):=by simp[List.lookup_cons,Yw]
theorem Tm (hb hg:Nat):List.lookup (Str.ofString "given") [(Str.ofString "board",Wv.o hb),(Str.ofString "given",Wv.o hg)]=some (.o hg):=by simp[List.lookup_cons,Yw]
theorem ZP (m:String) (hb hg:Nat) (h1:m≠"board") (h2:m≠"given"):List.lookup (Str.ofString m) [(Str.ofString "board",Wv.o hb),(Str.ofString "given",Wv.o hg)]=none:=by simp[List.lookup_cons,Yw,h1,h2]
def odG (c:CA) (off:Nat):Od->Wv
 |.stand=>.g c.STAND
 |.move g=>.tup [.str "move",.int ((off:Int)+g)]
 |.help h g=>.tup [.str "help",.int ((off:Int)+h),.int ((off:Int)+g)]
abbrev Gs:=List (Nat × Od)
def YZ (c:CA) (off:Nat) (gs:Gs):List (Key × Wv):=gs.map fun p=>(.inl ((off:Int)+p.1),odG c off p.2)
def Vp (gs:Gs) (k:Nat) (o:Od):Gs:=if (gs.any fun p=>decide (p.1=k))=true then gs.map (fun p=>if p.1=k then (p.1,o) else p) else gs++[(k,o)]
theorem gv_ne {off a k:Nat} (h:a≠k):(Sum.inl ((off:Int)+a):Key)≠Sum.inl ((off:Int)+k):=fun z=>h (by have:=Sum.inl.inj z; omega)
theorem Qd (off a k:Nat):decide ((Sum.inl ((off:Int)+a):Key)=Sum.inl ((off:Int)+k))=decide (a=k):=by
 by_cases h:a=k
 ·subst h; simp
 ·rw[decide_eq_false h,decide_eq_false (gv_ne h)]
theorem W4 (c:CA) (off:Nat) (gs:Gs) (k:Nat):X1 (YZ c off gs) (.inl ((off:Int)+k))=(gs.lookup k).map (odG c off):=by
 induction gs with
 |nil=>rfl
 |cons p gs ih =>
  obtain ⟨j,o⟩:=p
  unfold X1 YZ at ih ⊢
  rw[List.map_cons,List.find?_cons,List.lookup_cons]
  dsimp only
  rw[Qd]
  by_cases h:j=k
  ·subst h; simp
  ·rw[decide_eq_false h,beq_eq_false_iff_ne.mpr (Ne.symm h)]
   exact ih
theorem putW_gv (c:CA) (off:Nat) (gs:Gs) (k:Nat) (o:Od):Xv (YZ c off gs) (.inl ((off:Int)+k)) (odG c off o)=YZ c off (Vp gs k o):=by
 unfold Xv Vp YZ
 have e:((gs.map fun p=>((Sum.inl ((off:Int)+p.1):Key),odG c off p.2)).any fun kv=>decide (kv.1=Sum.inl ((off:Int)+k)))=gs.any fun p=>decide (p.1=k):=by
  rw[List.any_map]
  refine congrArg (List.any gs) (funext fun p=>?_)
  exact Qd off p.1 k
 rw[e]
 by_cases h:(gs.any fun p=>decide (p.1=k))=true
 ·rw[if_pos h,if_pos h,List.map_map,List.map_map]
  refine List.map_congr_left fun p _=>?_
  show (if (Sum.inl ((off:Int)+p.1):Key)=Sum.inl ((off:Int)+k) then (Sum.inl ((off:Int)+p.1),odG c off o) else (Sum.inl ((off:Int)+p.1),odG c off p.2))=((Sum.inl ((off:Int)+(if p.1=k then (p.1,o) else p).1):Key),odG c off (if p.1=k then (p.1,o) else p).2)
  by_cases hp:p.1=k
  ·rw[if_pos (by rw[hp]),if_pos hp]
  ·rw[if_neg (gv_ne hp),if_neg hp]
 ·rw[if_neg h,if_neg h,List.map_append]
  rfl
theorem look_any (gs:Gs) (k:Nat):(gs.any fun p=>decide (p.1=k))=(gs.lookup k).isSome:=by
 induction gs with
 |nil=>rfl
 |cons p gs ih =>
  obtain ⟨j,o⟩:=p
  rw[List.any_cons,List.lookup_cons]
  dsimp only
  by_cases h:j=k
  ·subst h; simp
  ·rw[decide_eq_false h,beq_eq_false_iff_ne.mpr (Ne.symm h),Bool.false_or]
   exact ih
theorem look_repl (gs:Gs) (k j:Nat) (o:Od):(gs.map fun p=>if p.1=k then (p.1,o) else p).lookup j=if j=k then (gs.lookup j).map (fun _=>o) else gs.lookup j:=by
 induction gs with
 |nil=>simp
 |cons p gs ih =>
  obtain ⟨i,q⟩:=p
  rw[List.map_cons]
  dsimp only
  by_cases h:i=k
  ·rw[if_pos h,List.lookup_cons,List.lookup_cons]
   by_cases hj:j=i
   ·subst hj; subst h; simp
   ·rw[beq_eq_false_iff_ne.mpr hj]
    exact ih
  ·rw[if_neg h,List.lookup_cons,List.lookup_cons]
   by_cases hj:j=i
   ·subst hj; simp[h]
   ·rw[beq_eq_false_iff_ne.mpr hj]
    exact ih
theorem Rs (gs:Gs) (k j:Nat) (o:Od):(Vp gs k o).lookup j=if j=k then some o else gs.lookup j:=by
 unfold Vp
 by_cases h:(gs.any fun p=>decide (p.1=k))=true
 ·rw[if_pos h,look_repl]
  by_cases hj:j=k
  ·subst hj
   rw[if_pos rfl,if_pos rfl]
   rw[look_any]at h
   obtain ⟨x,hx⟩:=Option.isSome_iff_exists.mp h
   rw[hx]; rfl
  ·rw[if_neg hj,if_neg hj]
 ·rw[if_neg h,List.lookup_append]
  rw[look_any]at h
  by_cases hj:j=k
  ·subst hj
   rw[if_pos rfl,Option.not_isSome_iff_eq_none.mp h]
   simp
  ·rw[if_neg hj,List.lookup_cons,beq_eq_false_iff_ne.mpr hj]
   simp
theorem putG_nodup {gs:Gs} (h:(gs.map (·.1)).Nodup) (k:Nat) (o:Od):((Vp gs k o).map (·.1)).Nodup:=by
 unfold Vp
 by_cases ha:(gs.any fun p=>decide (p.1=k))=true
 ·rw[if_pos ha,List.map_map]
  have e:(gs.map ((·.1) ∘ fun p=>if p.1=k then (p.1,o) else p))=gs.map (·.1):=List.map_congr_left fun p _=>by
   show (if p.1=k then (p.1,o) else p).1=p.1
   by_cases hp:p.1=k
   ·rw[if_pos hp]
   ·rw[if_neg hp]
  rw[e]; exact h
 ·rw[if_neg ha,List.map_append,List.nodup_append]
  refine ⟨h,by simp,fun a ha' b hb z=>ha ?_⟩
  have hb:b=k:=by simpa using hb
  obtain ⟨p,hp,rfl⟩:=List.mem_map.mp ha'
  exact List.any_eq_true.mpr ⟨p,hp,decide_eq_true (z.trans hb)⟩
structure Tell (gs:Gs) (T:Nat->Option Od):Prop where
 nd:(gs.map (·.1)).Nodup
 get:∀k o,T k=some o->(gs.lookup k).getD .stand=o
 key:∀k o,gs.lookup k=some o->T k=some o
theorem Tell.put {gs:Gs} {T:Nat->Option Od} (h:Tell gs T) (k:Nat) (o:Od):Tell (Vp gs k o) (fun j=>if j=k then some o else T j):=by
 refine ⟨putG_nodup h.nd k o,fun j q e=>?_,fun j q e=>?_⟩
 ·rw[Rs]
  by_cases hj:j=k
  ·rw[if_pos hj]at e ⊢; cases e; rfl
  ·rw[if_neg hj]at e ⊢; exact h.get j q e
 ·rw[Rs]at e
  by_cases hj:j=k
  ·rw[if_pos hj]at e; cases e; show (if j=k then some o else T j)=some o; rw[if_pos hj]
  ·rw[if_neg hj]at e; show (if j=k then some o else T j)=some q; rw[if_neg hj]; exact h.key j q e
theorem Tell.start0 {T:Nat->Option Od} (h:∀k o,T k=some o->o=.stand):Tell [] T:=⟨by simp,fun k o e=>(h k o e).symm,fun k o e=>by cases e⟩
theorem UI {k:Nat} {o:Od}:∀{gs:Gs},gs.lookup k=some o->(k,o)∈gs
 |[],e=>by cases e
 |(j,q)::gs,e=>by
  rw[List.lookup_cons]at e
  cases hb:(k == j) with
  |true=>rw[hb]at e; cases e; rw[eq_of_beq hb]; exact .head _
  |false=>rw[hb]at e; exact .tail _ (UI e)
theorem XT {k:Nat} {o:Od}:∀{gs:Gs},(gs.map (·.1)).Nodup->(k,o)∈gs->gs.lookup k=some o
 |[],_,e=>nomatch e
 |(j,q)::gs,nd,e=>by
  rw[List.lookup_cons]
  rw[List.map_cons,List.nodup_cons]at nd
  rcases List.mem_cons.mp e with e|e
  ·cases e; simp
  ·have hne:k≠j:=fun z=>nd.1 (List.mem_map.mpr ⟨(k,o),e,z⟩)
   rw[beq_eq_false_iff_ne.mpr hne]
   exact XT nd.2 e
structure Wd (c:CA) (om:List Ob) (hb hm hu hl size off:Nat) (f:List (Option Int)) (kvs:List (List Key × Wv)):Prop where
 b:om[hb]?=some (XW c hm hu)
 m:om[hm]?=some (Yn c size hl)
 u:om[hu]?=some (.dk (Y2 (Yl off f f.length)))
 l:om[hl]?=some (.dt kvs)
 fit:off+f.length<=size
 few:size<=60
theorem V1 {α:Type} {l:List (Option α)} {k:Nat} {x:α} (h:at' l k=some x):k < l.length:=by
 by_cases hk:k < l.length
 ·exact hk
 ·rw[V8 hk]at h; cases h
section
variable {c:CA} {om:List Ob} {ho hb hm hu hl hg size off:Nat} {f:List (Option Int)} {kvs:List (List Key × Wv)} {gs:Gs}
theorem Wd.set (W:Wd c om hb hm hu hl size off f kvs) {kv:List (Key × Wv)} {x:Ob} (h:om[hg]?=some (.dk kv)) (hn:hg≠hu):Wd c (om.set hg x) hb hm hu hl size off f kvs:=by
 have nb:hg≠hb:=fun z=>by subst z; rw[W.b]at h; cases h
 have nm:hg≠hm:=fun z=>by subst z; rw[W.m]at h; cases h
 have nl:hg≠hl:=fun z=>by subst z; rw[W.l]at h; cases h
 exact ⟨by rw[List.getElem?_set_ne nb]; exact W.b,by rw[List.getElem?_set_ne nm]; exact W.m,by rw[List.getElem?_set_ne hn]; exact W.u,by rw[List.getElem?_set_ne nl]; exact W.l,W.fit,W.few⟩
theorem Wd.grow (W:Wd c om hb hm hu hl size off f kvs) (l:List Ob):Wd c (om++l) hb hm hu hl size off f kvs:=by
 have g:∀{h:Nat} {x:Ob},om[h]?=some x->(om++l)[h]?=some x:=fun e=>by rw[List.getElem?_append_left (List.getElem?_eq_some_iff.mp e).1]; exact e
 exact ⟨g W.b,g W.m,g W.u,g W.l,W.fit,W.few⟩
theorem Wd.look (W:Wd c om hb hm hu hl size off f kvs) (k:Nat):(Yl off f f.length).lookup ((off:Int)+k)=at' f k:=by
 rw[Ri]
 by_cases h:k < f.length
 ·rw[if_pos (by omega),show ((off:Int)+k - off).toNat=k by omega]
 ·rw[if_neg (by omega),V8 h]
theorem Wd.inn (W:Wd c om hb hm hu hl size off f kvs) {k:Nat} (h:k < f.length):0<=(off:Int)+k∧(off:Int)+k < (size:Nat):=by
 have:=W.fit; omega
theorem Qm (W:Wd c om hb hm hu hl size off f kvs) {k:Nat} (h:k < f.length):ZD c [.o hb,.int ((off:Int)+k)] om=some (.ok (Xr (at' f k)),om):=by
 rw[side_in c W.b W.m W.u (W.inn h),W.look]
theorem unit_w (W:Wd c om hb hm hu hl size off f kvs) {k:Nat} {s:Int} (h:at' f k=some s):Yp c [.o hb,.int ((off:Int)+k)] om=some (.ok .non,om):=by
 have e:fB (f1 WE (Zq c.Board "side_at" 2 (ZD c) (Za 0) (Zc (Za 1) Zi))) [some (.o hb),some (.int ((off:Int)+k))] om=some (.ok false,om):=by
  refine Z2 ((Vh ((Zw (Zb rfl) (ZB W.b) (Yv _ _ _ (by decide) (by decide)) (Ze (Zb rfl) Zj) rfl).trans (Qm W (V1 h)))).trans ((isN_side _ _).trans ?_))
  rw[h]; rfl
 exact WG (ZY e)
structure Os (c:CA) (om:List Ob) (ho hb hg off:Nat) (gs:Gs):Prop where
 o:om[ho]?=some (XB c hb hg)
 g:om[hg]?=some (.dk (YZ c off gs))
theorem gvOf_len (c:CA) (off:Nat) (gs:Gs):(YZ c off gs).length=gs.length:=by simp[YZ]
theorem Os.set (S:Os c om ho hb hg off gs) {h:Nat} {kv:List (Key × Wv)} {x:Ob} (e:om[h]?=some (.dk kv)) (hn:h≠hg):Os c (om.set h x) ho hb hg off gs:=by
 have nb:h≠ho:=fun z=>by subst z; rw[S.o]at e; cases e
 exact ⟨by rw[List.getElem?_set_ne nb]; exact S.o,by rw[List.getElem?_set_ne hn]; exact S.g⟩
theorem Os.grow (S:Os c om ho hb hg off gs) (l:List Ob):Os c (om++l) ho hb hg off gs:=by
 have g:∀{h:Nat} {x:Ob},om[h]?=some x->(om++l)[h]?=some x:=fun e=>by rw[List.getElem?_append_left (List.getElem?_eq_some_iff.mp e).1]; exact e
 exact ⟨g S.o,g S.g⟩
theorem put_e (S : Os c om ho hb hg off gs) {k : Nat} {o : Od} {sl : Sl} {fv : FE} {i j : Nat} (hv : fv sl om = some (.ok (odG c off o),om)) (hi : sl[i]? = some (some (.o ho))) (hj : sl[j]? = some (some (.int ((off : Int) + k)))) (hl : gs.length < 100) :
    Yu fv (f1 (Z6 c.Orders "given") (Za i)) (Za j) sl om=some (.ok (.nx,sl),om.set hg (.dk (YZ c off (Vp gs k o)))):=by
  have hlim:=Z1
  unfold Yu
  rw[Zs hv,Zs (Xi hi S.o (Tm ..)),Zs (Zb hj)]
  refine (Zs (a:=()) (om1:=om.set hg (.dk (YZ c off (Vp gs k o)))) ?_).trans rfl
  have h1:(YZ c off gs).length < lim:=by rw[gvOf_len]; omega
  simp[Vo,Um,S.g,Yk,h1,putW_gv]
theorem WY (S:Os c om ho hb hg off gs) {sl:Sl} {i:Nat} (hi:sl[i]?=some (some (.o ho))):f1 (Z6 c.Orders "board") (Za i) sl om=some (.ok (.o hb),om):=Xi hi S.o (look_bd ..)
theorem told_in (W:Wd c om hb hm hu hl size off f kvs) (S:Os c om ho hb hg off gs) {k:Nat} {s:Int} (h:at' f k=some s):Z8 c [.o ho,.int ((off:Int)+k)] om=some (.ok (odG c off ((gs.lookup k).getD .stand)),om):=by
 have e1:ZR (Zq c.Board "need_unit" 2 (Yp c) (f1 (Z6 c.Orders "board") (Za 0)) (Zc (Za 1) Zi)) [some (.o ho),some (.int ((off:Int)+k))] om=some (.ok (.nx,[some (.o ho),some (.int ((off:Int)+k))]),om) :=
  Z4 ((Zw (WY S rfl) (ZB W.b) (Yv _ _ _ (by decide) (by decide)) (Ze (Zb rfl) Zj) rfl).trans (unit_w W h))
 have e2:Sk (f1 (Z6 c.Orders "given") (Za 0)) (Za 1) (fC (.g c.STAND)) [some (.o ho),some (.int ((off:Int)+k))] om=some (.ok (odG c off ((gs.lookup k).getD .stand)),om):=by
  unfold Sk
  rw[Zs (Xi rfl S.o (Tm ..))]
  refine (Zs (a:=()) (om1:=om) (by simp[VE,isD,S.g])).trans ?_
  rw[Zs (Zb rfl),Zs Zr]
  cases hq:gs.lookup k with
  |none=>simp[UX,Y9,S.g,Yk,W4,hq,odG]
  |some o=>simp[UX,Y9,S.g,Yk,W4,hq]
 exact ZJ ((Zk e1).trans (Zy e2))
def WV (off:Nat):Od->Wv
 |.move g=>.int ((off:Int)+g)
 |_=>.non
theorem goal_any (ho':om[ho]?=some (XB c hb hg)) (hd:om[hg]?=some (.dk (YZ c off gs))∨om[hg]?=some (.dz (YZ c off gs))) (k:Nat):Zm c [.o ho,.int ((off:Int)+k)] om=some (.ok (WV off ((gs.lookup k).getD .stand)),om):=by
 generalize ho2:(gs.lookup k).getD .stand=o
 have e1:ZU 2 (Sk (f1 (Z6 c.Orders "given") (Za 0)) (Za 1) (fC (.g c.STAND))) [some (.o ho),some (.int ((off:Int)+k)),none] om=some (.ok (.nx,[some (.o ho),some (.int ((off:Int)+k)),some (odG c off o)]),om):=by
  refine ZK (i:=2) (w:=odG c off o) ?_
  unfold Sk
  rw[Zs (Xi rfl ho' (Tm ..))]
  rw[← ho2]
  rcases hd with hd|hd
  ·refine (Zs (a:=()) (om1:=om) (by simp[VE,isD,hd])).trans ?_
   rw[Zs (Zb rfl),Zs Zr]
   cases hq:gs.lookup k with
   |none=>simp[UX,Y9,hd,Yk,W4,hq,odG]
   |some o=>simp[UX,Y9,hd,Yk,W4,hq]
  ·refine (Zs (a:=()) (om1:=om) (by simp[VE,isD,hd])).trans ?_
   rw[Zs (Zb rfl),Zs Zr]
   cases hq:gs.lookup k with
   |none=>simp[UX,Y9,hd,Yk,W4,hq,odG]
   |some o=>simp[UX,Y9,hd,Yk,W4,hq]
 have e2:fB (f2 kEq (f2 (X6 c.STAND) (Za 2) (fC (.int 0))) (fC (.str "move"))) [some (.o ho),some (.int ((off:Int)+k)),some (odG c off o)] om=some (.ok (decide (odN o="move")),om):=by
  refine Z2 ((Zx (x:=.str (odN o)) (om1:=om) ((Zx (Zb rfl) Zr).trans ?_) Zr).trans (eq_str _ _ (so_od o) so_move _))
  unfold X6
  cases o with
  |stand=>rw[show odG c off .stand=.g c.STAND from rfl,unG_g]; exact Ys (k:=0) rfl rfl
  |move g=>exact Ys (k:=0) rfl rfl
  |help h g=>exact Ys (k:=0) rfl rfl
 refine ZJ (sl1:=[some (.o ho),some (.int ((off:Int)+k)),some (odG c off o)]) ((Zk e1).trans ?_)
 cases o with
 |stand=>exact (Zk (ZY e2)).trans (Zy Zr)
 |help h g=>exact (Zk (ZY e2)).trans (Zy Zr)
 |move g=>exact Yr ((Y8 e2).trans (Zy ((Zx (Zb rfl) Zr).trans (Ys (k:=1) rfl rfl))))
theorem goal_in (S:Os c om ho hb hg off gs) (k:Nat):Zm c [.o ho,.int ((off:Int)+k)] om=some (.ok (WV off ((gs.lookup k).getD .stand)),om):=goal_any S.o (.inl S.g) k
end
end MP
set_option maxHeartbeats 400000
namespace MP
open PySem L2
theorem Sm {S:FS} {i:Nat} {om:List Ob} {sl:Sl} (hi:i < sl.length):∀{l:List Wv} (x:Option Wv),(∀w∈l,S (sl.set i (some w)) om=some (.ok (.nx,sl.set i (some w)),om))->∃y,We (tgN i) S l (sl.set i x) om=some (.ok (.nx,sl.set i y),om)
 |[],x,_=>⟨x,rfl⟩
 |w::l,x,h=>by
  obtain ⟨y,e⟩:=Sm hi (l:=l) (some w) fun u hu=>h u (.tail _ hu)
  refine ⟨y,?_⟩
  show (match tgN i w (sl.set i x) with|none=>Y1|some sl1=>bnd (S sl1) (U9 fun sl2=>We (tgN i) S l sl2)) om=_
  have e1:tgN i w (sl.set i x)=some (sl.set i (some w)):=by unfold tgN; rw[List.set_set]
  rw[e1]
  dsimp only
  rw[Zs (h w (.head _))]
  exact e
section
variable {c:CA} {om:List Ob} {ho hb hm hu hl hg size off:Nat} {f:List (Option Int)} {kvs:List (List Key × Wv)} {gs:Gs}
theorem UW (W : Wd c om hb hm hu hl size off f kvs) (S : Os c om ho hb hg off gs) (ps us : List Nat) (hp : ∀ k ∈ ps,k < f.length) (hus : ∀ k ∈ us,(at' f k).isSome = true) :
    Yc c [.o ho,.lst (ps.map fun (k:Nat)=>.int ((off:Int)+k)),.lst (us.map fun (k:Nat)=>.int ((off:Int)+k))] om=some (.ok .non,om):=by
  generalize hA:Wv.lst (ps.map fun (k:Nat)=>.int ((off:Int)+k))=A
  generalize hB:Wv.lst (us.map fun (k:Nat)=>.int ((off:Int)+k))=B
  obtain ⟨y,e1⟩:=Sm (S:=Y0 c) (i:=3) (om:=om) (sl:=[some (.o ho),some A,some B,none]) (by simp) (l:=ps.map fun (k:Nat)=>.int ((off:Int)+k)) none (fun w hw=>by
    obtain ⟨k,hk,rfl⟩:=List.mem_map.mp hw
    have hk:=W.inn (hp k hk)
    exact Z4 ((Zw (fldf_ok (WY S rfl) W.b (VA ..)) (ZB W.m) (Xf _ _ _ (by decide) (by decide)) (Ze (Zb rfl) Zj) rfl).trans (V7 c W.m hk.1 hk.2)))
  obtain ⟨z,e2⟩:=Sm (S:=YX c) (i:=3) (om:=om) (sl:=[some (.o ho),some A,some B,y]) (by simp) (l:=us.map fun (k:Nat)=>.int ((off:Int)+k)) y (fun w hw=>by
    obtain ⟨k,hk,rfl⟩:=List.mem_map.mp hw
    obtain ⟨s,hs⟩:=Option.isSome_iff_exists.mp (hus k hk)
    exact Z4 ((Zw (WY S rfl) (ZB W.b) (Yv _ _ _ (by decide) (by decide)) (Ze (Zb rfl) Zj) rfl).trans (unit_w W hs)))
  have f1:Ve (fun sl=>bnd ((Za 1) sl) ZZ) (tgN 3) (Y0 c) [some (.o ho),some A,some B,none] om=_:=Va (sl1:=[]) ((Zs (Zb rfl)).trans (by rw[← hA]; rfl)) e1
  have f2:Ve (fun sl=>bnd ((Za 2) sl) ZZ) (tgN 3) (YX c) [some (.o ho),some A,some B,y] om=_:=Va (sl1:=[]) ((Zs (Zb rfl)).trans (by rw[← hB]; rfl)) e2
  exact WG ((Zk f1).trans f2)
theorem XJ (W:Wd c om hb hm hu hl size off f kvs) (S:Os c om ho hb hg off gs) {a b:Nat} (ha:a < f.length) (hbb:b < f.length) (hk:UB kvs ((off:Int)+a) ((off:Int)+b)=true):ZH c [.o ho,.int ((off:Int)+a),.int ((off:Int)+b)] om=some (.ok .non,om):=by
 refine WG (ZY (fNot_ok (b:=true) (W8 ((Zw (fldf_ok (WY S rfl) W.b (VA ..)) (ZB W.m) (Xf _ _ _ (by decide) (by decide)) (Ze (Zb rfl) (Ze (Zb rfl) Zj)) rfl).trans ((beside_in c W.m W.l (W.inn ha) (W.inn hbb)).trans ?_)))))
 rw[hk]
theorem Wr {ws:List Wv} {om:List Ob} (h:ws.length<=8):ZT ws om=some (.ok (.lst ws),om):=by
 have:=Z1
 unfold ZT
 rw[if_pos (by omega)]
 rfl
theorem move_in (W : Wd c om hb hm hu hl size off f kvs) (S : Os c om ho hb hg off gs) {k g : Nat} {s : Int} (h : at' f k = some s) (hgl : g < f.length) (hk : UB kvs ((off : Int) + k) ((off : Int) + g) = true) (hlen : gs.length < 100) :
    YS c [.o ho,.int ((off:Int)+k),.int ((off:Int)+g)] om=some (.ok .non,om.set hg (.dk (YZ c off (Vp gs k (.move g))))):=by
  have e1:ZR (Zq c.Orders "need_all" 3 (Yc c) (Za 0) (Zc (fA ZT (Zc (Za 1) (Zc (Za 2) Zi))) (Zc (fA ZT (Zc (Za 1) Zi)) Zi))) [some (.o ho),some (.int ((off:Int)+k)),some (.int ((off:Int)+g))] om=some (.ok (.nx,[some (.o ho),some (.int ((off:Int)+k)),some (.int ((off:Int)+g))]),om) :=
    Z4 ((Zw (Zb rfl) (ZB S.o) (ZP _ _ _ (by decide) (by decide)) (Ze ((ZI (Ze (Zb rfl) (Ze (Zb rfl) Zj))).trans (Wr (by simp))) (Ze ((ZI (Ze (Zb rfl) Zj)).trans (Wr (by simp))) Zj)) rfl).trans
      (UW W S [k,g] [k] (by intro j hj; simp at hj; rcases hj with rfl|rfl; exact V1 h; exact hgl) (by intro j hj; simp at hj; subst hj; rw[h]; rfl)))
  have e2:ZR (Zq c.Orders "need_beside" 3 (ZH c) (Za 0) (Zc (Za 1) (Zc (Za 2) Zi))) [some (.o ho),some (.int ((off:Int)+k)),some (.int ((off:Int)+g))] om=some (.ok (.nx,[some (.o ho),some (.int ((off:Int)+k)),some (.int ((off:Int)+g))]),om) :=
    Z4 ((Zw (Zb rfl) (ZB S.o) (ZP _ _ _ (by decide) (by decide)) (Ze (Zb rfl) (Ze (Zb rfl) Zj)) rfl).trans (XJ W S (V1 h) hgl hk))
  exact WG ((Zk e1).trans ((Zk e2).trans (put_e S (o:=.move g) ((ZI (Ze Zr (Ze (Zb rfl) Zj))).trans (QB (by simp))) rfl rfl hlen)))
theorem aid_in (W : Wd c om hb hm hu hl size off f kvs) (S : Os c om ho hb hg off gs) {k h g : Nat} {s t : Int} (hs : at' f k = some s) (ht : at' f h = some t) (hgl : g < f.length) (hne : h ≠ k) (hk : UB kvs ((off : Int) + k) ((off : Int) + g) = true) (hh : h = g ∨ UB kvs ((off : Int) + h) ((off : Int) + g) = true) (hlen : gs.length < 100) :
    Xw c [.o ho,.int ((off:Int)+k),.int ((off:Int)+h),.int ((off:Int)+g)] om=some (.ok .non,om.set hg (.dk (YZ c off (Vp gs k (.help h g))))):=by
  generalize hsl:([some (.o ho),some (.int ((off:Int)+k)),some (.int ((off:Int)+h)),some (.int ((off:Int)+g))]:Sl)=sl
  have s0:sl[0]?=some (some (.o ho)):=by rw[← hsl]; rfl
  have s1:sl[1]?=some (some (.int ((off:Int)+k))):=by rw[← hsl]; rfl
  have s2:sl[2]?=some (some (.int ((off:Int)+h))):=by rw[← hsl]; rfl
  have s3:sl[3]?=some (some (.int ((off:Int)+g))):=by rw[← hsl]; rfl
  have e1:ZR (Zq c.Orders "need_all" 3 (Yc c) (Za 0) (Zc (fA ZT (Zc (Za 1) (Zc (Za 2) (Zc (Za 3) Zi)))) (Zc (fA ZT (Zc (Za 1) (Zc (Za 2) Zi))) Zi))) sl om=some (.ok (.nx,sl),om) :=
    Z4 ((Zw (Zb s0) (ZB S.o) (ZP _ _ _ (by decide) (by decide)) (Ze ((ZI (Ze (Zb s1) (Ze (Zb s2) (Ze (Zb s3) Zj)))).trans (Wr (by simp))) (Ze ((ZI (Ze (Zb s1) (Ze (Zb s2) Zj))).trans (Wr (by simp))) Zj)) rfl).trans
      (UW W S [k,h,g] [k,h] (by intro j hj; simp at hj; rcases hj with rfl|rfl|rfl; exact V1 hs; exact V1 ht; exact hgl) (by intro j hj; simp at hj; rcases hj with rfl|rfl; rw[hs]; rfl; rw[ht]; rfl)))
  have e2:fB (f2 kEq (Za 2) (Za 1)) sl om=some (.ok false,om):=Z2 ((v2 s2 s1).trans ((Xp _ _ _).trans (by rw[decide_eq_false (by omega)])))
  have e3:ZR (Zq c.Orders "need_beside" 3 (ZH c) (Za 0) (Zc (Za 1) (Zc (Za 3) Zi))) sl om=some (.ok (.nx,sl),om) :=
    Z4 ((Zw (Zb s0) (ZB S.o) (ZP _ _ _ (by decide) (by decide)) (Ze (Zb s1) (Ze (Zb s3) Zj)) rfl).trans (XJ W S (V1 hs) hgl hk))
  have e4:sIf (fB (f2 kNe (Za 3) (Za 2))) (ZR (Zq c.Orders "need_beside" 3 (ZH c) (Za 0) (Zc (Za 2) (Zc (Za 3) Zi)))) YJ sl om=some (.ok (.nx,sl),om):=by
    have t:fB (f2 kNe (Za 3) (Za 2)) sl om=some (.ok (!decide ((off:Int)+g=(off:Int)+h)),om):=Z2 ((v2 s3 s2).trans (Xd _ _ _))
    by_cases hq:h=g
    · rw[decide_eq_true (by omega)]at t
      exact ZY t
    · rw[decide_eq_false (by omega)]at t
      refine (Y8 t).trans (Z4 ((Zw (Zb s0) (ZB S.o) (ZP _ _ _ (by decide) (by decide)) (Ze (Zb s2) (Ze (Zb s3) Zj)) rfl).trans (XJ W S (V1 ht) hgl (hh.resolve_left hq))))
  refine WG (sl1:=sl) ?_
  show _=_
  have st:Xq 4 [.o ho,.int ((off:Int)+k),.int ((off:Int)+h),.int ((off:Int)+g)]=sl:=by rw[← hsl]; rfl
  rw[st]
  exact (Zk e1).trans ((Zk (ZY e2)).trans ((Zk e3).trans ((Zk e4).trans (put_e S (o:=.help h g) ((ZI (Ze Zr (Ze (Zb s2) (Ze (Zb s3) Zj)))).trans (QB (by simp))) s0 s1 hlen))))
def mvG (gs:Gs) (k:Nat):Bool:=Y4 (some ((gs.lookup k).getD .stand))
theorem Ue:∀{l m:List Int},l.Pairwise (· < ·)->m.Pairwise (· < ·)->(∀p,p∈l ↔ p∈m)->l=m
 |[],[],_,_,_=>rfl
 |[],y::m,_,_,h=>absurd ((h y).mpr (.head _)) (by simp)
 |x::l,[],_,_,h=>absurd ((h x).mp (.head _)) (by simp)
 |x::l,y::m,h1,h2,h=>by
  have h1':=List.pairwise_cons.mp h1
  have h2':=List.pairwise_cons.mp h2
  have e:x=y:=by
   rcases List.mem_cons.mp ((h x).mp (.head _)) with hx|hx
   ·exact hx
   ·rcases List.mem_cons.mp ((h y).mpr (.head _)) with hy|hy
    ·exact hy.symm
    ·have a:=h1'.1 y hy
     have b:=h2'.1 x hx
     omega
  subst e
  rw[Ue h1'.2 h2'.2 fun p=>⟨fun hp=>?_,fun hp=>?_⟩]
  ·rcases List.mem_cons.mp ((h p).mp (.tail _ hp)) with z|z
   ·have:=h1'.1 p hp; omega
   ·exact z
  ·rcases List.mem_cons.mp ((h p).mpr (.tail _ hp)) with z|z
   ·have:=h2'.1 p hp; omega
   ·exact z
theorem Qu {l:List Int} (nd:l.Nodup):(WB l).Pairwise (· < ·):=by
 have hn:(WB l).Nodup:=(XD l).nodup_iff.mpr nd
 exact ((Uo l).and hn).imp fun {x y} h=>by
  have:=h.1
  have:=h.2
  omega
def Xj (off:Nat) (T:Nat->Option Od) (n:Nat):List Int:=((List.range n).filter fun k=>Y4 (T k)).map fun (k:Nat)=>(off:Int)+k
theorem T3 (off:Nat) (T:Nat->Option Od) (n:Nat):(Xj off T n).Pairwise (· < ·):=by
 unfold Xj
 refine List.pairwise_map.mpr ((List.Pairwise.filter _ List.pairwise_lt_range).imp fun {a b} h=>?_)
 show (off:Int)+a < off+b
 omega
theorem QS {gs:Gs} {T:Nat->Option Od} (h:Tell gs T) (off n:Nat) (hn:∀k o,T k=some o->k < n):WB ((gs.filter fun p=>Y4 (some p.2)).map fun p=>(off:Int)+p.1)=Xj off T n:=by
 refine Ue (Qu ?_) (T3 off T n) fun p=>?_
 ·have nd:((gs.filter fun p=>Y4 (some p.2)).map (·.1)).Nodup:=h.nd.sublist (List.Sublist.map _ (List.filter_sublist ..))
  refine List.pairwise_map.mpr ((List.pairwise_map.mp nd).imp fun {a b} hab z=>hab ?_)
  have z:(off:Int)+a.1=off+b.1:=z
  omega
 ·rw[(XD _).mem_iff]
  unfold Xj
  constructor
  ·intro hp
   obtain ⟨q,hq,rfl⟩:=List.mem_map.mp hp
   obtain ⟨hq1,hq2⟩:=List.mem_filter.mp hq
   have hk:=h.key q.1 q.2 (XT h.nd hq1)
   exact List.mem_map.mpr ⟨q.1,List.mem_filter.mpr ⟨List.mem_range.mpr (hn _ _ hk),by rw[hk]; exact hq2⟩,rfl⟩
  ·intro hp
   obtain ⟨k,hk,rfl⟩:=List.mem_map.mp hp
   obtain ⟨_,hk2⟩:=List.mem_filter.mp hk
   match hT:T k with
   |none=>rw[hT]at hk2; cases hk2
   |some o =>
    rw[hT]at hk2
    have hg:=h.get k o hT
    cases hl:gs.lookup k with
    |none =>
     rw[hl]at hg
     have hg:Od.stand=o:=hg
     subst hg
     cases hk2
    |some q =>
     rw[hl]at hg
     have hg:q=o:=hg
     subst hg
     exact List.mem_map.mpr ⟨(k,q),List.mem_filter.mpr ⟨UI hl,hk2⟩,rfl⟩
theorem Su:∀ns:List Int,Wu (ns.map Wv.int)=some ns
 |[]=>rfl
 |n::r=>by
  show (match Wu (r.map Wv.int) with|some is=>some (n::is)|none=>none)=_
  rw[Su r]
theorem Pf (off:Nat) (o:Od) (om:List Ob):WA (WV off o) om=some (.ok (.bl (Y4 (some o))),om):=by
 cases o <;> rfl
theorem gv_keys (c:CA) (off:Nat) (gs:Gs):((YZ c off gs).map fun p=>Vw p.1)=(gs.map fun p=>(off:Int)+p.1).map Wv.int:=by
 unfold YZ
 rw[List.map_map,List.map_map]
 rfl
theorem UZ {k : List Wv -> Mw Wv} {cT : FT} {fE : FE} (hcT : ∀ om' (w : Wv),∀ j : Nat,w = .int ((off : Int) + j) -> om'[ho]? = some (XB c hb hg) -> om'[hg]? = some (.dz (YZ c off gs)) -> cT [some w,some (.o ho)] om' = some (.ok (mvG gs j),om')) (hfE : ∀ w om',fE [some w,some (.o ho)] om' = some (.ok w,om')) (S : Os c om ho hb hg off gs) (nd : (gs.map (·.1)).Nodup) (hlen : gs.length < 100) :
    XO k [0] (f1 (Z6 c.Orders "given") (Za 0)) cT fE [some (.o ho)] om=k (((gs.filter fun p=>Y4 (some p.2)).map fun p=>(off:Int)+p.1).map Wv.int) om:=by
  have hlim:=Z1
  have nb:hg≠ho:=fun z=>by have h:=S.g; subst z; rw[S.o]at h; cases h
  have hlt:hg < om.length:=(List.getElem?_eq_some_iff.mp S.g).1
  have a1:(om.set hg (.dz (YZ c off gs)))[ho]?=some (XB c hb hg):=by rw[List.getElem?_set_ne nb]; exact S.o
  have a2:(om.set hg (.dz (YZ c off gs)))[hg]?=some (.dz (YZ c off gs)):=by rw[List.getElem?_set_self hlt]
  unfold XO
  rw[Zs (Xi rfl S.o (Tm ..))]
  refine (Zs (a:=(true,hg,(YZ c off gs).map fun p=>Vw p.1)) (om1:=om.set hg (.dz (YZ c off gs))) ?_).trans ?_
  · have h1:(YZ c off gs).length<=lim:=by rw[gvOf_len]; omega
    simp[kFrz,S.g,h1]
  dsimp only
  have pj:∀j:Nat,((off:Int)+j - off).toNat=j:=fun j=>by omega
  have e:=VC (c:=cT) (f:=fE) (mk:=fun w=>YR [0] w [some (.o ho)]) (om:=om.set hg (.dz (YZ c off gs))) (fun w=>match w with|.int i=>mvG gs (i - off).toNat|_=>false) (fun w=>w) (l:=(YZ c off gs).map fun p=>Vw p.1)
    (fun w hw=>by
      rw[gv_keys]at hw
      obtain ⟨i,hi,rfl⟩:=List.mem_map.mp hw
      obtain ⟨p,hp,rfl⟩:=List.mem_map.mp hi
      show cT [some (.int ((off:Int)+p.1)),some (.o ho)] _=some (.ok (mvG gs ((off:Int)+p.1 - off).toNat),_)
      rw[pj]
      exact hcT _ _ p.1 rfl a1 a2) (fun w hw _=>hfE w _)
  rw[Zs e]
  refine (Zs (a:=()) (om1:=om) ?_).trans ?_
  · have : (om.set hg (.dz (YZ c off gs))).set hg (.dk (YZ c off gs)) = om:=by
      rw[List.set_set]
      exact List.ext_getElem? fun i=>by
        by_cases h:hg=i
        · subst h; rw[List.getElem?_set_self hlt,S.g]
        · rw[List.getElem?_set_ne h]
    simp only[kThw,a2,this,if_true]
  · refine congrArg (fun l=>k l om) ?_
    rw[List.map_id',gv_keys,List.map_map]
    clear e a1 a2 hlt nb
    have key:∀l:Gs,(∀p∈l,gs.lookup p.1=some p.2)->(l.map (Wv.int ∘ fun p=>(off:Int)+p.1)).filter (fun w=>match w with|.int i=>mvG gs (i - off).toNat|_=>false)=((l.filter fun p=>Y4 (some p.2)).map fun p=>(off:Int)+p.1).map Wv.int:=by
      intro l
      induction l with
      |nil=>intro _; rfl
      |cons p l ih =>
        intro hp
        have h1:=hp p (.head _)
        have e1:mvG gs ((off:Int)+p.1 - off).toNat=Y4 (some p.2):=by
          rw[pj]
          unfold mvG
          rw[h1]
          rfl
        rw[List.map_cons,List.filter_cons,List.filter_cons]
        show (if mvG gs ((off:Int)+p.1 - off).toNat=true then _ else _)=_
        rw[e1,ih fun q hq=>hp q (.tail _ hq)]
        cases Y4 (some p.2) <;> rfl
    exact key gs fun p hp=>XT nd hp
theorem movers_in {T:Nat->Option Od} {n:Nat} (S:Os c om ho hb hg off gs) (t:Tell gs T) (hn:∀k o,T k=some o->k < n) (hlen:gs.length<=60):ZM c [.o ho] om=some (.ok (.lst ((Xj off T n).map Wv.int)),om)∧Uj c [.o ho] om=some (.ok (.o om.length),om++[.lst ((Xj off T n).map Wv.int)]):=by
 have hlim:=Z1
 have hE:∀(w:Wv) (om':List Ob),(Za 0) [some w,some (.o ho)] om'=some (.ok w,om'):=fun w om'=>Zb rfl
 have hT:∀(om':List Ob) (w:Wv),∀j:Nat,w=.int ((off:Int)+j)->om'[ho]?=some (XB c hb hg)->om'[hg]?=some (.dz (YZ c off gs))->(fB (f1 WA (Zq c.Orders "goal_of" 2 (Zm c) (Za 1) (Zc (Za 0) Zi)))) [some w,some (.o ho)] om'=some (.ok (mvG gs j),om'):=fun om' w j hw h1 h2=>by
  subst hw
  exact Z2 ((Vh ((Zw (Zb rfl) (ZB h1) (ZP _ _ _ (by decide) (by decide)) (Ze (Zb rfl) Zj) rfl).trans (goal_any h1 (.inr h2) j))).trans (Pf _ _ _))
 generalize hL:((gs.filter fun p=>Y4 (some p.2)).map fun p=>(off:Int)+p.1)=L
 have hLl:L.length<=gs.length:=by rw[← hL,List.length_map]; exact List.length_filter_le _ _
 have es:WB L=Xj off T n:=by rw[← hL]; exact QS t off n hn
 have hml:((Xj off T n).map Wv.int).length<=gs.length:=by rw[List.length_map,← es,(XD L).length_eq]; exact hLl
 have srt:∀k:List Wv->Mw Wv,Xy k [.lst (L.map Wv.int)] om=k ((Xj off T n).map Wv.int) om:=fun k=>by
  show (match Wu (L.map Wv.int) with|some ns=>if ns.length < 64 then k ((WB ns).map Wv.int) om else none|none=>none)=_
  rw[Su]
  show (if L.length < 64 then k ((WB L).map Wv.int) om else none)=_
  rw[if_pos (by omega),es]
 have lay:ZT (L.map Wv.int) om=some (.ok (.lst (L.map Wv.int)),om):=by
  unfold ZT
  rw[if_pos (by rw[List.length_map]; omega)]
  rfl
 refine ⟨ZJ (Zy ((ZI (Ze ((UZ hT hE S t.nd (by omega)).trans (by rw[hL]; exact lay)) Zj)).trans ((srt ZT).trans ?_))),ZJ (Zy ((ZI (Ze ((UZ hT hE S t.nd (by omega)).trans (by rw[hL]; exact lay)) Zj)).trans ((srt WD).trans ?_)))⟩
 ·unfold ZT
  rw[if_pos (by omega)]
  rfl
 ·unfold WD
  rw[if_pos (by omega)]
  rfl
end
end MP
set_option maxHeartbeats 400000
namespace MP
open PySem L2
theorem nd_len:∀(n:Nat) (l:List Nat),l.Nodup->(∀x∈l,x < n)->l.length<=n
 |0,[],_,_=>Nat.le_refl _
 |0,x::_,_,h=>absurd (h x (.head _)) (by omega)
 |n+1,l,nd,h=>by
  have h1:=nd_len n (l.erase n) (nd.erase n) fun x hx=>by
   have q:=(List.Nodup.mem_erase_iff nd).mp hx
   have:=h x q.2
   have:=q.1
   omega
  have h2:l.length<=(l.erase n).length+1:=by rw[List.length_erase]; split <;> omega
  omega
theorem Tell.len {gs:Gs} {T:Nat->Option Od} {n:Nat} (h:Tell gs T) (hn:∀k o,T k=some o->k < n):gs.length<=n:=by
 rw[← List.length_map (f:=(·.1))]
 refine nd_len n _ h.nd fun x hx=>?_
 obtain ⟨p,hp,rfl⟩:=List.mem_map.mp hx
 exact hn _ _ (h.key p.1 p.2 (XT h.nd hp))
section
variable {c:CA} {om:List Ob} {ho hb hm hu hl hg size off:Nat} {f:List (Option Int)} {kvs:List (List Key × Wv)} {gs:Gs} {rows:Mx}
theorem Os.at (S:Os c om ho hb hg off gs) (gs':Gs):Os c (om.set hg (.dk (YZ c off gs'))) ho hb hg off gs':=by
 have nb:hg≠ho:=fun z=>by have h:=S.g; subst z; rw[S.o]at h; cases h
 exact ⟨by rw[List.getElem?_set_ne nb]; exact S.o,by rw[List.getElem?_set_self (List.getElem?_eq_some_iff.mp S.g).1]⟩
def Same' (f:List (Option Int)) (T:Nat->Option Od):Prop:=∀j,(T j).isSome=(at' f j).isSome
theorem Givn.same {told:List (Option Od)} (G:Givn rows f told):Same' f (at' told):=fun j=>by
 by_cases h:j < f.length
 ·have:=G.okT.both j (by rw[G.len]; exact h)
  exact Bool.eq_iff_iff.mpr this
 ·rw[V8 h,V8 (by rw[G.len]; exact h)]; rfl
theorem Same'.lt {T:Nat->Option Od} (h:Same' f T):∀k o,T k=some o->k < f.length:=fun k o e=>by
 have q:=h k
 rw[e]at q
 obtain ⟨s,hs⟩:=Option.isSome_iff_exists.mp q.symm
 exact V1 hs
theorem Qk (c:CA) (om:List Ob) (hb:Nat):XC c.Orders 2 (YV c) [.o hb] om=some (.ok (.o om.length),om++[XB c hb (om.length+1),.dk []]):=by
 simp[YV,Vm,Yj,Xq,ZE,kSeq,ZU,ZR,Z9,sRetN,sIf,YJ,Za,fC,f1,f2,fB,kB,fA,Zc,Zi,Wo,YU,bnd,L2.ret,kI,kIc,kIx,QR,Vs,fOr,Se,Y3,fOrV,Qq,WE,WA,W2,W5,Ub,W3,W9,Tf,Sj,kIsi,kdOf,Kd.isi,X5,kTru,UM,Z6,XQ,Zq,kIns,kN,chk,XC,WS,Rm,VX,newO,VJ,Y9,Yk,Yu,Vo,Um,UQ,V4,VE,isD,fPop,kPop,Xo,Ug,U6,kFmt,L2.Rt,Wz,ZT,WD,fRep,QZ,kSl,fSl,fNoP,fPart,Q3,sSetI,kSetI,Wc,Yh,Ve,ZZ,Xz,tgN,kClr,Wk,Wl,ZS,kIsE,sTry,kUn,WP,kCat,Y1,Wt,Yw,L2.Xd,L2.Xp,List.lookup_cons,List.lookup_nil]
end
end MP
namespace MP
noncomputable section
open PySem L2
def RQ (c:CA):FT :=
 (Vs (fB (f2 kEq (Zq c.Orders "goal_of" 2 (Zm c) (Za 1) (Zc (Za 0) Zi)) (Za 2))) (fB (f2 kNe (Zq c.Board "side_at" 2 (ZD c) (f1 (Z6 c.Orders "board") (Za 1)) (Zc (Za 0) Zi)) (Za 3))))
def S0 (c:CA):FE :=
 (Za 0)
def UF (c:CA):FE :=
 (f2 kNe (Za 0) (f2 (X6 c.STAND) (Za 1) (fC (.int 2))))
def S_is_cut (c:CA):FS :=
 (ZE (ZU 2 (Zq c.Orders "told" 2 (Z8 c) (Za 0) (Zc (Za 1) Zi)))
  (ZE (sIf (fB (f2 kNe (f2 (X6 c.STAND) (Za 2) (fC (.int 0))) (fC (.str "help")))) (Z9 (fC (.bl false))) YJ)
  (ZE (ZU 3 (Zq c.Board "side_at" 2 (ZD c) (f1 (Z6 c.Orders "board") (Za 0)) (Zc (Za 1) Zi)))
  (ZE (ZU 4 (Yh ZT [0,1,3] (fun sl=>bnd ((Zq c.Orders "movers" 1 (ZM c) (Za 0) Zi) sl) ZZ) (RQ c) (S0 c)))
  (Z9 (fA kAny (Zc (Yh ZT [2] (fun sl=>bnd ((Za 4) sl) ZZ) WP (UF c)) Zi)))))))
def g_is_cut (c:CA):List Wv->Mw Wv:=Yj 5 (S_is_cut c)
def S_fits (c:CA):FS :=
 (ZE (sIf (fB (f2 kEq (Za 2) (Za 1))) (Z9 (f1 WE (Zq c.Orders "goal_of" 2 (Zm c) (Za 0) (Zc (Za 1) Zi)))) YJ)
  (Z9 (f2 kEq (Zq c.Orders "goal_of" 2 (Zm c) (Za 0) (Zc (Za 1) Zi)) (Za 2))))
def g_fits (c:CA):List Wv->Mw Wv:=Yj 3 (S_fits c)
def S_counts (c:CA):FS :=
 (ZE (ZU 2 (Zq c.Orders "told" 2 (Z8 c) (Za 0) (Zc (Za 1) Zi)))
  (Z9 (Y3 (f2 kEq (f2 (X6 c.STAND) (Za 2) (fC (.int 0))) (fC (.str "help"))) (Y3 (fA (kN 3 (g_fits c)) (Zc (Za 0) (Zc (f2 (X6 c.STAND) (Za 2) (fC (.int 1))) (Zc (f2 (X6 c.STAND) (Za 2) (fC (.int 2))) Zi)))) (f1 Sj (fA (kN 2 (g_is_cut c)) (Zc (Za 0) (Zc (Za 1) Zi))))))))
def g_counts (c:CA):List Wv->Mw Wv:=Yj 3 (S_counts c)
def S_backs (c:CA):FS :=
 (ZE (ZU 3 (Zq c.Orders "told" 2 (Z8 c) (Za 0) (Zc (Za 1) Zi)))
  (Z9 (Y3 (f2 kEq (f2 (X6 c.STAND) (Za 3) (fC (.int 0))) (fC (.str "help"))) (Y3 (f2 kEq (f2 (X6 c.STAND) (Za 3) (fC (.int 1))) (Za 2)) (fA (kN 2 (g_counts c)) (Zc (Za 0) (Zc (Za 1) Zi)))))))
def g_backs (c:CA):List Wv->Mw Wv:=Yj 4 (S_backs c)
def P1_backing (c:CA):FT :=
 (X5 (fA (kN 3 (g_backs c)) (Zc (Za 2) (Zc (Za 0) (Zc (Za 3) Zi)))))
def E1_backing (c:CA):FE :=
 (Za 1)
def S_backing (c:CA):FS :=
 (Z9 (Qv ZT 2 [0,1] (fun sl=>bnd ((Zq c.Board "roll" 1 (Xx c) (f1 (Z6 c.Orders "board") (Za 0)) Zi) sl) ZZ) (P1_backing c) (E1_backing c)))
def g_backing (c:CA):List Wv->Mw Wv:=Yj 2 (S_backing c)
def S_force (c:CA):FS :=
 (ZE (sIf (fB (f1 WE (Zq c.Orders "goal_of" 2 (Zm c) (Za 0) (Zc (Za 1) Zi)))) (Z9 (fC (.int 0))) YJ)
  (Z9 (f2 YB (fC (.int 1)) (fA Wo (Zc (fA (kN 2 (g_backing c)) (Zc (Za 0) (Zc (Za 1) Zi))) Zi)))))
def g_force (c:CA):List Wv->Mw Wv:=Yj 2 (S_force c)
def Up (c:CA):FT :=
 (fB (f2 kNe (Za 0) (Za 1)))
def UA (c:CA):FE :=
 (Za 0)
def U8 (c:CA):FS :=
 (ZE (sIf (fB (f1 WE (Zq c.Orders "goal_of" 2 (Zm c) (Za 0) (Zc (Za 1) Zi)))) (Z9 (fC (.int 0))) YJ)
  (Z9 (f2 YB (fC (.int 1)) (fA Wo (Zc (Yh ZT [2] (fun sl=>bnd ((fA (kN 2 (g_backing c)) (Zc (Za 0) (Zc (Za 1) Zi))) sl) ZZ) (Up c) (UA c)) Zi)))))
def g_force_against (c:CA):List Wv->Mw Wv:=Yj 3 (U8 c)
def S_firmness (c:CA):FS :=
 (ZE (sIf (fB (f1 WA (Zq c.Orders "goal_of" 2 (Zm c) (Za 0) (Zc (Za 1) Zi)))) (Z9 (fC (.int 1))) YJ)
  (Z9 (f2 YB (fC (.int 1)) (fA Wo (Zc (fA (kN 2 (g_backing c)) (Zc (Za 0) (Zc (Za 1) Zi))) Zi)))))
def g_firmness (c:CA):List Wv->Mw Wv:=Yj 2 (S_firmness c)
end
end MP
set_option maxHeartbeats 400000
namespace MP
open PySem L2
theorem Yy {α:Type} {cT:FT} {f:FE} {mk:Wv->Sl} {om:List Ob} (φ:α->Wv) (p:α->Bool) (g:α->Wv):∀{l:List α},(∀a∈l,cT (mk (φ a)) om=some (.ok (p a),om))->(∀a∈l,p a=true->f (mk (φ a)) om=some (.ok (g a),om))->Y5 cT f mk (l.map φ) om=some (.ok ((l.filter p).map g),om)
 |[],_,_=>rfl
 |a::l,h1,h2=>by
  have ih:=Yy φ p g (l:=l) (fun b hb=>h1 b (.tail _ hb)) (fun b hb=>h2 b (.tail _ hb))
  have c1:ZS (cT (mk (φ a))) om=some (.ok (p a),om):=by simp[ZS,h1 a (.head _)]
  rw[List.map_cons]
  show bnd (ZS (cT (mk (φ a)))) (kOne (Y5 cT f mk (l.map φ)) (f (mk (φ a)))) om=_
  rw[Zs c1,List.filter_cons]
  cases hp:p a with
  |false=>exact ih
  |true =>
   have c2:ZS (f (mk (φ a))) om=some (.ok (g a),om):=by simp[ZS,h2 a (.head _) hp]
   show bnd (ZS (f (mk (φ a)))) (fun x=>bnd (Y5 cT f mk (l.map φ)) fun xs=>L2.ret (x::xs)) om=_
   rw[Zs c2,Zs ih]
   rfl
theorem VD {α:Type} (b:α->Bool):∀l:List α,XZ (l.map fun a=>Wv.bl (b a))=some (l.map b)
 |[]=>rfl
 |a::l=>by
  show (match XZ (l.map fun a=>Wv.bl (b a)) with|some bs=>some (b a::bs)|none=>none)=_
  rw[VD b l]
  rfl
theorem odG_0 (c:CA) (off:Nat) (o:Od) (om:List Ob):X6 c.STAND (odG c off o) (.int 0) om=some (.ok (.str (odN o)),om):=by
 unfold X6
 cases o with
 |stand=>rw[show odG c off .stand=.g c.STAND from rfl,unG_g]; exact Ys (k:=0) rfl rfl
 |move g=>exact Ys (k:=0) rfl rfl
 |help h g=>exact Ys (k:=0) rfl rfl
theorem odG_1 (c:CA) (off h g:Nat) (om:List Ob):X6 c.STAND (odG c off (.help h g)) (.int 1) om=some (.ok (.int ((off:Int)+h)),om):=Ys (k:=1) rfl rfl
theorem odG_2 (c:CA) (off h g:Nat) (om:List Ob):X6 c.STAND (odG c off (.help h g)) (.int 2) om=some (.ok (.int ((off:Int)+g)),om):=Ys (k:=2) rfl rfl
theorem VW {fa fb:FE} {sl:Sl} {om om1:List Ob} (h:fa sl om=some (.ok (.bl false),om1)):Y3 fa fb sl om=some (.ok (.bl false),om1):=by simp[Y3,bnd,h,kB,L2.ret]
theorem Qe {fa fb:FE} {sl:Sl} {om:List Ob} {a b:Bool} (h:fa sl om=some (.ok (.bl a),om)) (h2:a=true->fb sl om=some (.ok (.bl b),om)):Y3 fa fb sl om=some (.ok (.bl (a&&b)),om):=by
 cases a with
 |false=>exact VW h
 |true=>exact (VY h).trans (h2 rfl)
theorem TJ (off a b:Nat):decide ((off:Int)+a=(off:Int)+b)=decide (a=b):=by
 by_cases h:a=b
 ·rw[decide_eq_true h,decide_eq_true (by omega)]
 ·rw[decide_eq_false h,decide_eq_false (by omega)]
theorem Th (off:Nat) (o:Od) (g:Nat) (om:List Ob):XS false (WV off o) (.int ((off:Int)+g)) om=some (.ok (.bl (decide (o=.move g))),om):=by
 cases o with
 |stand=>simp[WV,XS,YT,X8,Ww,PyData.canLay0,PyData.depth,PyData.eqv]
 |help a b=>simp[WV,XS,YT,X8,Ww,PyData.canLay0,PyData.depth,PyData.eqv]
 |move a =>
  refine (Xp _ _ _).trans ?_
  rw[TJ]
  by_cases h:a=g
  ·subst h; simp
  ·rw[decide_eq_false h,decide_eq_false (fun z=>h (Od.move.inj z))]
theorem T1 (off:Nat) (o:Od) (om:List Ob):WE (WV off o) om=some (.ok (.bl (!Y4 (some o))),om):=by cases o <;> rfl
section
variable {c:CA} {om:List Ob} {ho hb hm hu hl hg size off:Nat} {f:List (Option Int)} {kvs:List (List Key × Wv)} {gs:Gs} {rows:Mx} {told:List (Option Od)}
def isHp (told:List (Option Od)) (f:List (Option Int)) (k:Nat):Bool:=match at' told k with
 |some (.help _ g)=>QJ told f k g
 |_=>false
theorem told_w (W:Wd c om hb hm hu hl size off f kvs) (S:Os c om ho hb hg off gs) (G:Givn rows f told) (t:Tell gs (at' told)) {k:Nat} {o:Od} (h:at' told k=some o):Z8 c [.o ho,.int ((off:Int)+k)] om=some (.ok (odG c off o),om):=by
 have hs:=G.same k
 rw[h]at hs
 obtain ⟨s,e⟩:=Option.isSome_iff_exists.mp hs.symm
 rw[told_in W S e,t.get k o h]
theorem QD (S:Os c om ho hb hg off gs) (t:Tell gs (at' told)) {k:Nat} {o:Od} (h:at' told k=some o):Zm c [.o ho,.int ((off:Int)+k)] om=some (.ok (WV off o),om):=by
 rw[goal_in S k,t.get k o h]
theorem Q9 (W:Wd c om hb hm hu hl size off f kvs) (S:Os c om ho hb hg off gs) (G:Givn rows f told) (t:Tell gs (at' told)):ZM c [.o ho] om=some (.ok (.lst (((List.range f.length).filter fun k=>Y4 (at' told k)).map fun (k:Nat)=>Wv.int ((off:Int)+k))),om):=by
 have h1:=t.len G.same.lt
 have h2:=W.fit
 have h3:=W.few
 rw[(movers_in (n:=f.length) S t G.same.lt (by omega)).1]
 unfold Xj
 rw[List.map_map]
 rfl
theorem cut_any (G:Givn rows f told) (k g:Nat):(((List.range f.length).filter fun m=>Y4 (at' told m)).filter fun m=>decide (at' told m=some (.move k))&&!decide (at' f m=at' f k)).any (fun m=>!decide (m=g))=QJ told f k g:=by
 unfold QJ
 rw[G.len]
 refine Bool.eq_iff_iff.mpr ?_
 rw[List.any_eq_true,List.any_eq_true]
 constructor
 ·rintro ⟨m,hm,h⟩
  obtain ⟨hm1,hm2⟩:=List.mem_filter.mp hm
  obtain ⟨hm3,_⟩:=List.mem_filter.mp hm1
  obtain ⟨a,b⟩:=Bool.and_eq_true_iff.mp hm2
  exact ⟨m,hm3,by rw[a,h,b]; rfl⟩
 ·rintro ⟨m,hm,h⟩
  obtain ⟨a,h2⟩:=Bool.and_eq_true_iff.mp h
  obtain ⟨b,d⟩:=Bool.and_eq_true_iff.mp h2
  refine ⟨m,List.mem_filter.mpr ⟨List.mem_filter.mpr ⟨hm,?_⟩,by rw[a,d]; rfl⟩,b⟩
  rw[of_decide_eq_true a]
  rfl
theorem is_cut_in (W:Wd c om hb hm hu hl size off f kvs) (S:Os c om ho hb hg off gs) (G:Givn rows f told) (t:Tell gs (at' told)) {k:Nat} {o:Od} (h:at' told k=some o):g_is_cut c [.o ho,.int ((off:Int)+k)] om=some (.ok (.bl (isHp told f k)),om):=by
 have hlim:=Z1
 have hk:k < f.length:=G.same.lt k o h
 have h2:=W.fit
 have h3:=W.few
 have e1:ZU 2 (Zq c.Orders "told" 2 (Z8 c) (Za 0) (Zc (Za 1) Zi)) [some (.o ho),some (.int ((off:Int)+k)),none,none,none] om=some (.ok (.nx,[some (.o ho),some (.int ((off:Int)+k)),some (odG c off o),none,none]),om) :=
  ZK (i:=2) ((Zw (Zb rfl) (ZB S.o) (ZP _ _ _ (by decide) (by decide)) (Ze (Zb rfl) Zj) rfl).trans (told_w W S G t h))
 have t1:fB (f2 kNe (f2 (X6 c.STAND) (Za 2) (fC (.int 0))) (fC (.str "help"))) [some (.o ho),some (.int ((off:Int)+k)),some (odG c off o),none,none] om=some (.ok (!decide (odN o="help")),om):=Z2 ((Zx ((Zx (Zb rfl) Zr).trans (odG_0 c off o _)) Zr).trans (ne_str _ _ (so_od o) Tj _))
 unfold isHp
 rw[h]
 match o,h with
 |.stand,h=>exact ZJ ((Zk e1).trans (Yr ((Y8 t1).trans (Zy Zr))))
 |.move g,h=>exact ZJ ((Zk e1).trans (Yr ((Y8 t1).trans (Zy Zr))))
 |.help q g,h =>
  have e3:ZU 3 (Zq c.Board "side_at" 2 (ZD c) (f1 (Z6 c.Orders "board") (Za 0)) (Zc (Za 1) Zi)) [some (.o ho),some (.int ((off:Int)+k)),some (odG c off (.help q g)),none,none] om=some (.ok (.nx,[some (.o ho),some (.int ((off:Int)+k)),some (odG c off (.help q g)),some (Xr (at' f k)),none]),om) :=
   ZK (i:=3) ((Zw (WY S rfl) (ZB W.b) (Yv _ _ _ (by decide) (by decide)) (Ze (Zb rfl) Zj) rfl).trans (Qm W hk))
  generalize hA:((List.range f.length).filter fun m=>Y4 (at' told m))=A
  have hAm:∀m∈A,m < f.length∧∃g',at' told m=some (.move g'):=fun m hm=>by
   rw[← hA]at hm
   obtain ⟨a,b⟩:=List.mem_filter.mp hm
   refine ⟨List.mem_range.mp a,?_⟩
   match e:at' told m,b with
   |some (.move g'),_=>exact ⟨g',rfl⟩
  have hAl:A.length<=f.length:=by rw[← hA]; exact Nat.le_trans (List.length_filter_le _ _) (by simp)
  have mv:=Q9 W S G t
  rw[hA]at mv
  generalize hp:(fun m=>decide (at' told m=some (.move k))&&!decide (at' f m=at' f k))=p
  have e4:ZU 4 (Yh ZT [0,1,3] (fun sl=>bnd ((Zq c.Orders "movers" 1 (ZM c) (Za 0) Zi) sl) ZZ) (RQ c) (S0 c)) [some (.o ho),some (.int ((off:Int)+k)),some (odG c off (.help q g)),some (Xr (at' f k)),none] om=some (.ok (.nx,[some (.o ho),some (.int ((off:Int)+k)),some (odG c off (.help q g)),some (Xr (at' f k)),some (.lst ((A.filter p).map fun (m:Nat)=>Wv.int ((off:Int)+m)))]),om):=by
   refine ZK (i:=4) ((WZ (ws:=A.map fun (m:Nat)=>Wv.int ((off:Int)+m)) (om1:=om) ((Zs ((Zw (Zb rfl) (ZB S.o) (ZP _ _ _ (by decide) (by decide)) Zj rfl).trans mv)).trans rfl) (by rw[List.length_map]; omega) (Yy (fun (m:Nat)=>Wv.int ((off:Int)+m)) p (fun (m:Nat)=>Wv.int ((off:Int)+m)) (fun m hm=>?_) (fun m hm _=>Zb rfl))).trans ?_)
   ·obtain ⟨hm1,g',hm2⟩:=hAm m hm
    rw[← hp]
    refine fAnd_b (Z2 ((Zx ((Zw (Zb rfl) (ZB S.o) (ZP _ _ _ (by decide) (by decide)) (Ze (Zb rfl) Zj) rfl).trans (QD S t hm2)) (Zb rfl)).trans ((Th _ _ _ _).trans ?_))) fun _=>?_
    ·rw[hm2]
     simp
    ·exact Z2 ((Zx ((Zw (WY S rfl) (ZB W.b) (Yv _ _ _ (by decide) (by decide)) (Ze (Zb rfl) Zj) rfl).trans (Qm W hm1)) (Zb rfl)).trans (Q4 _ _ _))
   ·unfold ZT
    have:=List.length_filter_le p A
    rw[if_pos (by rw[List.length_map]; omega)]
    rfl
  have hfl:=List.length_filter_le p A
  have e5:fA kAny (Zc (Yh ZT [2] (fun sl=>bnd ((Za 4) sl) ZZ) WP (UF c)) Zi) [some (.o ho),some (.int ((off:Int)+k)),some (odG c off (.help q g)),some (Xr (at' f k)),some (.lst ((A.filter p).map fun (m:Nat)=>Wv.int ((off:Int)+m)))] om=some (.ok (.bl (QJ told f k g)),om):=by
   have c1:Yh ZT [2] (fun sl=>bnd ((Za 4) sl) ZZ) WP (UF c) [some (.o ho),some (.int ((off:Int)+k)),some (odG c off (.help q g)),some (Xr (at' f k)),some (.lst ((A.filter p).map fun (m:Nat)=>Wv.int ((off:Int)+m)))] om=some (.ok (.lst ((A.filter p).map fun m=>Wv.bl (!decide (m=g)))),om):=by
    refine (WZ (ws:=(A.filter p).map fun (m:Nat)=>Wv.int ((off:Int)+m)) (om1:=om) ((Zs (a:=.lst ((A.filter p).map fun (m:Nat)=>Wv.int ((off:Int)+m))) (om1:=om) (Zb rfl)).trans rfl) (by rw[List.length_map]; omega) (Yy (fun (m:Nat)=>Wv.int ((off:Int)+m)) (fun _=>true) (fun m=>Wv.bl (!decide (m=g))) (fun m hm=>rfl) (fun m hm _=>?_))).trans ?_
    ·refine ((Zx (Zb rfl) ((Zx (Zb rfl) Zr).trans (odG_2 c off q g _))).trans (Xd _ _ _)).trans ?_
     rw[TJ]
    ·rw[List.filter_eq_self.mpr (fun _ _=>rfl)]
     unfold ZT
     rw[if_pos (by rw[List.length_map]; omega)]
     rfl
   refine (ZI (Ze c1 Zj)).trans ?_
   show (match XZ ((A.filter p).map fun m=>Wv.bl (!decide (m=g))) with|some bs=>some (Except.ok (Wv.bl (bs.any id)),om)|none=>none)=_
   rw[VD]
   show some (Except.ok (Wv.bl (((A.filter p).map fun m=>!decide (m=g)).any id)),om)=_
   rw[List.any_map,← cut_any G k g,hA,hp]
   rfl
  exact ZJ ((Zk e1).trans ((Zk (ZY t1)).trans ((Zk e3).trans ((Zk e4).trans (Zy e5)))))
theorem fits_in (S:Os c om ho hb hg off gs) (t:Tell gs (at' told)) {h g:Nat} {o:Od} (e:at' told h=some o):g_fits c [.o ho,.int ((off:Int)+h),.int ((off:Int)+g)] om=some (.ok (.bl (if h=g then !Y4 (at' told h) else decide (at' told h=some (.move g)))),om):=by
 have t1:fB (f2 kEq (Za 2) (Za 1)) [some (.o ho),some (.int ((off:Int)+h)),some (.int ((off:Int)+g))] om=some (.ok (decide (g=h)),om):=Z2 ((v2 rfl rfl).trans ((Xp _ _ _).trans (by rw[TJ])))
 have gl:Zq c.Orders "goal_of" 2 (Zm c) (Za 0) (Zc (Za 1) Zi) [some (.o ho),some (.int ((off:Int)+h)),some (.int ((off:Int)+g))] om=some (.ok (WV off o),om):=(Zw (Zb rfl) (ZB S.o) (ZP _ _ _ (by decide) (by decide)) (Ze (Zb rfl) Zj) rfl).trans (QD S t e)
 rw[e]
 by_cases hq:h=g
 ·rw[decide_eq_true hq.symm]at t1
  rw[if_pos hq]
  exact ZJ (Yr ((Y8 t1).trans (Zy ((Vh gl).trans (T1 _ _ _)))))
 ·rw[decide_eq_false (Ne.symm hq)]at t1
  rw[if_neg hq]
  refine ZJ ((Zk (ZY t1)).trans (Zy ((Zx gl (Zb rfl)).trans ((Th _ _ _ _).trans ?_))))
  simp
theorem counts_in (W:Wd c om hb hm hu hl size off f kvs) (S:Os c om ho hb hg off gs) (G:Givn rows f told) (t:Tell gs (at' told)) {k:Nat} {o:Od} (h:at' told k=some o):g_counts c [.o ho,.int ((off:Int)+k)] om=some (.ok (.bl (YF told f k)),om):=by
 have e1:ZU 2 (Zq c.Orders "told" 2 (Z8 c) (Za 0) (Zc (Za 1) Zi)) [some (.o ho),some (.int ((off:Int)+k)),none] om=some (.ok (.nx,[some (.o ho),some (.int ((off:Int)+k)),some (odG c off o)]),om) :=
  ZK (i:=2) ((Zw (Zb rfl) (ZB S.o) (ZP _ _ _ (by decide) (by decide)) (Ze (Zb rfl) Zj) rfl).trans (told_w W S G t h))
 have t1:f2 kEq (f2 (X6 c.STAND) (Za 2) (fC (.int 0))) (fC (.str "help")) [some (.o ho),some (.int ((off:Int)+k)),some (odG c off o)] om=some (.ok (.bl (decide (odN o="help"))),om):=(Zx ((Zx (Zb rfl) Zr).trans (odG_0 c off o _)) Zr).trans (eq_str _ _ (so_od o) Tj _)
 refine ZJ ((Zk e1).trans (Zy ?_)) (sl1:=[some (.o ho),some (.int ((off:Int)+k)),some (odG c off o)])
 unfold YF
 rw[h]
 match o,h with
 |.stand,h=>exact VW t1
 |.move g,h=>exact VW t1
 |.help q g,h =>
  have hq:=(G.okT.hl k q g h)
  obtain ⟨o2,e2⟩:=Option.isSome_iff_exists.mp ((G.same q).trans hq.2.2.2.2)
  have ic:=is_cut_in W S G t h
  have ei:isHp told f k=QJ told f k g:=by unfold isHp; rw[h]
  rw[ei]at ic
  refine ((VY t1).trans (Qe (a:=if q=g then !Y4 (at' told q) else decide (at' told q=some (.move g))) (b:=!QJ told f k g) ((ZI (Ze (Zb rfl) (Ze ((Zx (Zb rfl) Zr).trans (odG_1 c off q g _)) (Ze ((Zx (Zb rfl) Zr).trans (odG_2 c off q g _)) Zj)))).trans ((Yz rfl).trans (fits_in S t e2))) fun _=>?_)).trans ?_
  ·refine (Vh ((ZI (Ze (Zb rfl) (Ze (Zb rfl) Zj))).trans ((Yz rfl).trans ic))).trans ?_
   rfl
  ·rw[Bool.and_comm]
end
end MP
set_option maxHeartbeats 400000
namespace MP
open PySem L2
def XV (told:List (Option Od)) (f:List (Option Int)) (h k:Nat):Bool:=match at' told h with
 |some (.help q _)=>decide (q=k)&&YF told f h
 |_=>false
def X0 (f:List (Option Int)) (n:Nat):List Nat:=(List.range n).filter fun h=>(at' f h).isSome
theorem usOf_map (off:Nat) (f:List (Option Int)) (n:Nat):Yl off f n=(X0 f n).map fun (h:Nat)=>((off:Int)+h,(at' f h).getD 0):=by
 unfold Yl X0
 generalize List.range n=l
 induction l with
 |nil=>rfl
 |cons h l ih =>
  rw[List.filterMap_cons,List.filter_cons]
  cases hh:at' f h with
  |none=>simpa using ih
  |some s =>
   simp only[Option.map_some,Option.isSome_some,if_true,List.map_cons,hh,Option.getD_some]
   rw[ih]
theorem UL {α:Type} (p:α->Bool):∀(l:List α) (a:Int),l.foldl (fun a h=>bif p h then a+1 else a) a=a+(l.filter p).length
 |[],a=>by simp
 |h::l,a=>by
  rw[List.foldl_cons,UL p l,List.filter_cons]
  cases p h with
  |false=>simp
  |true=>simp; omega
section
variable {c:CA} {om:List Ob} {ho hb hm hu hl hg size off:Nat} {f:List (Option Int)} {kvs:List (List Key × Wv)} {gs:Gs} {rows:Mx} {told:List (Option Od)}
def Vj (told:List (Option Od)) (f:List (Option Int)) (k:Nat):List Nat:=(X0 f f.length).filter fun h=>XV told f h k
theorem back_unit (G:Givn rows f told) {h k:Nat} (e:XV told f h k=true):∃s,at' f h=some s:=by
 unfold XV at e
 have q:=G.same h
 match ho2:at' told h,e with
 |some (.help a b),_=>rw[ho2]at q; exact Option.isSome_iff_exists.mp q.symm
theorem backL_eq (G:Givn rows f told) (k:Nat):Vj told f k=(List.range f.length).filter fun h=>XV told f h k:=by
 unfold Vj X0
 rw[List.filter_filter]
 refine List.filter_congr fun h _=>?_
 cases e:XV told f h k with
 |false=>simp
 |true =>
  obtain ⟨s,hs⟩:=back_unit G e
  rw[hs]
  rfl
theorem back_mv (h k goal:Nat) (e:at' told k=some (.move goal)):XV told f h k=(decide (at' told h=some (.help k goal))&&YF told f h):=by
 unfold XV YF
 match e2:at' told h with
 |none=>simp
 |some .stand=>simp
 |some (.move g)=>simp
 |some (.help q g) =>
  dsimp only
  by_cases hq:q=k
  ·subst hq
   rw[e]
   by_cases hg:q=g
   ·subst hg
    simp[Y4]
   ·by_cases hgg:goal=g
    ·subst hgg; simp[hg]
    ·rw[if_neg hg]
     have:¬ (some (Od.move goal)=some (Od.move g)):=fun z=>hgg (by cases z; rfl)
     rw[decide_eq_false this]
     simp
  ·have h1:¬ (some (Od.help q g)=some (Od.help k goal)):=fun z=>hq (by cases z; rfl)
   rw[decide_eq_false hq,decide_eq_false h1]
theorem back_st (h k:Nat) (e:Y4 (at' told k)=false):XV told f h k=(decide (at' told h=some (.help k k))&&YF told f h):=by
 unfold XV YF
 match e2:at' told h with
 |none=>simp
 |some .stand=>simp
 |some (.move g)=>simp
 |some (.help q g) =>
  dsimp only
  by_cases hq:q=k
  ·subst hq
   by_cases hg:q=g
   ·subst hg; simp
   ·rw[if_neg hg]
    have h2:¬ (at' told q=some (.move g)):=fun z=>by rw[z]at e; cases e
    have h1:¬ (some (Od.help q g)=some (Od.help q q)):=fun z=>hg (by cases z; rfl)
    rw[decide_eq_false h1,decide_eq_false h2]
    simp
  ·have h1:¬ (some (Od.help q g)=some (Od.help k k)):=fun z=>hq (by cases z; rfl)
   rw[decide_eq_false hq,decide_eq_false h1]
theorem TY (G:Givn rows f told) (k goal:Nat) (sd:Option Int) (p:Nat->Bool) (hp:∀h,h < f.length->SD told f k goal sd h=p h):YQ told f k goal sd=1+((List.range f.length).filter p).length:=by
 unfold YQ
 rw[UL,G.len]
 congr 3
 exact List.filter_congr fun h hh=>hp h (List.mem_range.mp hh)
theorem UK (G:Givn rows f told) (hs7:∀k s,at' f k=some s->0<=s∧s<=7) {k goal:Nat} (hb:∀h,XV told f h k=(decide (at' told h=some (.help k goal))&&YF told f h)):YQ told f k goal (some (-1))=1+(Vj told f k).length:=by
 rw[backL_eq G]
 refine TY G k goal _ _ fun h hh=>?_
 rw[hb h]
 unfold SD
 cases e:decide (at' told h=some (.help k goal)) with
 |false=>rfl
 |true =>
  have e:=of_decide_eq_true e
  have q:=G.same h
  rw[e]at q
  obtain ⟨s,hs⟩:=Option.isSome_iff_exists.mp q.symm
  have:=hs7 h s hs
  rw[hs,decide_eq_false (fun z=>by cases z; omega)]
  simp
theorem Pb (G:Givn rows f told) {k goal:Nat} (sd:Int) (hb:∀h,XV told f h k=(decide (at' told h=some (.help k goal))&&YF told f h)):YQ told f k goal (some sd)=1+((Vj told f k).filter fun h=>!decide ((at' f h).getD 0=sd)).length:=by
 rw[backL_eq G,List.filter_filter]
 refine TY G k goal _ _ fun h hh=>?_
 rw[hb h]
 unfold SD
 cases e:decide (at' told h=some (.help k goal)) with
 |false=>simp
 |true =>
  have e:=of_decide_eq_true e
  have q:=G.same h
  rw[e]at q
  obtain ⟨s,hs⟩:=Option.isSome_iff_exists.mp q.symm
  rw[hs]
  by_cases hh:s=sd
  ·subst hh; simp
  ·rw[decide_eq_false (fun z=>hh (by cases z; rfl))]
   simp[hh]
theorem backs_in (W:Wd c om hb hm hu hl size off f kvs) (S:Os c om ho hb hg off gs) (G:Givn rows f told) (t:Tell gs (at' told)) {h k:Nat} {o:Od} (e:at' told h=some o):g_backs c [.o ho,.int ((off:Int)+h),.int ((off:Int)+k)] om=some (.ok (.bl (XV told f h k)),om):=by
 have e1:ZU 3 (Zq c.Orders "told" 2 (Z8 c) (Za 0) (Zc (Za 1) Zi)) [some (.o ho),some (.int ((off:Int)+h)),some (.int ((off:Int)+k)),none] om=some (.ok (.nx,[some (.o ho),some (.int ((off:Int)+h)),some (.int ((off:Int)+k)),some (odG c off o)]),om) :=
  ZK (i:=3) ((Zw (Zb rfl) (ZB S.o) (ZP _ _ _ (by decide) (by decide)) (Ze (Zb rfl) Zj) rfl).trans (told_w W S G t e))
 have t1:f2 kEq (f2 (X6 c.STAND) (Za 3) (fC (.int 0))) (fC (.str "help")) [some (.o ho),some (.int ((off:Int)+h)),some (.int ((off:Int)+k)),some (odG c off o)] om=some (.ok (.bl (decide (odN o="help"))),om):=(Zx ((Zx (Zb rfl) Zr).trans (odG_0 c off o _)) Zr).trans (eq_str _ _ (so_od o) Tj _)
 refine ZJ ((Zk e1).trans (Zy ?_)) (sl1:=[some (.o ho),some (.int ((off:Int)+h)),some (.int ((off:Int)+k)),some (odG c off o)])
 unfold XV
 rw[e]
 match o,e with
 |.stand,e=>exact VW t1
 |.move g,e=>exact VW t1
 |.help q g,e =>
  refine (VY t1).trans (Qe (a:=decide (q=k)) ?_ fun _=>(ZI (Ze (Zb rfl) (Ze (Zb rfl) Zj))).trans ((Yz rfl).trans (counts_in W S G t e)))
  refine ((Zx ((Zx (Zb rfl) Zr).trans (odG_1 c off q g _)) (Zb rfl)).trans (Xp _ _ _)).trans ?_
  rw[TJ]
theorem roll_w (W:Wd c om hb hm hu hl size off f kvs):Xx c [.o hb] om=some (.ok (.lst ((X0 f f.length).map fun (h:Nat)=>Wv.tup [.int ((off:Int)+h),.int ((at' f h).getD 0)])),om):=by
 have h1:=W.fit
 have h2:=W.few
 have h3:=usOf_len off f f.length
 rw[roll_in c W.b W.u (by omega),sortP_self (usOf_strict off f f.length),usOf_map,List.map_map]
 rfl
theorem Tt (f:List (Option Int)) (n:Nat):(X0 f n).length<=n:=by
 unfold X0
 exact Nat.le_trans (List.length_filter_le _ _) (by simp)
theorem Vu (W:Wd c om hb hm hu hl size off f kvs) (S:Os c om ho hb hg off gs) (G:Givn rows f told) (t:Tell gs (at' told)) (k:Nat):g_backing c [.o ho,.int ((off:Int)+k)] om=some (.ok (.lst ((Vj told f k).map fun (h:Nat)=>Wv.int ((at' f h).getD 0))),om):=by
 have hlim:=Z1
 have h1:=W.fit
 have h2:=W.few
 have h3:=Tt f f.length
 have hfl:(Vj told f k).length<=(X0 f f.length).length:=List.length_filter_le _ _
 refine ZJ (Zy ?_)
 unfold Qv
 refine (Zs (a:=(X0 f f.length).map fun (h:Nat)=>Wv.tup [.int ((off:Int)+h),.int ((at' f h).getD 0)]) (om1:=om) ((Zs ((Zw (WY S rfl) (ZB W.b) (Yv _ _ _ (by decide) (by decide)) Zj rfl).trans (roll_w W))).trans rfl)).trans ?_
 refine (Zs (a:=()) (om1:=om) (chk_ok ?_)).trans ?_
 ·rw[decide_eq_true (by rw[List.length_map]; omega)]
  simp[tupN]
 refine (Zs (Yy (fun (h:Nat)=>Wv.tup [.int ((off:Int)+h),.int ((at' f h).getD 0)]) (fun h=>XV told f h k) (fun (h:Nat)=>Wv.int ((at' f h).getD 0)) (fun h hh=>?_) (fun h hh _=>Zb rfl))).trans ?_
 ·have hsome:=(List.mem_filter.mp hh).2
  obtain ⟨o,ho2⟩:=Option.isSome_iff_exists.mp ((G.same h).trans hsome)
  exact W8 ((ZI (Ze (Zb rfl) (Ze (Zb rfl) (Ze (Zb rfl) Zj)))).trans ((Yz rfl).trans (backs_in W S G t ho2)))
 ·show ZT ((Vj told f k).map fun (h:Nat)=>Wv.int ((at' f h).getD 0)) om=_
  unfold ZT
  rw[if_pos (by rw[List.length_map]; omega)]
  rfl
theorem blen_e {α:Type} {φ:α->Wv} {l:List α} {fe:FE} {sl:Sl} (h:fe sl om=some (.ok (.lst (l.map φ)),om)):f2 YB (fC (.int 1)) (fA Wo (Zc fe Zi)) sl om=some (.ok (.int (1+l.length)),om):=by
 refine (Zx Zr ((ZI (Ze h Zj)).trans (Sv rfl))).trans ?_
 rw[List.length_map]
 rfl
def Ws (told:List (Option Od)) (f:List (Option Int)) (k:Nat) (sd:Int):Int:=match at' told k with
 |some (.move g)=>YQ told f k g (some sd)
 |_=>0
theorem goal_e (S:Os c om ho hb hg off gs) (t:Tell gs (at' told)) {k:Nat} {o:Od} (e:at' told k=some o) {sl:Sl} (s0:sl[0]?=some (some (.o ho))) (s1:sl[1]?=some (some (.int ((off:Int)+k)))):Zq c.Orders "goal_of" 2 (Zm c) (Za 0) (Zc (Za 1) Zi) sl om=some (.ok (WV off o),om):=(Zw (Zb s0) (ZB S.o) (ZP _ _ _ (by decide) (by decide)) (Ze (Zb s1) Zj) rfl).trans (QD S t e)
theorem force_in (W:Wd c om hb hm hu hl size off f kvs) (S:Os c om ho hb hg off gs) (G:Givn rows f told) (t:Tell gs (at' told)) (hs7:∀k s,at' f k=some s->0<=s∧s<=7) {k:Nat} {o:Od} (e:at' told k=some o):g_force c [.o ho,.int ((off:Int)+k)] om=some (.ok (.int (Ws told f k (-1))),om):=by
 have t1:fB (f1 WE (Zq c.Orders "goal_of" 2 (Zm c) (Za 0) (Zc (Za 1) Zi))) [some (.o ho),some (.int ((off:Int)+k))] om=some (.ok (!Y4 (some o)),om):=Z2 ((Vh (goal_e S t e rfl rfl)).trans (T1 _ _ _))
 unfold Ws
 rw[e]
 match o,e with
 |.stand,e=>exact ZJ (Yr ((Y8 t1).trans (Zy Zr)))
 |.help a b,e=>exact ZJ (Yr ((Y8 t1).trans (Zy Zr)))
 |.move g,e =>
  dsimp only
  rw[UK G hs7 (fun h=>back_mv h k g e)]
  exact ZJ ((Zk (ZY t1)).trans (Zy (blen_e ((ZI (Ze (Zb rfl) (Ze (Zb rfl) Zj))).trans ((Yz rfl).trans (Vu W S G t k))))))
theorem Sw (W:Wd c om hb hm hu hl size off f kvs) (S:Os c om ho hb hg off gs) (G:Givn rows f told) (t:Tell gs (at' told)) {k:Nat} {o:Od} (e:at' told k=some o) (sd:Int):g_force_against c [.o ho,.int ((off:Int)+k),.int sd] om=some (.ok (.int (Ws told f k sd)),om):=by
 have hlim:=Z1
 have h1:=W.fit
 have h2:=W.few
 have h3:=Tt f f.length
 have hfl:(Vj told f k).length<=(X0 f f.length).length:=List.length_filter_le _ _
 have t1:fB (f1 WE (Zq c.Orders "goal_of" 2 (Zm c) (Za 0) (Zc (Za 1) Zi))) [some (.o ho),some (.int ((off:Int)+k)),some (.int sd)] om=some (.ok (!Y4 (some o)),om):=Z2 ((Vh (goal_e S t e rfl rfl)).trans (T1 _ _ _))
 unfold Ws
 rw[e]
 match o,e with
 |.stand,e=>exact ZJ (Yr ((Y8 t1).trans (Zy Zr)))
 |.help a b,e=>exact ZJ (Yr ((Y8 t1).trans (Zy Zr)))
 |.move g,e =>
  dsimp only
  rw[Pb G sd (fun h=>back_mv h k g e)]
  have hfl2:=List.length_filter_le (fun h=>!decide ((at' f h).getD 0=sd)) (Vj told f k)
  refine ZJ ((Zk (ZY t1)).trans (Zy (blen_e (φ:=fun (h:Nat)=>Wv.int ((at' f h).getD 0)) ((WZ (ws:=(Vj told f k).map fun (h:Nat)=>Wv.int ((at' f h).getD 0)) (om1:=om) ((Zs ((ZI (Ze (Zb rfl) (Ze (Zb rfl) Zj))).trans ((Yz rfl).trans (Vu W S G t k)))).trans rfl) (by rw[List.length_map]; omega) (Yy (fun (h:Nat)=>Wv.int ((at' f h).getD 0)) (fun h=>!decide ((at' f h).getD 0=sd)) (fun (h:Nat)=>Wv.int ((at' f h).getD 0)) (fun h hh=>Z2 ((v2 rfl rfl).trans (Xd _ _ _))) (fun h hh _=>Zb rfl))).trans ?_))))
  unfold ZT
  rw[if_pos (by rw[List.length_map]; omega)]
  rfl
theorem UO (W:Wd c om hb hm hu hl size off f kvs) (S:Os c om ho hb hg off gs) (G:Givn rows f told) (t:Tell gs (at' told)) (hs7:∀k s,at' f k=some s->0<=s∧s<=7) {k:Nat} {o:Od} (e:at' told k=some o):g_firmness c [.o ho,.int ((off:Int)+k)] om=some (.ok (.int (QM told f k)),om):=by
 have t1:fB (f1 WA (Zq c.Orders "goal_of" 2 (Zm c) (Za 0) (Zc (Za 1) Zi))) [some (.o ho),some (.int ((off:Int)+k))] om=some (.ok (Y4 (some o)),om):=Z2 ((Vh (goal_e S t e rfl rfl)).trans (Pf _ _ _))
 unfold QM
 rw[e]
 cases hmv:Y4 (some o) with
 |true =>
  rw[hmv]at t1
  exact ZJ (Yr ((Y8 t1).trans (Zy Zr)))
 |false =>
  rw[hmv]at t1
  have hmv2:Y4 (at' told k)=false:=by rw[e]; exact hmv
  show _=some (Except.ok (Wv.int (YQ told f k k (some (-1)))),om)
  rw[UK G hs7 (fun h=>back_st h k hmv2)]
  exact ZJ ((Zk (ZY t1)).trans (Zy (blen_e ((ZI (Ze (Zb rfl) (Ze (Zb rfl) Zj))).trans ((Yz rfl).trans (Vu W S G t k))))))
end
end MP
namespace MP
noncomputable section
open PySem L2
def WC (c:CA):FS :=
 (Yu (fA (kN 2 (g_force c)) (Zc (Za 0) (Zc (Za 2) Zi))) (Za 1) (Za 2))
def TH (c:CA):FS :=
 (ZE (ZU 1 (fun _=>newO (.dk [])))
  (ZE (Ve (fun sl=>bnd ((Zq c.Orders "movers" 1 (ZM c) (Za 0) Zi) sl) ZZ) (tgN 2) (WC c))
  (Z9 (Za 1))))
def g_weigh_movers (c:CA):List Wv->Mw Wv:=Yj 3 (TH c)
def Vl (c:CA):FT :=
 (Vs (fB (f2 kNe (Za 0) (Za 2))) (fB (f2 kEq (Zq c.Orders "goal_of" 2 (Zm c) (Za 1) (Zc (Za 0) Zi)) (Za 3))))
def Vi (c:CA):FE :=
 (Za 0)
def Vk (c:CA):FE :=
 (f2 kGe (f2 Wf (Za 1) (Za 0)) (f2 Wf (Za 1) (Za 2)))
def Qc (c:CA):FS :=
 (ZE (ZU 3 (Zq c.Orders "goal_of" 2 (Zm c) (Za 0) (Zc (Za 2) Zi)))
  (ZE (ZU 4 (XO ZT [0,2,3] (Za 1) (Vl c) (Vi c)))
  (Z9 (fA kAny (Zc (Yh ZT [1,2] (fun sl=>bnd ((Za 4) sl) ZZ) WP (Vk c)) Zi)))))
def g_is_outdone (c:CA):List Wv->Mw Wv:=Yj 5 (Qc c)
def Pq (c:CA):FS :=
 (ZE (ZU 4 (Zq c.Board "side_at" 2 (ZD c) (f1 (Z6 c.Orders "board") (Za 0)) (Zc (Za 2) Zi)))
  (Z9 (Y3 (f2 kNe (Za 4) (Zq c.Board "side_at" 2 (ZD c) (f1 (Z6 c.Orders "board") (Za 0)) (Zc (Za 1) Zi))) (f2 kGt (fA (kN 3 (g_force_against c)) (Zc (Za 0) (Zc (Za 1) (Zc (Za 4) Zi)))) (Za 3)))))
def g_overcomes (c:CA):List Wv->Mw Wv:=Yj 5 (Pq c)
def Pg (c:CA):FS :=
 (ZE (ZU 3 (Zq c.Orders "goal_of" 2 (Zm c) (Za 0) (Zc (Za 2) Zi)))
  (ZE (sIf (X5 (fA (kN 3 (g_is_outdone c)) (Zc (Za 0) (Zc (Za 1) (Zc (Za 2) Zi))))) (Z9 (fC (.int 1))) YJ)
  (ZE (sIf (fB (f1 WE (Zq c.Board "side_at" 2 (ZD c) (f1 (Z6 c.Orders "board") (Za 0)) (Zc (Za 3) Zi)))) (Z9 (fC (.int 0))) YJ)
  (ZE (sIf (fB (f2 kEq (Zq c.Orders "goal_of" 2 (Zm c) (Za 0) (Zc (Za 3) Zi)) (Za 2))) (Z9 (fIfE (X5 (fA (kN 4 (g_overcomes c)) (Zc (Za 0) (Zc (Za 2) (Zc (Za 3) (Zc (f2 Wf (Za 1) (Za 3)) Zi)))))) (fC (.int 0)) (fC (.int 2)))) YJ)
  (Z9 (fIfE (X5 (fA (kN 4 (g_overcomes c)) (Zc (Za 0) (Zc (Za 2) (Zc (Za 3) (Zc (fA (kN 2 (g_firmness c)) (Zc (Za 0) (Zc (Za 3) Zi))) Zi)))))) (fC (.int 0)) (fC (.int 3))))))))
def g_hindrance (c:CA):List Wv->Mw Wv:=Yj 4 (Pg c)
def X4 (c:CA):FS :=
 (Yu (fA (kN 3 (g_hindrance c)) (Zc (Za 0) (Zc (Za 1) (Zc (Za 3) Zi)))) (Za 2) (Za 3))
def Qr (c:CA):FS :=
 (ZE (ZU 1 (fA (kN 1 (g_weigh_movers c)) (Zc (Za 0) Zi)))
  (ZE (ZU 2 (fun _=>newO (.dk [])))
  (ZE (sForD (Za 1) (tgN 3) (X4 c))
  (Z9 (Za 2)))))
def g_hindrances (c:CA):List Wv->Mw Wv:=Yj 4 (Qr c)
def S_fault (c:CA):FS :=
 (ZE (sIf (Vs (fB (f2 kEq (f2 Wf (Za 1) (Za 2)) (fC (.int 3)))) (fB (f2 (RZ false) (Zq c.Orders "goal_of" 2 (Zm c) (Za 0) (Zc (Za 2) Zi)) (Za 3)))) (Z9 (fC (.int 0))) YJ)
  (Z9 (f2 Wf (Za 1) (Za 2))))
def g_fault (c:CA):List Wv->Mw Wv:=Yj 4 (S_fault c)
def Sd (c:CA):FE :=
 (fA Wz (Zc (Za 4) (Zc (Za 0) (Zc (fA (kN 4 (g_fault c)) (Zc (Za 1) (Zc (Za 2) (Zc (Za 0) (Zc (Za 3) Zi))))) Zi))))
def TL (c:CA):FT :=
 (fB (f2 kNe (f2 kIx (Za 0) (fC (.int 2))) (fC (.int 0))))
def TK (c:CA):FE :=
 (Za 0)
def TD (c:CA):FT :=
 (fB (f2 kEq (f2 kIx (Za 0) (fC (.int 2))) (fC (.int 0))))
def Tx (c:CA):FE :=
 (f2 kIx (Za 0) (fC (.int 1)))
def Xe (c:CA):FS :=
 (ZE (ZU 5 (Yh ZT [0,1,2,4] (fun sl=>bnd ((Za 2) sl) ZZ) WP (Sd c)))
  (ZE (ZU 6 (Yh ZT [] (fun sl=>bnd ((Za 5) sl) ZZ) (TL c) (TK c)))
  (ZE (sIf (fB (f2 kEq (Za 6) (fA ZT Zi))) (Z9 (Za 3)) YJ)
  (ZE (ZR (fExt (Za 3) (Za 6)))
  (ZE (ZU 2 (Yh ZT [] (fun sl=>bnd ((Za 5) sl) ZZ) (TD c) (Tx c)))
  (ZU 4 (f2 YB (Za 4) (fC (.int 1)))))))))
def S_strikes (c:CA):FS :=
 (ZE (ZU 1 (fA (kN 1 (g_hindrances c)) (Zc (Za 0) Zi)))
  (ZE (ZU 2 (Zq c.Orders "movers" 1 (ZM c) (Za 0) Zi))
  (ZE (ZU 3 (fA WD Zi))
  (ZE (ZU 4 (fC (.int 1)))
  (X7 (X5 (fC (.bl true))) (Xe c) 100)))))
def g_strikes (c:CA):List Wv->Mw Wv:=Yj 7 (S_strikes c)
def Yx (c:CA):List Wv->Mw Wv:=tidyG (g_strikes c)
def Sf (c:CA):FE :=
 (f2 kIx (Za 0) (fC (.int 1)))
def P1_settled (c:CA):FT :=
 (fB (f2 (RZ true) (Za 0) (Za 1)))
def E2_settled (c:CA):FE :=
 (Za 0)
def S_settled (c:CA):FS :=
 (ZE (ZU 1 (Yh ZT [] (fun sl=>bnd ((fA (kN 1 (Yx c)) (Zc (Za 0) Zi)) sl) ZZ) WP (Sf c)))
  (Z9 (Yh ZT [1] (fun sl=>bnd ((Zq c.Orders "movers" 1 (ZM c) (Za 0) Zi) sl) ZZ) (P1_settled c) (E2_settled c))))
def g_settled (c:CA):List Wv->Mw Wv:=Yj 2 (S_settled c)
end
end MP
set_option maxHeartbeats 400000
namespace MP
open PySem L2
def Z0 (off:Nat) (l:List Nat) (v:Nat->Int):List (Key × Wv):=l.map fun (k:Nat)=>(.inl ((off:Int)+k),.int (v k))
theorem TN (off:Nat) (l:List Nat) (v:Nat->Int):(Z0 off l v).length=l.length:=by simp[Z0]
theorem dkOf_val {off:Nat} {v:Nat->Int} {k:Nat}:∀{l:List Nat},k∈l->X1 (Z0 off l v) (.inl ((off:Int)+k))=some (.int (v k))
 |[],h=>nomatch h
 |j::l,h=>by
  unfold X1 Z0
  rw[List.map_cons,List.find?_cons]
  dsimp only
  rw[Qd]
  by_cases e:j=k
  ·subst e; simp
  ·rw[decide_eq_false e]
   rcases List.mem_cons.mp h with z|z
   ·exact absurd z.symm e
   ·exact dkOf_val z
theorem dkOf_put {off:Nat} {v:Nat->Int} {k:Nat} {l:List Nat} (h:k ∉ l):Xv (Z0 off l v) (.inl ((off:Int)+k)) (.int (v k))=Z0 off (l++[k]) v:=by
 have e:((Z0 off l v).any fun kv=>decide (kv.1=(.inl ((off:Int)+k):Key)))=false:=by
  rw[List.any_eq_false]
  intro p hp
  obtain ⟨j,hj,rfl⟩:=List.mem_map.mp hp
  dsimp only
  rw[Qd]
  have:j≠k:=fun z=>h (z ▸ hj)
  simp[this]
 unfold Xv
 rw[e,if_neg Bool.false_ne_true]
 unfold Z0
 rw[List.map_append]
 rfl
theorem Rq (off:Nat) (l:List Nat) (v:Nat->Int):((Z0 off l v).map fun p=>Vw p.1)=l.map fun (k:Nat)=>Wv.int ((off:Int)+k):=by
 unfold Z0
 rw[List.map_map]
 rfl
def mvL (told:List (Option Od)) (f:List (Option Int)):List Nat:=(List.range f.length).filter fun k=>Y4 (at' told k)
theorem Qz (told:List (Option Od)) (f:List (Option Int)):(mvL told f).Nodup:=List.Nodup.sublist List.filter_sublist List.nodup_range
theorem Wq {told:List (Option Od)} {f:List (Option Int)} {k:Nat}:k∈mvL told f ↔ k < f.length∧∃g,at' told k=some (.move g):=by
 unfold mvL
 rw[List.mem_filter,List.mem_range]
 refine and_congr_right fun _=>?_
 match e:at' told k with
 |none=>simp[Y4]
 |some .stand=>simp[Y4]
 |some (.move g)=>simp[Y4]
 |some (.help a b)=>simp[Y4]
theorem VZ (told:List (Option Od)) (f:List (Option Int)):(mvL told f).length<=f.length:=Nat.le_trans (List.length_filter_le _ _) (by simp)
theorem Si {α:Type} {T:TgW} {S:FS} (φ:α->Wv) (J:List α->Sl->List Ob->Prop):∀(l pre:List α) {sl:Sl} {om:List Ob},(∀p a q,pre++l=p++a::q->∀sl om,J p sl om->∃sl1 sl2 om2,T (φ a) sl=some sl1∧S sl1 om=some (.ok (.nx,sl2),om2)∧J (p++[a]) sl2 om2)->J pre sl om->∃sl' om',We T S (l.map φ) sl om=some (.ok (.nx,sl'),om')∧J (pre++l) sl' om'
 |[],pre,sl,om,_,j=>⟨sl,om,rfl,by rw[List.append_nil]; exact j⟩
 |a::l,pre,sl,om,h,j=>by
  obtain ⟨sl1,sl2,om2,e1,e2,j2⟩:=h pre a l rfl sl om j
  have ee:pre++[a]++l=pre++a::l:=by simp
  obtain ⟨sl',om',e3,j3⟩:=Si φ J l (pre++[a]) (fun p b q hq=>h p b q (by rw[← hq,ee])) j2
  refine ⟨sl',om',?_,by rw[← ee]; exact j3⟩
  rw[List.map_cons]
  show (match T (φ a) sl with|none=>Y1|some sl1=>bnd (S sl1) (U9 fun sl2=>We T S (l.map φ) sl2)) om=_
  rw[e1]
  dsimp only
  rw[Zs e2]
  exact e3
theorem compD_dz {k:List Wv->Mw Wv} {js:List Nat} {fd:FE} {cT:FT} {fE:FE} {sl:Sl} {om:List Ob} {h:Nat} {kvs:List (Key × Wv)} {us:List Wv} (hd:fd sl om=some (.ok (.o h),om)) (hx:om[h]?=some (.dz kvs)) (hl:kvs.length<=lim) (hc:Y5 cT fE (fun w=>YR js w sl) (kvs.map fun p=>Vw p.1) om=some (.ok us,om)):XO k js fd cT fE sl om=k us om:=by
 unfold XO
 rw[Zs hd]
 refine (Zs (a:=(false,h,kvs.map fun p=>Vw p.1)) (om1:=om) (by simp[kFrz,hx,hl])).trans ?_
 rw[Zs hc]
 exact (Zs (a:=()) (om1:=om) rfl).trans rfl
theorem Xu {ws:List Wv} {om:List Ob} (h:ws.length<=100):ZT ws om=some (.ok (.lst ws),om):=by
 have:=Z1
 unfold ZT
 rw[if_pos (by omega)]
 rfl
structure Sit (c:CA) (om:List Ob) (ho hb hm hu hl hg size off:Nat) (f:List (Option Int)) (kvs:List (List Key × Wv)) (gs:Gs) (rows:Mx) (told:List (Option Od)):Prop where
 W:Wd c om hb hm hu hl size off f kvs
 S:Os c om ho hb hg off gs
 G:Givn rows f told
 t:Tell gs (at' told)
 s7:∀k s,at' f k=some s->0<=s∧s<=7
section
variable {c:CA} {om:List Ob} {ho hb hm hu hl hg size off:Nat} {f:List (Option Int)} {kvs:List (List Key × Wv)} {gs:Gs} {rows:Mx} {told:List (Option Od)}
theorem Sit.grow (A:Sit c om ho hb hm hu hl hg size off f kvs gs rows told) (l:List Ob):Sit c (om++l) ho hb hm hu hl hg size off f kvs gs rows told:=⟨A.W.grow l,A.S.grow l,A.G,A.t,A.s7⟩
theorem Sit.few (A:Sit c om ho hb hm hu hl hg size off f kvs gs rows told):f.length<=60:=by have:=A.W.fit; have:=A.W.few; omega
theorem T0 (A:Sit c om ho hb hm hu hl hg size off f kvs gs rows told):ZM c [.o ho] om=some (.ok (.lst ((mvL told f).map fun (k:Nat)=>Wv.int ((off:Int)+k))),om):=Q9 A.W A.S A.G A.t
theorem T2 (A:Sit c om ho hb hm hu hl hg size off f kvs gs rows told) {k:Nat} {o:Od} (e:at' told k=some o) {sl:Sl} {i j:Nat} (s0:sl[i]?=some (some (.o ho))) (s1:sl[j]?=some (some (.int ((off:Int)+k)))):Zq c.Orders "goal_of" 2 (Zm c) (Za i) (Zc (Za j) Zi) sl om=some (.ok (WV off o),om):=(Zw (Zb s0) (ZB A.S.o) (ZP _ _ _ (by decide) (by decide)) (Ze (Zb s1) Zj) rfl).trans (QD A.S A.t e)
theorem side_s (A:Sit c om ho hb hm hu hl hg size off f kvs gs rows told) {k:Nat} (hk:k < f.length) {sl:Sl} {i j:Nat} (s0:sl[i]?=some (some (.o ho))) (s1:sl[j]?=some (some (.int ((off:Int)+k)))):Zq c.Board "side_at" 2 (ZD c) (f1 (Z6 c.Orders "board") (Za i)) (Zc (Za j) Zi) sl om=some (.ok (Xr (at' f k)),om):=(Zw (WY A.S s0) (ZB A.W.b) (Yv _ _ _ (by decide) (by decide)) (Ze (Zb s1) Zj) rfl).trans (Qm A.W hk)
abbrev fN (told:List (Option Od)) (f:List (Option Int)) (k:Nat):Int:=Ws told f k (-1)
theorem S9 {om : List Ob} {l : List Nat} {v : Nat -> Int} {k : Nat} {sl : Sl} {fv : FE} {i j : Nat} (n : Nat) (om0 : List Ob) (hom : om = om0 ++ [.dk (Z0 off l v)]) (hn : n = om0.length) (hv : fv sl om = some (.ok (.int (v k)),om)) (hi : sl[i]? = some (some (.o n))) (hj : sl[j]? = some (some (.int ((off : Int) + k)))) (hk : k ∉ l) (hlen : l.length <= 60) :
    Yu fv (Za i) (Za j) sl om=some (.ok (.nx,sl),om0++[.dk (Z0 off (l++[k]) v)]):=by
  have hlim:=Z1
  subst hom hn
  unfold Yu
  rw[Zs hv,Zs (Zb hi),Zs (Zb hj)]
  refine (Zs (a:=()) (om1:=om0++[.dk (Z0 off (l++[k]) v)]) ?_).trans rfl
  have h1:(Z0 off l v).length < lim:=by rw[TN]; omega
  have h2:(om0++[Ob.dk (Z0 off l v)])[om0.length]?=some (.dk (Z0 off l v)):=by simp
  have h3:(om0++[Ob.dk (Z0 off l v)]).set om0.length (.dk (Z0 off (l++[k]) v))=om0++[.dk (Z0 off (l++[k]) v)]:=by
    rw[List.set_append_right _ _ (Nat.le_refl _),Nat.sub_self]; rfl
  simp only[Vo,Um,h2,Yk]
  rw[if_pos h1,dkOf_put hk,h3]
theorem weigh_in (A:Sit c om ho hb hm hu hl hg size off f kvs gs rows told):g_weigh_movers c [.o ho] om=some (.ok (.o om.length),om++[.dk (Z0 off (mvL told f) (fN told f))]):=by
 have hlim:=Z1
 have hfew:=A.few
 have hml:=VZ told f
 have e1:ZU 1 (fun _=>newO (.dk [])) [some (.o ho),none,none] om=some (.ok (.nx,[some (.o ho),some (.o om.length),none]),om++[.dk []]):=ZK (i:=1) rfl
 have A1:=A.grow [.dk []]
 obtain ⟨sl',om',ef,ho',x,rfl⟩:=Si (T:=tgN 2) (S:=WC c) (fun (k:Nat)=>Wv.int ((off:Int)+k)) (fun p sl om'=>om'=om++[.dk (Z0 off p (fN told f))]∧∃x,sl=[some (.o ho),some (.o om.length),x]) (mvL told f) [] (sl:=[some (.o ho),some (.o om.length),none]) (om:=om++[.dk []]) (fun p a q hq sl om' ⟨h1,x,h2⟩=>by
  subst h2
  have hq:mvL told f=p++a::q:=hq
  have ha:a∈mvL told f:=by rw[hq]; simp
  obtain ⟨_,g,hg'⟩:=Wq.mp ha
  have nd:=Qz told f
  rw[hq]at nd
  have hap:a ∉ p:=fun hp=>(List.nodup_append.mp nd).2.2 a hp a (.head _) rfl
  have hpl:p.length<=60:=by
   have:p.length<=(mvL told f).length:=by rw[hq]; simp
   omega
  have A2:Sit c om' ho hb hm hu hl hg size off f kvs gs rows told:=by rw[h1]; exact A.grow _
  refine ⟨[some (.o ho),some (.o om.length),some (.int ((off:Int)+a))],_,_,rfl,S9 (i:=1) (j:=2) (k:=a) om.length om h1 rfl ((ZI (Ze (Zb rfl) (Ze (Zb rfl) Zj))).trans ((Yz rfl).trans (force_in A2.W A2.S A2.G A2.t A2.s7 hg'))) rfl rfl hap hpl,rfl,_,rfl⟩) ⟨rfl,_,rfl⟩
 have e2:=Va (sl1:=[]) (fi:=fun sl=>bnd ((Zq c.Orders "movers" 1 (ZM c) (Za 0) Zi) sl) ZZ) (sl:=[some (.o ho),some (.o om.length),none]) ((Zs ((Zw (Zb rfl) (ZB A1.S.o) (ZP _ _ _ (by decide) (by decide)) Zj rfl).trans (T0 A1))).trans rfl) ef
 rw[ho']at e2
 exact ZJ ((Zk e1).trans ((Zk e2).trans (Zy (Zb rfl))))
def outB (told:List (Option Od)) (f:List (Option Int)) (k g:Nat):Bool:=((mvL told f).filter fun m=>!decide (m=k)&&decide (at' told m=some (.move g))).any fun m=>decide (fN told f k<=fN told f m)
theorem Qw {h:Nat} {l:List Nat} {v:Nat->Int} (hx:om[h]?=some (.dk (Z0 off l v))∨om[h]?=some (.dz (Z0 off l v))) {k:Nat} (hk:k∈l) {sl:Sl} {i j:Nat} (hi:sl[i]?=some (some (.o h))) (hj:sl[j]?=some (some (.int ((off:Int)+k)))):f2 Wf (Za i) (Za j) sl om=some (.ok (.int (v k)),om):=by
 refine (v2 hi hj).trans ?_
 have e:=dkOf_val (off:=off) (v:=v) hk
 rcases hx with hx|hx
 ·simp only[Wf,Y9,hx,Yk,e]
 ·simp only[Wf,Y9,hx,Yk,e]
theorem outdone_in (A:Sit c om ho hb hm hu hl hg size off f kvs gs rows told) {hF k g:Nat} (hx:om[hF]?=some (.dz (Z0 off (mvL told f) (fN told f)))) (e:at' told k=some (.move g)) (hk:k < f.length):g_is_outdone c [.o ho,.o hF,.int ((off:Int)+k)] om=some (.ok (.bl (outB told f k g)),om):=by
 have hlim:=Z1
 have hfew:=A.few
 have hml:=VZ told f
 have hkm:k∈mvL told f:=Wq.mpr ⟨hk,g,e⟩
 have e1:ZU 3 (Zq c.Orders "goal_of" 2 (Zm c) (Za 0) (Zc (Za 2) Zi)) [some (.o ho),some (.o hF),some (.int ((off:Int)+k)),none,none] om=some (.ok (.nx,[some (.o ho),some (.o hF),some (.int ((off:Int)+k)),some (.int ((off:Int)+g)),none]),om):=ZK (i:=3) (T2 A e rfl rfl)
 generalize hp:(fun m=>!decide (m=k)&&decide (at' told m=some (.move g)))=p
 have hfl:=List.length_filter_le p (mvL told f)
 have e2:ZU 4 (XO ZT [0,2,3] (Za 1) (Vl c) (Vi c)) [some (.o ho),some (.o hF),some (.int ((off:Int)+k)),some (.int ((off:Int)+g)),none] om=some (.ok (.nx,[some (.o ho),some (.o hF),some (.int ((off:Int)+k)),some (.int ((off:Int)+g)),some (.lst (((mvL told f).filter p).map fun (m:Nat)=>Wv.int ((off:Int)+m)))]),om):=by
  refine ZK (i:=4) ((compD_dz (us:=((mvL told f).filter p).map fun (m:Nat)=>Wv.int ((off:Int)+m)) (Zb rfl) hx (by rw[TN]; omega) ?_).trans (Xu (by rw[List.length_map]; omega)))
  rw[Rq]
  refine Yy (fun (m:Nat)=>Wv.int ((off:Int)+m)) p (fun (m:Nat)=>Wv.int ((off:Int)+m)) (fun m hm=>?_) (fun m hm _=>Zb rfl)
  obtain ⟨hm1,g',hm2⟩:=Wq.mp hm
  rw[← hp]
  refine fAnd_b (Z2 ((v2 rfl rfl).trans ((Xd _ _ _).trans (by rw[TJ])))) fun _=>Z2 ((Zx (T2 A hm2 rfl rfl) (Zb rfl)).trans ((Th _ _ _ _).trans ?_))
  rw[hm2]
  simp
 have e3:Yh ZT [1,2] (fun sl=>bnd ((Za 4) sl) ZZ) WP (Vk c) [some (.o ho),some (.o hF),some (.int ((off:Int)+k)),some (.int ((off:Int)+g)),some (.lst (((mvL told f).filter p).map fun (m:Nat)=>Wv.int ((off:Int)+m)))] om=some (.ok (.lst (((mvL told f).filter p).map fun m=>Wv.bl (decide (fN told f k<=fN told f m)))),om):=by
  refine (WZ (ws:=((mvL told f).filter p).map fun (m:Nat)=>Wv.int ((off:Int)+m)) (om1:=om) ((Zs (a:=.lst (((mvL told f).filter p).map fun (m:Nat)=>Wv.int ((off:Int)+m))) (om1:=om) (Zb rfl)).trans rfl) (by rw[List.length_map]; omega) (Yy (fun (m:Nat)=>Wv.int ((off:Int)+m)) (fun _=>true) (fun m=>Wv.bl (decide (fN told f k<=fN told f m))) (fun m hm=>rfl) (fun m hm _=>?_))).trans ?_
  ·have hmm:=(List.mem_filter.mp hm).1
   exact (Zx (Qw (.inr hx) hmm rfl rfl) (Qw (.inr hx) hkm rfl rfl)).trans rfl
  ·rw[List.filter_eq_self.mpr (fun _ _=>rfl)]
   exact Xu (by rw[List.length_map]; omega)
 refine ZJ ((Zk e1).trans ((Zk e2).trans (Zy ((ZI (Ze e3 Zj)).trans ?_))))
 show (match XZ (((mvL told f).filter p).map fun m=>Wv.bl (decide (fN told f k<=fN told f m))) with|some bs=>some (Except.ok (Wv.bl (bs.any id)),om)|none=>none)=_
 rw[VD]
 show some (Except.ok (Wv.bl ((((mvL told f).filter p).map fun m=>decide (fN told f k<=fN told f m)).any id)),om)=_
 unfold outB
 rw[List.any_map,hp]
 rfl
def Rr (told:List (Option Od)) (f:List (Option Int)) (k g:Nat) (st:Int):Bool:=!decide (at' f g=at' f k)&&decide (st < YQ told f k g (at' f g))
theorem over_in (A:Sit c om ho hb hm hu hl hg size off f kvs gs rows told) {k g:Nat} {s:Int} (e:at' told k=some (.move g)) (hk:k < f.length) (hgs:at' f g=some s) (st:Int):g_overcomes c [.o ho,.int ((off:Int)+k),.int ((off:Int)+g),.int st] om=some (.ok (.bl (Rr told f k g st)),om):=by
 have e1:ZU 4 (Zq c.Board "side_at" 2 (ZD c) (f1 (Z6 c.Orders "board") (Za 0)) (Zc (Za 2) Zi)) [some (.o ho),some (.int ((off:Int)+k)),some (.int ((off:Int)+g)),some (.int st),none] om=some (.ok (.nx,[some (.o ho),some (.int ((off:Int)+k)),some (.int ((off:Int)+g)),some (.int st),some (.int s)]),om):=by
  have q:=side_s A (V1 hgs) (sl:=[some (.o ho),some (.int ((off:Int)+k)),some (.int ((off:Int)+g)),some (.int st),none]) (i:=0) (j:=2) rfl rfl
  rw[hgs]at q
  exact ZK (i:=4) q
 refine ZJ ((Zk e1).trans (Zy ?_)) (sl1:=[some (.o ho),some (.int ((off:Int)+k)),some (.int ((off:Int)+g)),some (.int st),some (.int s)])
 unfold Rr
 rw[hgs]
 refine Qe ((Zx (Zb rfl) (side_s A hk rfl rfl)).trans (Q4 (some s) (at' f k) om)) fun _=>?_
 have ag:=Sw A.W A.S A.G A.t e s
 rw[show Ws told f k s=YQ told f k g (some s) by unfold Ws; rw[e]]at ag
 exact (Zx ((ZI (Ze (Zb rfl) (Ze (Zb rfl) (Ze (Zb rfl) Zj)))).trans ((Yz rfl).trans ag)) (Zb rfl)).trans rfl
def XM (told:List (Option Od)) (f:List (Option Int)) (k g:Nat):Int :=
 bif outB told f k g then 1
 else bif (at' f g).isNone then 0
 else bif decide (at' told g=some (.move k)) then (bif Rr told f k g (fN told f g) then 0 else 2)
 else (bif Rr told f k g (QM told f g) then 0 else 3)
theorem ifE_e {cT:FT} {a b:FE} {sl:Sl} {x:Bool} {m n:Int} (h:cT sl om=some (.ok x,om)) (ha:a sl om=some (.ok (.int m),om)) (hb:b sl om=some (.ok (.int n),om)):fIfE cT a b sl om=some (.ok (.int (bif x then m else n)),om):=by
 unfold fIfE
 rw[Zs h]
 cases x with
 |true=>rw[if_pos rfl]; exact ha
 |false=>rw[if_neg Bool.false_ne_true]; exact hb
theorem hind_in (A:Sit c om ho hb hm hu hl hg size off f kvs gs rows told) {hF k g:Nat} (hx:om[hF]?=some (.dz (Z0 off (mvL told f) (fN told f)))) (e:at' told k=some (.move g)):g_hindrance c [.o ho,.o hF,.int ((off:Int)+k)] om=some (.ok (.int (XM told f k g)),om):=by
 have hk:k < f.length:=A.G.same.lt k _ e
 have hgl:g < f.length:=by have:=(A.G.okT.mv k g e).1; rw[A.G.len]at this; exact this
 have e1:ZU 3 (Zq c.Orders "goal_of" 2 (Zm c) (Za 0) (Zc (Za 2) Zi)) [some (.o ho),some (.o hF),some (.int ((off:Int)+k)),none] om=some (.ok (.nx,[some (.o ho),some (.o hF),some (.int ((off:Int)+k)),some (.int ((off:Int)+g))]),om):=ZK (i:=3) (T2 A e rfl rfl)
 have t1:X5 (fA (kN 3 (g_is_outdone c)) (Zc (Za 0) (Zc (Za 1) (Zc (Za 2) Zi)))) [some (.o ho),some (.o hF),some (.int ((off:Int)+k)),some (.int ((off:Int)+g))] om=some (.ok (outB told f k g),om):=W8 ((ZI (Ze (Zb rfl) (Ze (Zb rfl) (Ze (Zb rfl) Zj)))).trans ((Yz rfl).trans (outdone_in A hx e hk)))
 have t2:fB (f1 WE (Zq c.Board "side_at" 2 (ZD c) (f1 (Z6 c.Orders "board") (Za 0)) (Zc (Za 3) Zi))) [some (.o ho),some (.o hF),some (.int ((off:Int)+k)),some (.int ((off:Int)+g))] om=some (.ok (at' f g).isNone,om):=Z2 ((Vh (side_s A hgl rfl rfl)).trans (isN_side _ _))
 unfold XM
 cases h1:outB told f k g with
 |true =>
  rw[h1]at t1
  exact ZJ ((Zk e1).trans (Yr ((Y8 t1).trans (Zy Zr))))
 |false =>
  rw[h1]at t1
  match h2:at' f g with
  |none =>
   rw[h2]at t2
   exact ZJ ((Zk e1).trans ((Zk (ZY t1)).trans (Yr ((Y8 t2).trans (Zy Zr)))))
  |some s =>
   rw[h2]at t2
   obtain ⟨o,hto⟩:=Option.isSome_iff_exists.mp ((A.G.same g).trans (by rw[h2]; rfl))
   have t3:fB (f2 kEq (Zq c.Orders "goal_of" 2 (Zm c) (Za 0) (Zc (Za 3) Zi)) (Za 2)) [some (.o ho),some (.o hF),some (.int ((off:Int)+k)),some (.int ((off:Int)+g))] om=some (.ok (decide (at' told g=some (.move k))),om):=by
    refine Z2 ((Zx (T2 A hto rfl rfl) (Zb rfl)).trans ((Th _ _ _ _).trans ?_))
    rw[hto]
    simp
   have rest:∀(st:Int) (fe:FE),fe [some (.o ho),some (.o hF),some (.int ((off:Int)+k)),some (.int ((off:Int)+g))] om=some (.ok (.int st),om)->X5 (fA (kN 4 (g_overcomes c)) (Zc (Za 0) (Zc (Za 2) (Zc (Za 3) (Zc fe Zi))))) [some (.o ho),some (.o hF),some (.int ((off:Int)+k)),some (.int ((off:Int)+g))] om=some (.ok (Rr told f k g st),om):=fun st fe he=>W8 ((ZI (Ze (Zb rfl) (Ze (Zb rfl) (Ze (Zb rfl) (Ze he Zj))))).trans ((Yz rfl).trans (over_in A e hk h2 st)))
   by_cases h3:at' told g=some (.move k)
   ·rw[decide_eq_true h3]at t3 ⊢
    have hgm:g∈mvL told f:=Wq.mpr ⟨hgl,k,h3⟩
    have q:=ifE_e (a:=fC (.int 0)) (b:=fC (.int 2)) (m:=0) (n:=2) (rest _ (f2 Wf (Za 1) (Za 3)) (Qw (i:=1) (j:=3) (.inr hx) hgm rfl rfl)) Zr Zr
    exact ZJ ((Zk e1).trans ((Zk (ZY t1)).trans ((Zk (ZY t2)).trans (Yr ((Y8 t3).trans (Zy q))))))
   ·rw[decide_eq_false h3]at t3 ⊢
    have q:=ifE_e (a:=fC (.int 0)) (b:=fC (.int 3)) (m:=0) (n:=3) (rest _ (fA (kN 2 (g_firmness c)) (Zc (Za 0) (Zc (Za 3) Zi))) ((ZI (Ze (Zb rfl) (Ze (Zb rfl) Zj))).trans ((Yz rfl).trans (UO A.W A.S A.G A.t A.s7 hto)))) Zr Zr
    exact ZJ ((Zk e1).trans ((Zk (ZY t1)).trans ((Zk (ZY t2)).trans ((Zk (ZY t3)).trans (Zy q)))))
def hN (told:List (Option Od)) (f:List (Option Int)) (k:Nat):Int:=match at' told k with
 |some (.move g)=>XM told f k g
 |_=>0
theorem hinds_in (A:Sit c om ho hb hm hu hl hg size off f kvs gs rows told):g_hindrances c [.o ho] om=some (.ok (.o (om.length+1)),om++[.dk (Z0 off (mvL told f) (fN told f)),.dk (Z0 off (mvL told f) (hN told f))]):=by
 have hlim:=Z1
 have hfew:=A.few
 have hml:=VZ told f
 generalize hD:Z0 off (mvL told f) (fN told f)=D
 have hDl:D.length<=lim:=by rw[← hD,TN]; omega
 have e1:ZU 1 (fA (kN 1 (g_weigh_movers c)) (Zc (Za 0) Zi)) [some (.o ho),none,none,none] om=some (.ok (.nx,[some (.o ho),some (.o om.length),none,none]),om++[.dk D]):=by
  rw[← hD]
  exact ZK (i:=1) ((ZI (Ze (Zb rfl) Zj)).trans ((Yz rfl).trans (weigh_in A)))
 have hl1:(om++[Ob.dk D]).length=om.length+1:=by simp
 have e2:ZU 2 (fun _=>newO (.dk [])) [some (.o ho),some (.o om.length),none,none] (om++[.dk D])=some (.ok (.nx,[some (.o ho),some (.o om.length),some (.o (om.length+1)),none]),om++[.dk D,.dk []]):=by
  refine (ZK (i:=2) (w:=.o (om++[Ob.dk D]).length) (om1:=om++[.dk D]++[.dk []]) rfl).trans ?_
  rw[hl1,List.append_assoc]
  rfl
 obtain ⟨sl',om',ef,ho',x,rfl⟩:=Si (T:=tgN 3) (S:=X4 c) (fun (k:Nat)=>Wv.int ((off:Int)+k)) (fun p sl om'=>om'=om++[.dz D]++[.dk (Z0 off p (hN told f))]∧∃x,sl=[some (.o ho),some (.o om.length),some (.o (om.length+1)),x]) (mvL told f) [] (sl:=[some (.o ho),some (.o om.length),some (.o (om.length+1)),none]) (om:=om++[.dz D]++[.dk []]) (fun p a q hq sl om' ⟨h1,x,h2⟩=>by
  subst h2
  have hq:mvL told f=p++a::q:=hq
  have ha:a∈mvL told f:=by rw[hq]; simp
  obtain ⟨_,g,hg'⟩:=Wq.mp ha
  have nd:=Qz told f
  rw[hq]at nd
  have hap:a ∉ p:=fun hp=>(List.nodup_append.mp nd).2.2 a hp a (.head _) rfl
  have hpl:p.length<=60:=by
   have:p.length<=(mvL told f).length:=by rw[hq]; simp
   omega
  have A2:Sit c om' ho hb hm hu hl hg size off f kvs gs rows told:=by rw[h1,List.append_assoc]; exact A.grow _
  have hx:om'[om.length]?=some (.dz (Z0 off (mvL told f) (fN told f))):=by rw[h1,hD]; simp
  have hv:=hind_in A2 hx hg'
  rw[show XM told f a g=hN told f a by unfold hN; rw[hg']]at hv
  exact ⟨[some (.o ho),some (.o om.length),some (.o (om.length+1)),some (.int ((off:Int)+a))],_,_,rfl,S9 (i:=2) (j:=3) (k:=a) (om.length+1) (om++[.dz D]) h1 (by simp) ((ZI (Ze (Zb rfl) (Ze (Zb rfl) (Ze (Zb rfl) Zj)))).trans ((Yz rfl).trans hv)) rfl rfl hap hpl,rfl,_,rfl⟩) ⟨rfl,_,rfl⟩
 have e3:sForD (Za 1) (tgN 3) (X4 c) [some (.o ho),some (.o om.length),some (.o (om.length+1)),none] (om++[.dk D,.dk []])=some (.ok (.nx,[some (.o ho),some (.o om.length),some (.o (om.length+1)),x]),om++[.dk D,.dk (Z0 off (mvL told f) (hN told f))]):=by
  unfold sForD
  rw[Zs (Zb rfl)]
  have g0:(om++[Ob.dk D,.dk []])[om.length]?=some (.dk D):=by simp
  have g1:(om++[Ob.dk D,.dk []]).set om.length (.dz D)=om++[.dz D]++[.dk []]:=by
   rw[List.set_append_right _ _ (Nat.le_refl _),Nat.sub_self,List.append_assoc]; rfl
  refine (Zs (a:=(true,om.length,D.map fun p=>Vw p.1)) (om1:=om++[.dz D]++[.dk []]) (by simp only[kFrz,g0,if_pos hDl,g1])).trans ?_
  dsimp only
  have hk:(D.map fun p=>Vw p.1)=(mvL told f).map fun (k:Nat)=>Wv.int ((off:Int)+k):=by rw[← hD,Rq]
  rw[hk]
  refine (Zs (a:=(.nx,[some (.o ho),some (.o om.length),some (.o (om.length+1)),x])) (om1:=om') (by unfold ZS; rw[ef])).trans ?_
  rw[ho']
  have g2:(om++[Ob.dz D]++[Ob.dk (Z0 off ([]++mvL told f) (hN told f))])[om.length]?=some (.dz D):=by simp
  have g3:(om++[Ob.dz D]++[Ob.dk (Z0 off ([]++mvL told f) (hN told f))]).set om.length (.dk D)=om++[.dk D,.dk (Z0 off (mvL told f) (hN told f))]:=by
   rw[List.append_assoc,List.set_append_right _ _ (Nat.le_refl _),Nat.sub_self]; rfl
  have g4:kThw true om.length (om++[Ob.dz D]++[Ob.dk (Z0 off ([]++mvL told f) (hN told f))])=some (.ok (),om++[.dk D,.dk (Z0 off (mvL told f) (hN told f))]):=by
   unfold kThw
   rw[if_pos rfl,g2]
   dsimp only
   rw[g3]
  exact (Zs g4).trans rfl
 exact ZJ ((Zk e1).trans ((Zk e2).trans ((Zk e3).trans (Zy (Zb rfl)))))
end
end MP
set_option maxHeartbeats 400000
namespace MP
open PySem L2
theorem inV_ints (off a:Nat):∀l:List Nat,inV (.int ((off:Int)+a)) (l.map fun (k:Nat)=>V.int ((off:Int)+k))=l.contains a
 |[]=>rfl
 |k::l=>by
  have ih:=inV_ints off a l
  unfold inV at ih ⊢
  rw[List.map_cons,List.any_cons,ih,List.contains_cons]
  congr 1
  show ((off:Int)+k == (off:Int)+a)=(a == k)
  by_cases h:a=k
  ·subst h; simp
  ·rw[beq_eq_false_iff_ne.mpr h,beq_eq_false_iff_ne.mpr (by omega)]
theorem Rl {off a:Nat} {l:List Nat} {om:List Ob} {pw:Wv} (hp:YU om pw=some (l.map fun (k:Nat)=>Wv.int ((off:Int)+k))) (neg:Bool):RZ neg (.int ((off:Int)+a)) pw om=some (.ok (.bl (if neg then !l.contains a else l.contains a)),om):=by
 unfold RZ
 rw[hp]
 dsimp only
 have h1:(V5 (.int ((off:Int)+a))&&(l.map fun (k:Nat)=>Wv.int ((off:Int)+k)).all V5)=true:=by
  rw[List.all_map]
  simp[V5]
 rw[if_pos h1,List.map_map]
 have h2:(l.map (toV ∘ fun (k:Nat)=>Wv.int ((off:Int)+k)))=l.map fun (k:Nat)=>V.int ((off:Int)+k):=rfl
 rw[h2]
 show some (Except.ok (Wv.bl (if neg=true then !inV (.int ((off:Int)+a)) (l.map fun (k:Nat)=>V.int ((off:Int)+k)) else inV (.int ((off:Int)+a)) (l.map fun (k:Nat)=>V.int ((off:Int)+k)))),om)=_
 rw[inV_ints]
section
variable {c:CA} {om:List Ob} {ho hb hm hu hl hg size off:Nat} {f:List (Option Int)} {kvs:List (List Key × Wv)} {gs:Gs} {rows:Mx} {told:List (Option Od)}
def ZV (told:List (Option Od)) (f:List (Option Int)) (ps:List Nat) (k:Nat):Int:=match at' told k with
 |some (.move g)=>bif decide (XM told f k g=3)&&ps.contains g then 0 else XM told f k g
 |_=>0
theorem fault_in (A:Sit c om ho hb hm hu hl hg size off f kvs gs rows told) {hN' k:Nat} {pw:Wv} {ps:List Nat} (hx:om[hN']?=some (.dk (Z0 off (mvL told f) (hN told f)))) (hk:k∈mvL told f) (hp:YU om pw=some (ps.map fun (k:Nat)=>Wv.int ((off:Int)+k))):g_fault c [.o ho,.o hN',.int ((off:Int)+k),pw] om=some (.ok (.int (ZV told f ps k)),om):=by
 obtain ⟨hkf,g,e⟩:=Wq.mp hk
 have eh:hN told f k=XM told f k g:=by unfold hN; rw[e]
 have d1:f2 Wf (Za 1) (Za 2) [some (.o ho),some (.o hN'),some (.int ((off:Int)+k)),some pw] om=some (.ok (.int (XM told f k g)),om):=by
  rw[← eh]
  exact Qw (.inl hx) hk rfl rfl
 have t1:Vs (fB (f2 kEq (f2 Wf (Za 1) (Za 2)) (fC (.int 3)))) (fB (f2 (RZ false) (Zq c.Orders "goal_of" 2 (Zm c) (Za 0) (Zc (Za 2) Zi)) (Za 3))) [some (.o ho),some (.o hN'),some (.int ((off:Int)+k)),some pw] om=some (.ok (decide (XM told f k g=3)&&ps.contains g),om) :=
  fAnd_b (Z2 ((Zx d1 Zr).trans (Xp _ _ _))) fun _=>Z2 ((Zx (T2 A e rfl rfl) (Zb rfl)).trans (Rl hp false))
 unfold ZV
 rw[e]
 dsimp only
 cases h:(decide (XM told f k g=3)&&ps.contains g) with
 |true =>
  rw[h]at t1
  exact ZJ (Yr ((Y8 t1).trans (Zy Zr)))
 |false =>
  rw[h]at t1
  exact ZJ ((Zk (ZY t1)).trans (Zy d1))
end
end MP
set_option maxHeartbeats 400000
namespace MP
open PySem L2
theorem QC {om:List Ob} {x y:Wv} {d:PyData} (hx:YT om x=some d) (hy:YT om y=some d) (hl:Ww d=true) (neg:Bool):XS neg x y om=some (.ok (.bl (!neg)),om):=by
 have hc:d.canLay0=true:=(Bool.and_eq_true_iff.mp hl).1
 have he:PyData.eqv d d=true:=PySem.SeqAt.eqv_refl d hc
 unfold XS
 rw[hx,hy]
 dsimp only
 rw[hl]
 cases neg <;> simp[he]
theorem Q0 (om:List Ob):∀ns:List Int,Xl om (ns.map Wv.int)=some (ns.map PyData.int)
 |[]=>rfl
 |n::r=>by
  show (match X8 om (.int n),Xl om (r.map Wv.int) with|some d,some ds=>some (d::ds)|_,_=>none)=_
  rw[Q0 om r]
  rfl
theorem SS (ns:List Int):Ww (.list (ns.map PyData.int))=true:=by
 have a:PyData.canLayAll0 (ns.map PyData.int)=true:=by
  induction ns with
  |nil=>rfl
  |cons n r ih=>simp[PyData.canLayAll0,PyData.canLay0,ih]
 have b:PyData.depthAll (ns.map PyData.int)=0:=by
  induction ns with
  |nil=>rfl
  |cons n r ih =>
   have ih:=ih (by simp[PyData.canLayAll0,PyData.canLay0]at a; simpa using a)
   simp[PyData.depthAll,PyData.depth,ih]
 simp[Ww,PyData.canLay0,PyData.depth,a,b]
theorem py_l (om:List Ob) (ns:List Int):YT om (.lst (ns.map Wv.int))=some (.list (ns.map PyData.int)):=by
 show (Xl om (ns.map Wv.int)).map PyData.list=_
 rw[Q0]
 rfl
end MP
set_option maxHeartbeats 400000
namespace MP
open PySem L2
abbrev R3:Type:=Int × Nat × Int
def r3W (off:Nat) (r:R3):Wv:=.tup [.int r.1,.int ((off:Int)+r.2.1),.int r.2.2]
def r3P (off:Nat) (r:R3):PyData:=.tuple [.int r.1,.int ((off:Int)+r.2.1),.int r.2.2]
theorem pys_r3 (off:Nat) (om:List Ob):∀l:List R3,Xl om (l.map (r3W off))=some (l.map (r3P off))
 |[]=>rfl
 |p::r=>by
  show (match X8 om (r3W off p),Xl om (r.map (r3W off)) with|some d,some ds=>some (d::ds)|_,_=>none)=_
  rw[pys_r3 off om r]
  rfl
theorem RV (off:Nat) (l:List R3):Ww (.list (l.map (r3P off)))=true:=by
 have a:PyData.canLayAll0 (l.map (r3P off))=true∧PyData.depthAll (l.map (r3P off))<=1:=by
  induction l with
  |nil=>exact ⟨rfl,by simp[PyData.depthAll]⟩
  |cons n r ih=>exact ⟨by simp[PyData.canLayAll0,PyData.canLay0,r3P]; exact ih.1,by have:=ih.2; simp[PyData.depthAll,PyData.depth,r3P]; omega⟩
 have:=a.2
 simp[Ww,PyData.canLay0,PyData.depth,a.1]
 omega
theorem eq_r3n (off:Nat) (l:List R3) (om:List Ob):XS false (.lst (l.map (r3W off))) (.lst []) om=some (.ok (.bl l.isEmpty),om):=by
 have h1:YT om (.lst (l.map (r3W off)))=some (.list (l.map (r3P off))):=by
  show (Xl om (l.map (r3W off))).map PyData.list=_
  rw[pys_r3]; rfl
 have h2:YT om (.lst [])=some (.list []):=rfl
 have h3:Ww (.list [])=true:=RV off []
 unfold XS
 rw[h1,h2]
 dsimp only
 rw[RV off l,h3]
 cases l <;> rfl
def fallen (told:List (Option Od)) (f:List (Option Int)) (l:List Nat):List Nat:=l.filter fun k=>!decide (ZV told f l k=0)
def YW (told:List (Option Od)) (f:List (Option Int)) (l:List Nat):List Nat:=l.filter fun k=>decide (ZV told f l k=0)
def V9 (told:List (Option Od)) (f:List (Option Int)):Nat->Int->List Nat->List R3
 |0,_,_=>[]
 |n+1,i,l=>((fallen told f l).map fun k=>(i,k,ZV told f l k))++V9 told f n (i+1) (YW told f l)
theorem last_all {told:List (Option Od)} {f:List (Option Int)} {l:List Nat} (h:fallen told f l=[]):YW told f l=l:=by
 refine List.filter_eq_self.mpr fun k hk=>?_
 have:=List.filter_eq_nil_iff.mp h k hk
 simpa using this
theorem Wy {told:List (Option Od)} {f:List (Option Int)} {l:List Nat} (h:fallen told f l=[]):∀(n:Nat) (i:Int),V9 told f n i l=[]
 |0,_=>rfl
 |n+1,i=>by unfold V9; rw[h,last_all h,Wy h n]; rfl
theorem RB (told:List (Option Od)) (f:List (Option Int)) (l:List Nat):(fallen told f l).length+(YW told f l).length=l.length:=by
 unfold fallen YW
 have h:∀(p:Nat->Bool) (l:List Nat),(l.filter fun k=>!p k).length+(l.filter p).length=l.length:=fun p l=>by
  induction l with
  |nil=>rfl
  |cons k r ih=>cases h:p k <;> simp[h] <;> omega
 exact h (fun k=>decide (ZV told f l k=0)) l
section
variable {c:CA} {om:List Ob} {ho hb hm hu hl hg size off:Nat} {f:List (Option Int)} {kvs:List (List Key × Wv)} {gs:Gs} {rows:Mx} {told:List (Option Od)}
abbrev pW (off:Nat) (k:Nat):Wv:=Wv.int ((off:Int)+k)
theorem round_in (A : Sit c om ho hb hm hu hl hg size off f kvs gs rows told) {hF hS : Nat} (hx : om[hF]? = some (.dk (Z0 off (mvL told f) (hN told f)))) {l : List Nat} (hl' : ∀ k ∈ l,k ∈ mvL told f) (h60 : l.length <= 60) (i : Int) (x5 x6 : Option Wv) :
    ZU 5 (Yh ZT [0,1,2,4] (fun sl=>bnd ((Za 2) sl) ZZ) WP (Sd c)) [some (.o ho),some (.o hF),some (.lst (l.map (pW off))),some (.o hS),some (.int i),x5,x6] om=some (.ok (.nx,[some (.o ho),some (.o hF),some (.lst (l.map (pW off))),some (.o hS),some (.int i),some (.lst (l.map fun k=>r3W off (i,k,ZV told f l k))),x6]),om):=by
  have hlim:=Z1
  refine ZK (i:=5) ((WZ (ws:=l.map (pW off)) (om1:=om) ((Zs (a:=.lst (l.map (pW off))) (om1:=om) (Zb rfl)).trans rfl) (by rw[List.length_map]; omega) (Yy (pW off) (fun _=>true) (fun k=>r3W off (i,k,ZV told f l k)) (fun k hk=>rfl) (fun k hk _=>?_))).trans ?_)
  · refine (ZI (Ze (Zb rfl) (Ze (Zb rfl) (Ze ((ZI (Ze (Zb rfl) (Ze (Zb rfl) (Ze (Zb rfl) (Ze (Zb rfl) Zj))))).trans ((Yz rfl).trans (fault_in A hx (hl' k hk) rfl))) Zj)))).trans ?_
    unfold Wz
    rw[if_pos (by simp; omega)]
    rfl
  · rw[List.filter_eq_self.mpr (fun _ _=>rfl)]
    exact Xu (by rw[List.length_map]; omega)
theorem sift_in {sl:Sl} {off:Nat} {i:Int} {l:List Nat} {v:Nat->Int} (h5:sl[5]?=some (some (.lst (l.map fun k=>r3W off (i,k,v k))))) (h60:l.length<=60):Yh ZT [] (fun sl=>bnd ((Za 5) sl) ZZ) (TL c) (TK c) sl om=some (.ok (.lst ((l.filter fun k=>!decide (v k=0)).map fun k=>r3W off (i,k,v k))),om):=by
 have hlim:=Z1
 have hf:=List.length_filter_le (fun k=>!decide (v k=0)) l
 exact (WZ (ws:=l.map fun k=>r3W off (i,k,v k)) (om1:=om) ((Zs (Zb h5)).trans rfl) (by rw[List.length_map]; omega) (Yy (fun k=>r3W off (i,k,v k)) (fun k=>!decide (v k=0)) (fun k=>r3W off (i,k,v k)) (fun k hk=>Z2 ((Zx ((Zx (Zb rfl) Zr).trans (Ys (k:=2) rfl rfl)) Zr).trans (Xd _ _ _))) (fun k hk _=>Zb rfl))).trans (Xu (by rw[List.length_map]; omega))
theorem stay_in {sl:Sl} {off:Nat} {i:Int} {l:List Nat} {v:Nat->Int} (h5:sl[5]?=some (some (.lst (l.map fun k=>r3W off (i,k,v k))))) (h60:l.length<=60):Yh ZT [] (fun sl=>bnd ((Za 5) sl) ZZ) (TD c) (Tx c) sl om=some (.ok (.lst ((l.filter fun k=>decide (v k=0)).map (pW off))),om):=by
 have hlim:=Z1
 have hf:=List.length_filter_le (fun k=>decide (v k=0)) l
 exact (WZ (ws:=l.map fun k=>r3W off (i,k,v k)) (om1:=om) ((Zs (Zb h5)).trans rfl) (by rw[List.length_map]; omega) (Yy (fun k=>r3W off (i,k,v k)) (fun k=>decide (v k=0)) (pW off) (fun k hk=>Z2 ((Zx ((Zx (Zb rfl) Zr).trans (Ys (k:=2) rfl rfl)) Zr).trans (Xp _ _ _))) (fun k hk _=>(Zx (Zb rfl) Zr).trans (Ys (k:=1) rfl rfl)))).trans (Xu (by rw[List.length_map]; omega))
theorem ext_last {om0:List Ob} {ws us:List Wv} {sl:Sl} (h3:sl[3]?=some (some (.o om0.length))) (h6:sl[6]?=some (some (.lst us))) (h:ws.length+us.length<=lim):ZR (fExt (Za 3) (Za 6)) sl (om0++[.lst ws])=some (.ok (.nx,sl),om0++[.lst (ws++us)]):=by
 have e:(om0++[Ob.lst ws])[om0.length]?=some (.lst ws):=by simp
 refine Z4 (w:=.non) ?_
 unfold fExt
 rw[Zs (Zb h3)]
 refine (Zs (a:=()) (om1:=om0++[.lst ws]) (by simp[kIsL,Wc,e,L2.ret])).trans ?_
 rw[Zs (Zb h6)]
 simp[kExt,Wc,e,h,List.set_append_right]
theorem Pn {om0 : List Ob} (A : Sit c om0 ho hb hm hu hl hg size off f kvs gs rows told) {hF : Nat} (hx : om0[hF]? = some (.dk (Z0 off (mvL told f) (hN told f)))) : ∀ (n : Nat) (i : Int) (l : List Nat) (acc : List R3) (x5 x6 : Option Wv),l.length < n -> acc.length + l.length <= 60 -> (∀ k ∈ l,k ∈ mvL told f) ->
    ∃sl',X7 (X5 (fC (.bl true))) (Xe c) n [some (.o ho),some (.o hF),some (.lst (l.map (pW off))),some (.o om0.length),some (.int i),x5,x6] (om0++[.lst (acc.map (r3W off))])=some (.ok (.rt (.o om0.length),sl'),om0++[.lst ((acc++V9 told f n i l).map (r3W off))])
  |0,_,_,_,_,_,h,_,_=>by omega
  |n+1,i,l,acc,x5,x6,h,h60,hl'=>by
    have hlim:=Z1
    have hlen:=RB told f l
    have A1:=A.grow [.lst (acc.map (r3W off))]
    have hx1:(om0++[Ob.lst (acc.map (r3W off))])[hF]?=some (.dk (Z0 off (mvL told f) (hN told f))):=by
      have:hF < om0.length:=by
        by_cases h:hF < om0.length
        · exact h
        · rw[List.getElem?_eq_none (by omega)]at hx; cases hx
      rw[List.getElem?_append_left this]; exact hx
    have e1:=round_in (hS:=om0.length) A1 hx1 hl' (by omega) i x5 x6
    have e2:=ZK (i:=6) (sift_in (c:=c) (om:=om0++[.lst (acc.map (r3W off))]) (sl:=[some (.o ho),some (.o hF),some (.lst (l.map (pW off))),some (.o om0.length),some (.int i),some (.lst (l.map fun k=>r3W off (i,k,ZV told f l k))),x6]) rfl (by omega))
    have em:(l.filter fun k=>!decide (ZV told f l k=0)).map (fun k=>r3W off (i,k,ZV told f l k))=((fallen told f l).map fun k=>(i,k,ZV told f l k)).map (r3W off):=by rw[List.map_map]; rfl
    rw[em]at e2
    have e3:fB (f2 kEq (Za 6) (fA ZT Zi)) [some (.o ho),some (.o hF),some (.lst (l.map (pW off))),some (.o om0.length),some (.int i),some (.lst (l.map fun k=>r3W off (i,k,ZV told f l k))),some (.lst (((fallen told f l).map fun k=>(i,k,ZV told f l k)).map (r3W off)))] (om0++[.lst (acc.map (r3W off))])=some (.ok ((fallen told f l).map fun k=>(i,k,ZV told f l k)).isEmpty,om0++[.lst (acc.map (r3W off))]) :=
      Z2 ((Zx (Zb rfl) ((ZI Zj).trans (Wr (by simp)))).trans (eq_r3n off _ _))
    show ∃sl',bnd _ (kWh (fun sl2=>X7 (X5 (fC (.bl true))) (Xe c) n sl2) (Xe c) _) _=_
    rw[Zs (W8 (b:=true) Zr)]
    show ∃sl',bnd (Xe c _) (U9 fun sl2=>X7 (X5 (fC (.bl true))) (Xe c) n sl2) _=_
    by_cases hf:fallen told f l=[]
    · rw[hf]at e2 e3
      refine ⟨[some (.o ho),some (.o hF),some (.lst (l.map (pW off))),some (.o om0.length),some (.int i),some (.lst (l.map fun k=>r3W off (i,k,ZV told f l k))),some (.lst ((([]:List Nat).map fun k=>(i,k,ZV told f l k)).map (r3W off)))],(Zs ((Zk e1).trans ((Zk e2).trans (Yr ((Y8 e3).trans (Zy (Zb rfl))))))).trans ?_⟩
      rw[Wy hf,List.append_nil]
      rfl
    · have hne:(fallen told f l).length≠0:=fun z=>hf (List.eq_nil_of_length_eq_zero z)
      have hie:((fallen told f l).map fun k=>(i,k,ZV told f l k)).isEmpty=false:=by
        cases hq:fallen told f l with
        |nil=>exact absurd hq hf
        |cons _ _=>rfl
      rw[hie]at e3
      have e4:=ext_last (om0:=om0) (ws:=acc.map (r3W off)) (us:=((fallen told f l).map fun k=>(i,k,ZV told f l k)).map (r3W off)) (sl:=[some (.o ho),some (.o hF),some (.lst (l.map (pW off))),some (.o om0.length),some (.int i),some (.lst (l.map fun k=>r3W off (i,k,ZV told f l k))),some (.lst (((fallen told f l).map fun k=>(i,k,ZV told f l k)).map (r3W off)))]) rfl rfl (by simp only[List.length_map]; omega)
      rw[← List.map_append]at e4
      have e5:=ZK (i:=2) (stay_in (c:=c) (om:=om0++[.lst ((acc++(fallen told f l).map fun k=>(i,k,ZV told f l k)).map (r3W off))]) (sl:=[some (.o ho),some (.o hF),some (.lst (l.map (pW off))),some (.o om0.length),some (.int i),some (.lst (l.map fun k=>r3W off (i,k,ZV told f l k))),some (.lst (((fallen told f l).map fun k=>(i,k,ZV told f l k)).map (r3W off)))]) rfl (by omega))
      obtain ⟨sl',e7⟩:=Pn A hx n (i+1) (YW told f l) (acc++(fallen told f l).map fun k=>(i,k,ZV told f l k)) (some (.lst (l.map fun k=>r3W off (i,k,ZV told f l k)))) (some (.lst (((fallen told f l).map fun k=>(i,k,ZV told f l k)).map (r3W off)))) (by omega) (by simp only[List.length_append,List.length_map]; omega) (fun k hk=>hl' k (List.mem_filter.mp hk).1)
      refine ⟨sl',(Zs ((Zk e1).trans ((Zk e2).trans ((Zk (ZY e3)).trans ((Zk e4).trans ((Zk e5).trans (ZK (i:=4) ((Zx (Zb rfl) Zr).trans rfl)))))))).trans (e7.trans ?_)⟩
      rw[List.append_assoc]
      rfl
abbrev Yb (told:List (Option Od)) (f:List (Option Int)):List R3:=V9 told f 100 1 (mvL told f)
theorem strikes_in (A:Sit c om ho hb hm hu hl hg size off f kvs gs rows told):g_strikes c [.o ho] om=some (.ok (.o (om.length+2)),om++[.dk (Z0 off (mvL told f) (fN told f)),.dk (Z0 off (mvL told f) (hN told f)),.lst ((Yb told f).map (r3W off))]):=by
 have hlim:=Z1
 have hfew:=A.few
 have hml:=VZ told f
 have A2:=A.grow [.dk (Z0 off (mvL told f) (fN told f)),.dk (Z0 off (mvL told f) (hN told f))]
 have hx:(om++[Ob.dk (Z0 off (mvL told f) (fN told f)),.dk (Z0 off (mvL told f) (hN told f))])[om.length+1]?=some (.dk (Z0 off (mvL told f) (hN told f))):=by simp
 have hi:=hinds_in A
 have hn:(om++[Ob.dk (Z0 off (mvL told f) (fN told f)),.dk (Z0 off (mvL told f) (hN told f))]).length=om.length+2:=by simp
 have hc:om++[Ob.dk (Z0 off (mvL told f) (fN told f)),.dk (Z0 off (mvL told f) (hN told f)),.lst ((Yb told f).map (r3W off))]=(om++[Ob.dk (Z0 off (mvL told f) (fN told f)),.dk (Z0 off (mvL told f) (hN told f))])++[.lst ((Yb told f).map (r3W off))]:=by simp
 rw[hc]
 generalize om++[Ob.dk (Z0 off (mvL told f) (fN told f)),.dk (Z0 off (mvL told f) (hN told f))]=om2 at A2 hx hi hn
 have e1:ZU 1 (fA (kN 1 (g_hindrances c)) (Zc (Za 0) Zi)) [some (.o ho),none,none,none,none,none,none] om=some (.ok (.nx,[some (.o ho),some (.o (om.length+1)),none,none,none,none,none]),om2):=ZK (i:=1) ((ZI (Ze (Zb rfl) Zj)).trans ((Yz rfl).trans hi))
 have e2:ZU 2 (Zq c.Orders "movers" 1 (ZM c) (Za 0) Zi) [some (.o ho),some (.o (om.length+1)),none,none,none,none,none] om2=some (.ok (.nx,[some (.o ho),some (.o (om.length+1)),some (.lst ((mvL told f).map (pW off))),none,none,none,none]),om2):=ZK (i:=2) ((Zw (Zb rfl) (ZB A2.S.o) (ZP _ _ _ (by decide) (by decide)) Zj rfl).trans (T0 A2))
 have e3:ZU 3 (fA WD Zi) [some (.o ho),some (.o (om.length+1)),some (.lst ((mvL told f).map (pW off))),none,none,none,none] om2=some (.ok (.nx,[some (.o ho),some (.o (om.length+1)),some (.lst ((mvL told f).map (pW off))),some (.o om2.length),none,none,none]),om2++[.lst []]):=ZK (i:=3) ((ZI Zj).trans (by
  show WD [] om2=_
  unfold WD
  rw[if_pos (by simp)]
  rfl))
 obtain ⟨sl',e5⟩:=Pn A2 hx 100 1 (mvL told f) [] none none (by omega) (by simp; omega) (fun _ h=>h)
 rw[List.nil_append]at e5
 rw[← hn]
 exact ZJ ((Zk e1).trans ((Zk e2).trans ((Zk e3).trans ((Zk (ZK (i:=4) Zr)).trans e5))))
theorem sm_r3 (off n:Nat):∀l:List R3,WL n (l.map (r3W off))
 |[]=>trivial
 |_::r=>⟨⟨trivial,trivial,trivial,trivial⟩,sm_r3 off n r⟩
theorem fz_r3 (off n:Nat) (om:List Ob) (l:List R3):(l.map (r3W off)).map (fzW om n 3)=l.map (r3W off):=by
 rw[List.map_map]
 rfl
theorem SZ (A:Sit c om ho hb hm hu hl hg size off f kvs gs rows told):Yx c [.o ho] om=some (.ok (.lst ((Yb told f).map (r3W off))),om):=by
 refine tidyG_ok (strikes_in A) (.own (by omega) (by simp) (FzWs.of_smalls (sm_r3 _ _ _))) ?_
 have e:(om++[Ob.dk (Z0 off (mvL told f) (fN told f)),.dk (Z0 off (mvL told f) (hN told f)),.lst ((Yb told f).map (r3W off))])[om.length+2]?=some (.lst ((Yb told f).map (r3W off))):=by simp
 generalize om++[Ob.dk (Z0 off (mvL told f) (fN told f)),.dk (Z0 off (mvL told f) (hN told f)),.lst ((Yb told f).map (r3W off))]=om2 at e
 show (if om.length<=om.length+2 then (match om2[om.length+2]? with|some (.lst xs)=>Wv.lst (xs.map (fzW om2 om.length 3))|_=>.o (om.length+2)) else .o (om.length+2))=_
 rw[if_pos (by omega),e]
 show Wv.lst (((Yb told f).map (r3W off)).map (fzW om2 om.length 3))=_
 rw[fz_r3]
def Tu (told:List (Option Od)) (f:List (Option Int)):Nat->List Nat->List Nat
 |0,l=>l
 |n+1,l=>Tu told f n (YW told f l)
theorem Ph (told:List (Option Od)) (f:List (Option Int)):∀(n:Nat) (i:Int) (l:List Nat),(V9 told f n i l).length<=l.length
 |0,_,_=>by simp[V9]
 |n+1,i,l=>by
  have:=RB told f l
  have:=Ph told f n (i+1) (YW told f l)
  unfold V9
  simp only[List.length_append,List.length_map]
  omega
theorem fin_not (told:List (Option Od)) (f:List (Option Int)):∀(n:Nat) (i:Int) (l:List Nat),l.Nodup->Tu told f n l=l.filter fun k=>!((V9 told f n i l).map fun r=>r.2.1).contains k
 |0,_,l,_=>(List.filter_eq_self.mpr fun _ _=>rfl).symm
 |n+1,i,l,nd=>by
  have ih:=fin_not told f n (i+1) (YW told f l) (nd.sublist List.filter_sublist)
  unfold Tu V9
  rw[ih,List.map_append,List.map_map]
  have hm:(fallen told f l).map ((fun r:R3=>r.2.1) ∘ fun k=>(i,k,ZV told f l k))=fallen told f l:=by
   conv=>rhs; rw[← List.map_id (fallen told f l)]
   rfl
  rw[hm]
  generalize (V9 told f n (i+1) (YW told f l)).map (fun r=>r.2.1)=R
  unfold YW
  rw[List.filter_filter]
  refine List.filter_congr fun k hk=>?_
  have hc:(fallen told f l++R).contains k=((fallen told f l).contains k || R.contains k):=by
   refine Bool.eq_iff_iff.mpr ?_
   rw[Bool.or_eq_true,List.contains_iff_mem,List.contains_iff_mem,List.contains_iff_mem,List.mem_append]
  have hf:(fallen told f l).contains k=!decide (ZV told f l k=0):=by
   refine Bool.eq_iff_iff.mpr ?_
   rw[List.contains_iff_mem]
   unfold fallen
   rw[List.mem_filter]
   exact ⟨fun h=>h.2,fun h=>⟨hk,h⟩⟩
  rw[hc,hf]
  cases decide (ZV told f l k=0) <;> cases R.contains k <;> rfl
theorem settled_in (A:Sit c om ho hb hm hu hl hg size off f kvs gs rows told):g_settled c [.o ho] om=some (.ok (.lst ((Tu told f 100 (mvL told f)).map (pW off))),om):=by
 have hlim:=Z1
 have hfew:=A.few
 have hml:=VZ told f
 have hsl:(Yb told f).length<=(mvL told f).length:=Ph told f 100 1 (mvL told f)
 have e1:ZU 1 (Yh ZT [] (fun sl=>bnd ((fA (kN 1 (Yx c)) (Zc (Za 0) Zi)) sl) ZZ) WP (Sf c)) [some (.o ho),none] om=some (.ok (.nx,[some (.o ho),some (.lst (((Yb told f).map fun r=>r.2.1).map (pW off)))]),om):=by
  refine ZK (i:=1) ((WZ (ws:=(Yb told f).map (r3W off)) (om1:=om) ((Zs ((ZI (Ze (Zb rfl) Zj)).trans ((Yz rfl).trans (SZ A)))).trans rfl) (by rw[List.length_map]; omega) (Yy (r3W off) (fun _=>true) (fun r=>pW off r.2.1) (fun k hk=>rfl) (fun k hk _=>(Zx (Zb rfl) Zr).trans (Ys (k:=1) rfl rfl)))).trans ?_)
  rw[List.filter_eq_self.mpr (fun _ _=>rfl)]
  have e:(Yb told f).map (fun r=>pW off r.2.1)=((Yb told f).map fun r=>r.2.1).map (pW off):=by rw[List.map_map]; rfl
  rw[e]
  exact Xu (by simp only[List.length_map]; omega)
 rw[fin_not told f 100 1 (mvL told f) (Qz told f)]
 have hfl:=List.length_filter_le (fun k=>!((Yb told f).map fun r=>r.2.1).contains k) (mvL told f)
 refine ZJ ((Zk e1).trans (Zy ((WZ (ws:=(mvL told f).map (pW off)) (om1:=om) ((Zs ((Zw (Zb rfl) (ZB A.S.o) (ZP _ _ _ (by decide) (by decide)) Zj rfl).trans (T0 A))).trans rfl) (by rw[List.length_map]; omega) (Yy (pW off) (fun k=>!((Yb told f).map fun r=>r.2.1).contains k) (pW off) (fun k hk=>?_) (fun k hk _=>Zb rfl))).trans (Xu (by rw[List.length_map]; omega)))))
 exact Z2 ((v2 rfl rfl).trans (Rl (l:=(Yb told f).map fun r=>r.2.1) rfl true))
end
end MP
set_option maxHeartbeats 400000
namespace MP
open PySem L2
abbrev Vq (c:CA) (size:Nat) (kvs:List (List Key × Wv)) (us:List (Int × Int)) (off:Nat) (g:Gs) (l:List Ob):List Ob:=Yn c size 1::.dt kvs::XW c 0 3::.dk (Y2 us)::XB c 2 5::.dk (YZ c off g)::l
section
variable {c:CA} {ns:List Int} {many off size:Nat} {rows:Mx} {f:List (Option Int)} {kvs:List (List Key × Wv)}
theorem W08 (hf:f.length=many) (h1:off+many<=size) (h2:size<=60) (g:Gs) (l:List Ob):Wd c (Vq c size kvs (Yl off f many) off g l) 2 0 3 1 size off f kvs:=by
 subst hf
 exact ⟨rfl,rfl,rfl,rfl,h1,h2⟩
end
end MP
namespace MP
noncomputable section
open PySem L2
def VV (c:CA):FS :=
 (ZE (ZR (Zq c.Map "link" 3 (Xg c) (Za 1) (Zc (fC (.int 0)) (Zc (f2 YB (fC (.int 2)) (Za 2)) Zi))))
  (ZR (Zq c.Map "link" 3 (Xg c) (Za 1) (Zc (fC (.int 1)) (Zc (f2 YB (fC (.int 2)) (Za 2)) Zi)))))
def S__law_star (c:CA):FS :=
 (ZE (ZU 1 (fA (XC c.Map 2 (XG c)) (Zc (f2 YB (Za 0) (fC (.int 2))) Zi)))
  (ZE (ZR (Zq c.Map "link" 3 (Xg c) (Za 1) (Zc (fC (.int 0)) (Zc (fC (.int 1)) Zi))))
  (ZE (Ve (fun sl=>bnd ((Za 0) sl) XU) (tgN 2) (VV c))
  (Z9 (Za 1)))))
def g__law_star (c:CA):List Wv->Mw Wv:=Yj 3 (S__law_star c)
def E1_law (c:CA):FE :=
 (f2 Vf (f2 YB (fA (kN 2 (g__law_cell_at c)) (Zc (Za 1) (Zc (fC (.int 4)) Zi))) (f2 kMul (Za 0) (fA (kN 2 (g__law_cell_at c)) (Zc (Za 1) (Zc (fC (.int 5)) Zi))))) (fC (.int 3)))
def B1_law (c:CA):FS :=
 (ZR (Zq c.Board "post" 3 (YM c) (Za 4) (Zc (f2 YB (fC (.int 2)) (Za 6)) (Zc (f2 kIx (Za 5) (Za 6)) Zi))))
def B2_law (c:CA):FS :=
 (sIf (fB (f2 kLt (Za 6) (Za 2))) (ZR (Zq c.Orders "aid" 4 (Xw c) (Za 7) (Zc (f2 YB (fC (.int 2)) (Za 6)) (Zc (fC (.int 1)) (Zc (fC (.int 0)) Zi))))) (ZR (Zq c.Orders "aid" 4 (Xw c) (Za 7) (Zc (f2 YB (fC (.int 2)) (Za 6)) (Zc (fC (.int 0)) (Zc (fC (.int 0)) Zi))))))
def T8 (c:CA):FT :=
 (fB (f2 kNe (f2 kIx (Za 1) (Za 0)) (fC (.int 1))))
def So (c:CA):FE :=
 (Za 0)
def S_law (c:CA):FS :=
 (ZE (ZU 1 (f2 Vf (fA (kN 2 (g__law_cell_at c)) (Zc (Za 0) (Zc (fC (.int 0)) Zi))) (fC (.int 41))))
  (ZE (ZU 2 (f2 Vf (fA (kN 2 (g__law_cell_at c)) (Zc (Za 0) (Zc (fC (.int 1)) Zi))) (f2 YB (Za 1) (fC (.int 1)))))
  (ZE (ZU 3 (f2 Vf (fA (kN 2 (g__law_cell_at c)) (Zc (Za 0) (Zc (fC (.int 2)) Zi))) (f2 T9 (f2 YB (Za 1) (fC (.int 1))) (Za 2))))
  (ZE (sIf (fB (f2 kEq (f2 Vf (fA (kN 2 (g__law_cell_at c)) (Zc (Za 0) (Zc (fC (.int 3)) Zi))) (fC (.int 2))) (fC (.int 1)))) (ZU 3 (fA Q5 (Zc (f2 T9 (Za 1) (Za 2)) (Zc (fA RM (Zc (fC (.int 0)) (Zc (f2 T9 (Za 2) (f2 Vf (f2 kDiv (fA (kN 2 (g__law_cell_at c)) (Zc (Za 0) (Zc (fC (.int 3)) Zi))) (fC (.int 2))) (fC (.int 2)))) Zi))) Zi)))) YJ)
  (ZE (ZU 4 (fA (XC c.Board 2 (Y6 c)) (Zc (fA (kN 1 (g__law_star c)) (Zc (Za 1) Zi)) Zi)))
  (ZE (ZR (Zq c.Board "post" 3 (YM c) (Za 4) (Zc (fC (.int 0)) (Zc (fC (.int 1)) Zi))))
  (ZE (ZR (Zq c.Board "post" 3 (YM c) (Za 4) (Zc (fC (.int 1)) (Zc (fC (.int 0)) Zi))))
  (ZE (ZU 5 (Yh ZT [0] (fun sl=>bnd ((Za 1) sl) XU) WP (E1_law c)))
  (ZE (Ve (fun sl=>bnd ((Za 1) sl) XU) (tgN 6) (B1_law c))
  (ZE (ZU 7 (fA (XC c.Orders 2 (YV c)) (Zc (Za 4) Zi)))
  (ZE (ZR (Zq c.Orders "move" 3 (YS c) (Za 7) (Zc (fC (.int 1)) (Zc (fC (.int 0)) Zi))))
  (ZE (Ve (fun sl=>bnd ((f2 YB (Za 2) (Za 3)) sl) XU) (tgN 6) (B2_law c))
  (ZE (ZU 8 (f2 YB (fC (.int 1)) (fA Wo (Zc (Yh ZT [5] (fun sl=>bnd ((Za 2) sl) XU) (T8 c) (So c)) Zi))))
  (ZE (sIf (fOr (fB (f2 kNe (fA (kN 2 (g_force c)) (Zc (Za 7) (Zc (fC (.int 1)) Zi))) (f2 YB (fC (.int 1)) (Za 2)))) (fB (f2 kNe (fA (kN 3 (g_force_against c)) (Zc (Za 7) (Zc (fC (.int 1)) (Zc (fC (.int 1)) Zi)))) (Za 8)))) (Z9 (fC (.bl false))) YJ)
  (ZE (sIf (fOr (fB (f2 kNe (fA (kN 2 (g_firmness c)) (Zc (Za 7) (Zc (fC (.int 0)) Zi))) (f2 YB (fC (.int 1)) (Za 3)))) (Se (X5 (fA (kN 1 (g__law_whole c)) (Zc (fA (kN 2 (g_firmness c)) (Zc (Za 7) (Zc (fC (.int 0)) Zi))) Zi))))) (Z9 (fC (.bl false))) YJ)
  (ZE (sIf (fB (f2 kGt (Za 8) (f2 YB (fC (.int 1)) (Za 3)))) (Z9 (Y3 (f2 kEq (fA (kN 1 (g_settled c)) (Zc (Za 7) Zi)) (fA ZT (Zc (fC (.int 1)) Zi))) (f2 kEq (fA (kN 1 (Yx c)) (Zc (Za 7) Zi)) (fA ZT Zi)))) YJ)
  (Z9 (Y3 (f2 kEq (fA (kN 1 (g_settled c)) (Zc (Za 7) Zi)) (fA ZT Zi)) (f2 kEq (fA (kN 1 (Yx c)) (Zc (Za 7) Zi)) (fA ZT (Zc (fA Wz (Zc (fC (.int 1)) (Zc (fC (.int 1)) (Zc (fC (.int 3)) Zi)))) Zi)))))))))))))))))))))
def g_law (c:CA):List Wv->Mw Wv:=Yj 9 (S_law c)
end
end MP
set_option maxHeartbeats 400000
namespace MP
open PySem L2
def cnt (p:Nat->Bool) (m:Nat):Nat:=((List.range m).filter p).length
theorem WX (p:Nat->Bool):cnt p 0=0:=rfl
theorem Xm (p:Nat->Bool) (m:Nat):cnt p (m+1)=cnt p m+(if p m then 1 else 0):=by
 unfold cnt
 rw[List.range_succ,List.filter_append,List.length_append]
 cases h:p m <;> simp[List.filter_cons,h]
theorem cnt_le (p:Nat->Bool) (m:Nat):cnt p m<=m:=Nat.le_trans (List.length_filter_le _ _) (by simp)
theorem cnt_pre (q:Nat->Bool) (push:Nat):∀m,cnt (fun k=>decide (k < push)&&q k) m=cnt q (min m push)
 |0=>by simp[WX]
 |m+1=>by
  rw[Xm,cnt_pre q push m]
  by_cases h:m < push
  ·rw[show min m push=m by omega,show min (m+1) push=m+1 by omega,Xm]
   simp[h]
  ·rw[show min m push=push by omega,show min (m+1) push=push by omega]
   simp[h]
theorem cnt_mid (push hold:Nat):∀m,cnt (fun k=>decide (push<=k)&&decide (k < push+hold)) m=min (m - push) hold
 |0=>by simp[WX]
 |m+1=>by
  rw[Xm,cnt_mid push hold m]
  by_cases h1:push<=m
  ·by_cases h2:m < push+hold
   ·simp[h1,h2]; omega
   ·simp[h1,h2]; omega
  ·simp[h1]; omega
theorem Ui {p q:Nat->Bool} {m:Nat} (h:∀k,k < m->p k=q k):cnt p m=cnt q m:=by
 unfold cnt
 rw[List.filter_congr fun k hk=>h k (List.mem_range.mp hk)]
theorem cnt_two (p:Nat->Bool) (m:Nat) (h0:p 0=false) (h1:p 1=false):cnt p (m+2)=cnt (fun k=>p (2+k)) m:=by
 induction m with
 |zero=>rw[Xm,Xm,WX,WX,h0,h1]; rfl
 |succ m ih=>rw[Xm,ih,Xm,Nat.add_comm m 2]
theorem Ps (p:Nat->Bool) (m:Nat):(List.range m).foldl (fun a h=>bif p h then a+1 else a) (1:Int)=1+(cnt p m:Int):=by
 induction m with
 |zero=>simp[WX]
 |succ m ih =>
  rw[List.range_succ,List.foldl_append,ih,Xm]
  cases h:p m
  ·simp[h]
  ·simp[h]; omega
section
variable (many push hold:Nat) (sd:Nat->Int)
def fsI (j:Nat):Int:=if j=0 then 1 else if j=1 then 0 else sd (j - 2)
def tlO (j:Nat):Od:=if j=1 then .move 0 else if 2<=j∧j < 2+push then .help 1 0 else if 2<=j∧j < 2+(push+hold) then .help 0 0 else .stand
def fL:List (Option Int):=(List.range (many+2)).map fun j=>some (fsI sd j)
def tL:List (Option Od):=(List.range (many+2)).map fun j=>some (tlO push hold j)
def rL:Mx:=(List.range (many+2)).map fun i=>(List.range (many+2)).map fun j=>!decide (i=j)
theorem at_map {α:Type} (g:Nat->α) (n j:Nat):at' ((List.range n).map fun j=>some (g j)) j=if j < n then some (g j) else none:=by
 unfold at'
 rw[List.getD_eq_getElem?_getD,List.getElem?_map]
 by_cases h:j < n
 ·rw[List.getElem?_range h,if_pos h]; rfl
 ·rw[List.getElem?_eq_none (by rw[List.length_range]; omega),if_neg h]; rfl
theorem U0 (j:Nat):at' (fL many sd) j=if j < many+2 then some (fsI sd j) else none:=at_map ..
theorem VQ (j:Nat):at' (tL many push hold) j=if j < many+2 then some (tlO push hold j) else none:=at_map ..
theorem XR:(fL many sd).length=many+2:=by simp[fL]
theorem tL_len:(tL many push hold).length=many+2:=by simp[tL]
theorem rL_at (i j:Nat):X3 (rL many) i j=(decide (i < many+2)&&(decide (j < many+2)&&!decide (i=j))):=by
 have row:(rL many).getD i []=if i < many+2 then (List.range (many+2)).map (fun j=>!decide (i=j)) else []:=by
  unfold rL
  rw[List.getD_eq_getElem?_getD,List.getElem?_map]
  by_cases h:i < many+2
  ·rw[List.getElem?_range h,if_pos h]; rfl
  ·rw[List.getElem?_eq_none (by rw[List.length_range]; omega),if_neg h]; rfl
 unfold X3
 rw[row]
 by_cases h:i < many+2
 ·rw[if_pos h,List.getD_eq_getElem?_getD,List.getElem?_map]
  by_cases h2:j < many+2
  ·rw[List.getElem?_range h2]
   simp[h,h2]
  ·rw[List.getElem?_eq_none (by rw[List.length_range]; omega)]
   simp[h2]
 ·rw[if_neg h]
  simp[h]
theorem rL_lk:Lk (many+2) (rL many):=by
 refine ⟨by simp[rL],fun a ha=>?_,fun a b=>?_,fun a=>?_⟩
 ·unfold rL
  rw[List.getD_eq_getElem?_getD,List.getElem?_map,List.getElem?_range ha]
  simp
 ·rw[rL_at,rL_at]
  have:decide (a=b)=decide (b=a):=by
   by_cases h:a=b
   ·subst h; rfl
   ·rw[decide_eq_false h,decide_eq_false fun z=>h z.symm]
  rw[this]
  cases decide (a < many+2) <;> cases decide (b < many+2) <;> rfl
 ·rw[rL_at]; simp
theorem given18 (hm:many<=40):Givn (rL many) (fL many sd) (tL many push hold):=by
 refine ⟨by rw[XR]; exact rL_lk many,by rw[tL_len,XR],by rw[XR]; omega,fun k hk=>?_⟩
 rw[XR]at hk
 have hs:∀j,j < many+2->(at' (fL many sd) j).isSome=true:=fun j hj=>by rw[U0,if_pos hj]; rfl
 have hl:∀i,i < many+2->i≠0->X3 (rL many) i 0=true:=fun i hi hn=>by rw[rL_at]; simp[hi,hn]
 rw[VQ,if_pos hk]
 unfold tlO
 split
 ·rename_i h; subst h
  exact ⟨hs 1 hk,by rw[XR]; omega,hl 1 hk (by decide)⟩
 ·split
  ·rename_i h1 h2
   exact ⟨hs k hk,by rw[XR]; omega,by rw[XR]; omega,by omega,hs 1 (by omega),hl k hk (by omega),.inr (hl 1 (by omega) (by decide))⟩
  ·split
   ·rename_i h1 h2 h3
    exact ⟨hs k hk,by rw[XR]; omega,by rw[XR]; omega,by omega,hs 0 (by omega),hl k hk (by omega),.inl rfl⟩
   ·exact hs k hk
theorem Q1 (g:Nat) (m:Nat):at' (tL many push hold) m=some (.move g) ↔ m=1∧g=0:=by
 rw[VQ]
 constructor
 ·intro h
  split at h
  ·have h:=Option.some.inj h
   unfold tlO at h
   split at h
   ·rename_i e; exact ⟨e,by injection h with h; exact h.symm⟩
   ·split at h
    ·cases h
    ·split at h <;> cases h
  ·cases h
 ·rintro ⟨rfl,rfl⟩
  rw[if_pos (by omega)]
  rfl
theorem cut18 (k g:Nat) (hk:k≠0) (f:List (Option Int)):QJ (tL many push hold) f k g=false:=by
 unfold QJ
 rw[List.any_eq_false]
 intro m _
 have:¬ at' (tL many push hold) m=some (.move k):=fun h=>hk ((Q1 many push hold k m).mp h).2
 rw[decide_eq_false this]
 simp
theorem strB1 (hp:push+hold<=many) (s:Option Int) (k:Nat) (hk:k < many):SD (tL many push hold) (fL many sd) 1 0 s (2+k)=(decide (k < push)&&!decide (some (sd k)=s)):=by
  unfold SD
  have hf:at' (fL many sd) (2+k)=some (sd k):=by rw[U0,if_pos (by omega)]; unfold fsI; rw[if_neg (by omega),if_neg (by omega),show 2+k - 2=k by omega]
  have ht:at' (tL many push hold) (2+k)=some (tlO push hold (2+k)):=by rw[VQ,if_pos (by omega)]
  rw[hf]
  by_cases h:k < push
  · have e:tlO push hold (2+k)=.help 1 0:=by unfold tlO; rw[if_neg (by omega),if_pos (by omega)]
    rw[e]at ht
    have hc:YF (tL many push hold) (fL many sd) (2+k)=true:=by
      unfold YF
      rw[ht]
      dsimp only
      rw[cut18 many push hold (2+k) 0 (by omega),if_neg (by decide),decide_eq_true ((Q1 many push hold 0 1).mpr ⟨rfl,rfl⟩)]
      rfl
    rw[ht,hc]
    simp[h]
  · have e : at' (tL many push hold) (2 + k) ≠ some (.help 1 0):=by
      rw[ht]
      unfold tlO
      rw[if_neg (by omega),if_neg (by omega)]
      split <;> (intro z; cases z)
    rw[decide_eq_false e]
    simp[h]
theorem strB0 (hp:push+hold<=many) (hs:∀k,0<=sd k) (k:Nat) (hk:k < many):SD (tL many push hold) (fL many sd) 0 0 (some (-1)) (2+k)=(decide (push<=k)&&decide (k < push+hold)):=by
  unfold SD
  have hf:at' (fL many sd) (2+k)=some (sd k):=by rw[U0,if_pos (by omega)]; unfold fsI; rw[if_neg (by omega),if_neg (by omega),show 2+k - 2=k by omega]
  have ht:at' (tL many push hold) (2+k)=some (tlO push hold (2+k)):=by rw[VQ,if_pos (by omega)]
  have h0:at' (tL many push hold) 0=some .stand:=by rw[VQ,if_pos (by omega)]; rfl
  have hn:¬ some (sd k)=some (-1:Int):=fun z=>by have:=hs k; injection z with z; omega
  rw[hf]
  by_cases h:push<=k∧k < push+hold
  · have e:tlO push hold (2+k)=.help 0 0:=by unfold tlO; rw[if_neg (by omega),if_neg (by omega),if_pos (by omega)]
    rw[e]at ht
    have hc:YF (tL many push hold) (fL many sd) (2+k)=true:=by
      unfold YF
      rw[ht]
      dsimp only
      rw[cut18 many push hold (2+k) 0 (by omega),if_pos rfl,h0]
      rfl
    rw[ht,hc,decide_eq_false hn]
    simp[h.1,h.2]
  · have e : at' (tL many push hold) (2 + k) ≠ some (.help 0 0):=by
      rw[ht]
      unfold tlO
      rw[if_neg (by omega)]
      split
      · intro z; cases z
      · rw[if_neg (by omega)]; intro z; cases z
    rw[decide_eq_false e]
    have:(decide (push<=k)&&decide (k < push+hold))=false:=by
      rw[Bool.and_eq_false_iff]
      by_cases h1:push<=k
      · exact .inr (decide_eq_false fun z=>h ⟨h1,z⟩)
      · exact .inl (decide_eq_false h1)
    rw[this]
    simp
theorem QI (k g:Nat) (s:Option Int) (j:Nat) (hj:j < 2):SD (tL many push hold) (fL many sd) k g s j=false:=by
 unfold SD
 have e:at' (tL many push hold) j≠some (.help k g):=by
  rw[VQ,if_pos (by omega)]
  unfold tlO
  split
  ·intro z; cases z
  ·rw[if_neg (by omega),if_neg (by omega)]; intro z; cases z
 rw[decide_eq_false e]
 rfl
theorem strong1 (hp:push+hold<=many) (s:Int):YQ (tL many push hold) (fL many sd) 1 0 (some s)=1+(cnt (fun k=>!decide (sd k=s)) push:Int):=by
 unfold YQ
 rw[Ps,tL_len,cnt_two _ _ (QI many push hold sd 1 0 _ 0 (by decide)) (QI many push hold sd 1 0 _ 1 (by decide)),Ui fun k hk=>strB1 many push hold sd hp (some s) k hk]
 have:(fun k=>decide (k < push)&&!decide (some (sd k)=some s))=fun k=>decide (k < push)&&!decide (sd k=s):=by
  funext k
  congr 2
  simp
 rw[this,cnt_pre,show min many push=push by omega]
theorem strong0 (hp:push+hold<=many) (hs:∀k,0<=sd k):YQ (tL many push hold) (fL many sd) 0 0 (some (-1))=1+(hold:Int):=by
 unfold YQ
 rw[Ps,tL_len,cnt_two _ _ (QI many push hold sd 0 0 _ 0 (by decide)) (QI many push hold sd 0 0 _ 1 (by decide)),Ui fun k hk=>strB0 many push hold sd hp hs k hk,cnt_mid,show min (many - push) hold=hold by omega]
theorem force1 (hp:push+hold<=many) (s:Int):Ws (tL many push hold) (fL many sd) 1 s=1+(cnt (fun k=>!decide (sd k=s)) push:Int):=by
 unfold Ws
 rw[(Q1 many push hold 0 1).mpr ⟨rfl,rfl⟩]
 exact strong1 many push hold sd hp s
theorem firm0 (hp:push+hold<=many) (hs:∀k,0<=sd k):QM (tL many push hold) (fL many sd) 0=1+(hold:Int):=by
 unfold QM
 have h0:at' (tL many push hold) 0=some .stand:=by rw[VQ,if_pos (by omega)]; rfl
 rw[h0]
 exact strong0 many push hold sd hp hs
theorem mvL18:mvL (tL many push hold) (fL many sd)=[1]:=by
 have nd:=Qz (tL many push hold) (fL many sd)
 have hm:∀k,k∈mvL (tL many push hold) (fL many sd) ↔ k=1:=fun k=>by
  rw[Wq,XR]
  constructor
  ·rintro ⟨_,g,h⟩
   exact ((Q1 many push hold g k).mp h).1
  ·rintro rfl
   exact ⟨by omega,0,(Q1 many push hold 0 1).mpr ⟨rfl,rfl⟩⟩
 match h:mvL (tL many push hold) (fL many sd),nd,hm with
 |[],_,hm=>exact absurd ((hm 1).mpr rfl) (by simp)
 |[a],_,hm=>rw[(hm a).mp (.head _)]
 |a::b::l,nd,hm =>
  have h1:=(hm a).mp (.head _)
  have h2:=(hm b).mp (.tail _ (.head _))
  subst h1 h2
  exact absurd (List.Mem.head _) (List.nodup_cons.mp nd).1
theorem hind18 (hp:push+hold<=many) (hs:∀k,0<=sd k):XM (tL many push hold) (fL many sd) 1 0=if (hold:Int) < (cnt (fun k=>!decide (sd k=1)) push:Int) then 0 else 3:=by
 have ho:outB (tL many push hold) (fL many sd) 1 0=false:=by unfold outB; rw[mvL18]; rfl
 have f0:at' (fL many sd) 0=some 1:=by rw[U0,if_pos (by omega)]; rfl
 have f1:at' (fL many sd) 1=some 0:=by rw[U0,if_pos (by omega)]; rfl
 have h0:¬ at' (tL many push hold) 0=some (.move 1):=fun h=>by have:=((Q1 many push hold 1 0).mp h).1; omega
 unfold XM Rr
 rw[ho,f0,f1,decide_eq_false h0,firm0 many push hold sd hp hs,strong1 many push hold sd hp 1]
 by_cases h:(hold:Int) < (cnt (fun k=>!decide (sd k=1)) push:Int)
 ·rw[if_pos h,decide_eq_true (show (1+(hold:Int)) < 1+(cnt (fun k=>!decide (sd k=1)) push:Int) by omega)]
  rfl
 ·rw[if_neg h,decide_eq_false (show ¬ (1+(hold:Int)) < 1+(cnt (fun k=>!decide (sd k=1)) push:Int) by omega)]
  rfl
theorem Tk:ZV (tL many push hold) (fL many sd) [1] 1=XM (tL many push hold) (fL many sd) 1 0:=by
 unfold ZV
 rw[(Q1 many push hold 0 1).mpr ⟨rfl,rfl⟩]
 dsimp only
 have:([1]:List Nat).contains 0=false:=rfl
 rw[this,Bool.and_false]
 rfl
theorem won18 (h:XM (tL many push hold) (fL many sd) 1 0=0):Yb (tL many push hold) (fL many sd)=[]∧Tu (tL many push hold) (fL many sd) 100 (mvL (tL many push hold) (fL many sd))=[1]:=by
 have hf:fallen (tL many push hold) (fL many sd) [1]=[]:=by
  unfold fallen
  simp[Tk,h]
 rw[show Yb (tL many push hold) (fL many sd)=V9 (tL many push hold) (fL many sd) 100 1 (mvL (tL many push hold) (fL many sd)) from rfl,mvL18]
 refine ⟨Wy hf 100 1,?_⟩
 have:∀m,Tu (tL many push hold) (fL many sd) m [1]=[1]:=fun m=>by
  induction m with
  |zero=>rfl
  |succ m ih=>unfold Tu; rw[last_all hf]; exact ih
 exact this 100
theorem lost18 (h:XM (tL many push hold) (fL many sd) 1 0=3):Yb (tL many push hold) (fL many sd)=[(1,1,3)]∧Tu (tL many push hold) (fL many sd) 100 (mvL (tL many push hold) (fL many sd))=[]:=by
  have hf:fallen (tL many push hold) (fL many sd) [1]=[1]:=by
    unfold fallen
    simp[Tk,h]
  have hl:YW (tL many push hold) (fL many sd) [1]=[]:=by
    unfold YW
    simp[Tk,h]
  rw[show Yb (tL many push hold) (fL many sd)=V9 (tL many push hold) (fL many sd) (99+1) 1 (mvL (tL many push hold) (fL many sd)) from rfl,mvL18]
  constructor
  · unfold V9
    rw[hf,hl,Wy (l:=[]) rfl]
    simp[Tk,h]
  · have : ∀ m,Tu (tL many push hold) (fL many sd) m [] = []:=fun m => by
      induction m with
      |zero=>rfl
      |succ m ih=>exact ih
    show Tu (tL many push hold) (fL many sd) (99+1) [1]=[]
    unfold Tu
    rw[hl]
    exact this 99
end
section
variable {c:CA} {ns:List Int}
structure Star (kvs:List (List Key × Wv)) (m:Nat):Prop where
 one:UB kvs 1 0=true
 far:∀k:Nat,k < m->UB kvs (2+(k:Int)) 0=true
 len:kvs.length<=2+4 * m
theorem link_e {om : List Ob} {kvs : List (List Key × Wv)} {n : Nat} {a b : Int} {sl : Sl} {fa fb : FE} (hv : sl[1]? = some (some (.o om.length))) (ha : fa sl (om ++ [Yn c (n : Nat) (om.length + 1),.dt kvs]) = some (.ok (.int a),om ++ [Yn c (n : Nat) (om.length + 1),.dt kvs])) (hb : fb sl (om ++ [Yn c (n : Nat) (om.length + 1),.dt kvs]) = some (.ok (.int b),om ++ [Yn c (n : Nat) (om.length + 1),.dt kvs])) (h1 : 0 <= a ∧ a < (n : Nat)) (h2 : 0 <= b ∧ b < (n : Nat)) (hne : a ≠ b) (hlen : kvs.length + 1 < 1000) :
    ZR (Zq c.Map "link" 3 (Xg c) (Za 1) (Zc fa (Zc fb Zi))) sl (om++[Yn c (n:Nat) (om.length+1),.dt kvs])=some (.ok (.nx,sl),om++[Yn c (n:Nat) (om.length+1),.dt (XE kvs a b)]):=by
  have hlim:=Z1
  have hm:(om++[Yn c (n:Nat) (om.length+1),.dt kvs])[om.length]?=some (Yn c (n:Nat) (om.length+1)):=by simp
  have hk:(om++[Yn c (n:Nat) (om.length+1),.dt kvs])[om.length+1]?=some (.dt kvs):=by simp
  have e:=link_ok (c:=c) (h:=om.length) (hl:=om.length+1) (by omega) hm hk h1 h2 hne (by omega)
  have es:(om++[Yn c (n:Nat) (om.length+1),Ob.dt kvs]).set (om.length+1) (.dt (XE kvs a b))=om++[Yn c (n:Nat) (om.length+1),.dt (XE kvs a b)]:=by
    rw[List.set_append_right _ _ (by omega),show om.length+1 - om.length=1 by omega]; rfl
  rw[es]at e
  exact Z4 ((Zw (Zb hv) (ZB hm) (Xf _ _ _ (by decide) (by decide)) (Ze ha (Ze hb Zj)) rfl).trans e)
theorem star_in {many:Nat} (hm:many<=40) (om:List Ob):∃kvs,g__law_star c [.int many] om=some (.ok (.o om.length),om++[Yn c (many+2:Nat) (om.length+1),.dt kvs])∧Star kvs many:=by
 have hlim:=Z1
 have e1:ZU 1 (fA (XC c.Map 2 (XG c)) (Zc (f2 YB (Za 0) (fC (.int 2))) Zi)) [some (.int many),none,none] om=some (.ok (.nx,[some (.int many),some (.o om.length),none]),om++[Yn c (many+2:Nat) (om.length+1),.dt []]):=ZK (i:=1) ((ZI (Ze ((Zx (Zb rfl) Zr).trans rfl) Zj)).trans (newmap_ok (c:=c) (size:=(many+2:Nat)) om))
 have e2:=link_e (c:=c) (om:=om) (kvs:=[]) (n:=many+2) (a:=0) (b:=1) (sl:=[some (.int many),some (.o om.length),none]) rfl (fa:=fC (.int 0)) (fb:=fC (.int 1)) Zr Zr (by omega) (by omega) (by decide) (by simp)
 obtain ⟨sl',om',hfor,kvs,x,rfl,rfl,S⟩:=TX (T:=tgN 2) (S:=VV c) (n:=many) (fun m sl om'=>∃kvs x,sl=[some (.int many),some (.o om.length),x]∧om'=om++[Yn c (many+2:Nat) (om.length+1),.dt kvs]∧Star kvs m) (sl:=[some (.int many),some (.o om.length),none]) (om:=om++[Yn c (many+2:Nat) (om.length+1),.dt (XE [] 0 1)]) (fun m hmm sl om' ⟨kvs,x,h1,h2,S⟩=>by
  subst h1 h2
  have hl:=S.len
  have hl2:=VG kvs 0 (2+(m:Int))
  have hl3:=VG (XE kvs 0 (2+(m:Int))) 1 (2+(m:Int))
  have f1:=link_e (c:=c) (om:=om) (kvs:=kvs) (n:=many+2) (a:=0) (b:=2+(m:Int)) (sl:=[some (.int many),some (.o om.length),some (.int (m:Nat))]) rfl (fa:=fC (.int 0)) (fb:=f2 YB (fC (.int 2)) (Za 2)) Zr ((Zx Zr (Zb rfl)).trans rfl) (by omega) (by omega) (by omega) (by omega)
  have f2':=link_e (c:=c) (om:=om) (kvs:=XE kvs 0 (2+(m:Int))) (n:=many+2) (a:=1) (b:=2+(m:Int)) (sl:=[some (.int many),some (.o om.length),some (.int (m:Nat))]) rfl (fa:=fC (.int 1)) (fb:=f2 YB (fC (.int 2)) (Za 2)) Zr ((Zx Zr (Zb rfl)).trans rfl) (by omega) (by omega) (by omega) (by omega)
  refine ⟨_,.nx,_,_,rfl,(Zk f1).trans f2',.inl rfl,_,_,rfl,rfl,⟨?_,fun k hk=>?_,by omega⟩⟩
  ·rw[Wa,Wa,S.one]; simp
  ·rw[Wa,Wa]
   by_cases h:k=m
   ·subst h; simp
   ·rw[S.far k (by omega)]; simp) ⟨_,none,rfl,rfl,⟨by rw[Wa]; simp,fun k hk=>by omega,by have:=VG [] 0 1; simpa using this⟩⟩
 exact ⟨kvs,ZJ ((Zk e1).trans ((Zk e2).trans ((Zk (Va (sl1:=[]) (Tg rfl (by omega) _) hfor)).trans (Zy (Zb rfl))))),S⟩
abbrev VU (c:CA) (n:Nat) (kvs:List (List Key × Wv)) (us:List (Int × Int)):List Ob:=[Yn c n 1,.dt kvs,XW c 0 3,.dk (Y2 us)]
theorem post18 {n : Nat} {kvs : List (List Key × Wv)} {f : List (Option Int)} {j : Nat} {s : Int} {sl : Sl} {fa fs : FE} (hv : sl[4]? = some (some (.o 2))) (hf : at' f j = some s) (hj : j < n) (hn : n <= 60) (hs : 0 <= s ∧ s <= 7) (ha : fa sl (VU c n kvs (Yl 0 f j)) = some (.ok (.int (j : Nat)),VU c n kvs (Yl 0 f j))) (hb : fs sl (VU c n kvs (Yl 0 f j)) = some (.ok (.int s),VU c n kvs (Yl 0 f j))) :
    ZR (Zq c.Board "post" 3 (YM c) (Za 4) (Zc fa (Zc fs Zi))) sl (VU c n kvs (Yl 0 f j))=some (.ok (.nx,sl),VU c n kvs (Yl 0 f (j+1))):=by
  have hlim:=Z1
  have hul:=usOf_len 0 f j
  have hk:(Yl 0 f j).lookup (j:Int)=none:=by rw[Ri,if_neg (by omega)]
  have e:=post_in (c:=c) (om:=VU c n kvs (Yl 0 f j)) (hb:=2) (hm:=0) (hu:=3) (hl:=1) (size:=(n:Nat)) (us:=Yl 0 f j) (a:=(j:Nat)) (s:=s) rfl rfl rfl (by omega) hs hk (by omega)
  have eu:Yl 0 f (j+1)=Yl 0 f j++[((j:Int),s)]:=by
    rw[Rj,hf]
    dsimp only
    rw[show ((0:Nat):Int)+(j:Int)=j by omega]
  rw[← eu]at e
  exact Z4 ((Zw (Zb hv) (ZB rfl) (Yv _ _ _ (by decide) (by decide)) (Ze ha (Ze hb Zj)) rfl).trans e)
end
end MP
set_option maxHeartbeats 400000
namespace MP
open PySem L2
theorem modv_e {sl:Sl} {om:List Ob} {fa fb:FE} {a q:Int} (h:fa sl om=some (.ok (.int a),om)) (h2:fb sl om=some (.ok (.int q),om)) (hq:0 < q):f2 Vf fa fb sl om=some (.ok (.int (a % q)),om):=(Zx h h2).trans (by simp[kIc,L2.ret,hq])
def Tv (n push m j:Nat):Option Od:=if j=1 then some (.move 0) else if 2<=j∧j < 2+m then some (if j < 2+push then .help 1 0 else .help 0 0) else if j < n then some .stand else none
theorem tm18_succ (n push m:Nat):Tv n push (m+1)=fun j=>if j=2+m then some (if m < push then .help 1 0 else .help 0 0) else Tv n push m j:=by
 funext j
 unfold Tv
 by_cases h:j=2+m
 ·subst h
  rw[if_pos rfl,if_neg (by omega),if_pos (by omega)]
  by_cases hp:m < push
  ·rw[if_pos (by omega),if_pos hp]
  ·rw[if_neg (by omega),if_neg hp]
 ·rw[if_neg h]
  by_cases h1:j=1
  ·rw[if_pos h1,if_pos h1]
  ·rw[if_neg h1,if_neg h1]
   by_cases h2:2<=j∧j < 2+m
   ·rw[if_pos h2,if_pos (by omega)]
   ·rw[if_neg h2,if_neg (by omega)]
theorem tm18_all (many push hold:Nat) (h:push+hold<=many):Tv (many+2) push (push+hold)=at' (tL many push hold):=by
 funext j
 rw[VQ]
 unfold Tv tlO
 by_cases h1:j=1
 ·subst h1; rw[if_pos rfl,if_pos rfl,if_pos (by omega)]
 ·rw[if_neg h1,if_neg h1]
  by_cases h2:2<=j∧j < 2+(push+hold)
  ·rw[if_pos h2,if_pos (show j < many+2 by omega)]
   by_cases h3:j < 2+push
   ·rw[if_pos h3,if_pos ⟨h2.1,h3⟩]
   ·rw[if_neg h3,if_neg (by omega),if_pos h2]
  ·rw[if_neg h2]
   by_cases h4:j < many+2
   ·rw[if_pos h4,if_pos h4,if_neg (by omega),if_neg h2]
   ·rw[if_neg h4,if_neg h4]
section
variable {c:CA} {ns:List Int}
abbrev YH (ns:List Int) (many push hold:Nat) (x4 x5 x6 x7 x8:Option Wv):Sl:=[some (XX ns),some (.int many),some (.int push),some (.int hold),x4,x5,x6,x7,x8]
theorem aids18 {many push hold : Nat} {sd : Nat -> Int} {kvs : List (List Key × Wv)} (hm : many <= 40) (hp : push + hold <= many) (hs : ∀ k,0 <= sd k ∧ sd k <= 7) (S : Star kvs many) (x5 x6 : Option Wv) :
    ∃gs y,(∀S3:FS,ZE (ZR (Zq c.Orders "move" 3 (YS c) (Za 7) (Zc (fC (.int 1)) (Zc (fC (.int 0)) Zi)))) (ZE (Ve (fun sl=>bnd ((f2 YB (Za 2) (Za 3)) sl) XU) (tgN 6) (B2_law c)) S3) (YH ns many push hold (some (.o 2)) x5 x6 (some (.o 4)) none) (Vq c (many+2) kvs (Yl 0 (fL many sd) (many+2)) 0 [] [])=S3 (YH ns many push hold (some (.o 2)) x5 y (some (.o 4)) none) (Vq c (many+2) kvs (Yl 0 (fL many sd) (many+2)) 0 gs []))∧Sit c (Vq c (many+2) kvs (Yl 0 (fL many sd) (many+2)) 0 gs []) 4 2 0 3 1 5 (many+2) 0 (fL many sd) kvs gs (rL many) (tL many push hold):=by
  have hlim:=Z1
  have hfl:=XR many sd
  have W:∀g,Wd c (Vq c (many+2) kvs (Yl 0 (fL many sd) (many+2)) 0 g []) 2 0 3 1 (many+2) 0 (fL many sd) kvs:=fun g=>W08 hfl (by omega) (by omega) g []
  have O:∀g,Os c (Vq c (many+2) kvs (Yl 0 (fL many sd) (many+2)) 0 g []) 4 2 5 0 g:=fun g=>⟨rfl,rfl⟩
  have fa:∀j,j < many+2->at' (fL many sd) j=some (fsI sd j):=fun j hj=>by rw[U0,if_pos hj]
  have ins:∀g,XQ (Vq c (many+2) kvs (Yl 0 (fL many sd) (many+2)) 0 g []) (.o 4)=some (c.Orders,[(("board":Str),Wv.o 2),(("given":Str),Wv.o 5)]):=fun g=>rfl
  have tlt:∀m,m<=push+hold->∀k o,Tv (many+2) push m k=some o->k < many+2:=fun m hm' k o h=>by
    unfold Tv at h
    by_cases h1:k=1
    · omega
    · rw[if_neg h1]at h
      by_cases h2:2<=k∧k < 2+m
      · omega
      · rw[if_neg h2]at h
        by_cases h3:k < many+2
        · exact h3
        · rw[if_neg h3]at h; cases h
  have e1:=move_in (W []) (O []) (k:=1) (g:=0) (fa 1 (by omega)) (by rw[hfl]; omega) S.one (by simp)
  have t0:Tell [] (fun j=>if j < many+2 then some Od.stand else none):=Tell.start0 fun k o h=>by
    split at h
    · exact (Option.some.inj h).symm
    · cases h
  have t1:=t0.put 1 (.move 0)
  have et:(fun j=>if j=1 then some (Od.move 0) else if j < many+2 then some Od.stand else none)=Tv (many+2) push 0:=by
    funext j
    unfold Tv
    by_cases h1:j=1
    · rw[if_pos h1,if_pos h1]
    · rw[if_neg h1,if_neg h1,if_neg (show ¬ (2<=j∧j < 2+0) by omega)]
  have t1:Tell (Vp [] 1 (.move 0)) (Tv (many+2) push 0):=et ▸ t1
  have b1:ZR (Zq c.Orders "move" 3 (YS c) (Za 7) (Zc (fC (.int 1)) (Zc (fC (.int 0)) Zi))) (YH ns many push hold (some (.o 2)) x5 x6 (some (.o 4)) none) (Vq c (many+2) kvs (Yl 0 (fL many sd) (many+2)) 0 [] [])=some (.ok (.nx,YH ns many push hold (some (.o 2)) x5 x6 (some (.o 4)) none),Vq c (many+2) kvs (Yl 0 (fL many sd) (many+2)) 0 (Vp [] 1 (.move 0)) []):=Z4 ((Zw (Zb rfl) (ins []) (ZP _ _ _ (by decide) (by decide)) (Ze Zr (Ze Zr Zj)) rfl).trans e1)
  obtain ⟨sl',om',hfor,gs,y,rfl,rfl,t⟩:=TX (T:=tgN 6) (S:=B2_law c) (n:=push+hold) (fun m sl om'=>∃gs y,sl=YH ns many push hold (some (.o 2)) x5 y (some (.o 4)) none∧om'=Vq c (many+2) kvs (Yl 0 (fL many sd) (many+2)) 0 gs []∧Tell gs (Tv (many+2) push m)) (sl:=YH ns many push hold (some (.o 2)) x5 x6 (some (.o 4)) none) (om:=Vq c (many+2) kvs (Yl 0 (fL many sd) (many+2)) 0 (Vp [] 1 (.move 0)) []) (fun m hmm sl om' ⟨gs,y,h1,h2,t⟩=>by
    subst h1 h2
    have hl:gs.length<=many+2:=t.len (tlt m (by omega))
    have hc:(((0:Nat):Int)+((2+m:Nat):Int))=2+(m:Int):=by omega
    have hk:=S.far m (by omega)
    have t2:=t.put (2+m) (if m < push then .help 1 0 else .help 0 0)
    rw[← tm18_succ]at t2
    have cc:fB (f2 kLt (Za 6) (Za 2)) (YH ns many push hold (some (.o 2)) x5 (some (.int (m:Nat))) (some (.o 4)) none) (Vq c (many+2) kvs (Yl 0 (fL many sd) (many+2)) 0 gs [])=some (.ok (decide ((m:Int) < (push:Int))),Vq c (many+2) kvs (Yl 0 (fL many sd) (many+2)) 0 gs []):=Z2 ((v2 rfl rfl).trans rfl)
    by_cases hmp:m < push
    · rw[decide_eq_true (show (m:Int) < (push:Int) by omega)]at cc
      rw[if_pos hmp]at t2
      have e:=aid_in (W gs) (O gs) (k:=2+m) (h:=1) (g:=0) (fa (2+m) (by omega)) (fa 1 (by omega)) (by rw[hfl]; omega) (by omega) (by rw[hc]; exact hk) (.inr S.one) (by omega)
      rw[hc]at e
      exact ⟨_,.nx,_,_,rfl,(Y8 cc).trans (Z4 ((Zw (Zb rfl) (ins gs) (ZP _ _ _ (by decide) (by decide)) (Ze ((Zx Zr (Zb rfl)).trans rfl) (Ze Zr (Ze Zr Zj))) rfl).trans e)),.inl rfl,_,_,rfl,rfl,t2⟩
    · rw[decide_eq_false (show ¬ (m:Int) < (push:Int) by omega)]at cc
      rw[if_neg hmp]at t2
      have e:=aid_in (W gs) (O gs) (k:=2+m) (h:=0) (g:=0) (fa (2+m) (by omega)) (fa 0 (by omega)) (by rw[hfl]; omega) (by omega) (by rw[hc]; exact hk) (.inl rfl) (by omega)
      rw[hc]at e
      exact ⟨_,.nx,_,_,rfl,(sIf_f cc).trans (Z4 ((Zw (Zb rfl) (ins gs) (ZP _ _ _ (by decide) (by decide)) (Ze ((Zx Zr (Zb rfl)).trans rfl) (Ze Zr (Ze Zr Zj))) rfl).trans e)),.inl rfl,_,_,rfl,rfl,t2⟩) ⟨_,x6,rfl,rfl,t1⟩
  rw[tm18_all many push hold hp]at t
  refine ⟨gs,y,fun S3=>(Zk b1).trans (Zk (Va (sl1:=[]) ((Zs ((v2 rfl rfl).trans rfl)).trans ?_) hfor)),⟨W gs,O gs,given18 many push hold sd hm,t,fun k s h=>?_⟩⟩
  · have:=Xz (push+hold) (Vq c (many+2) kvs (Yl 0 (fL many sd) (many+2)) 0 (Vp [] 1 (.move 0)) []) (by omega)
    rw[← this]
    congr 2
  · rw[U0]at h
    split at h
    · have h:=Option.some.inj h
      unfold fsI at h
      split at h
      · omega
      · split at h
        · omega
        · rw[← h]; exact hs _
    · cases h
theorem asks18 {st : List Ob} {many push hold : Nat} {sd : Nat -> Int} {kvs : List (List Key × Wv)} {gs : Gs} (A : Sit c st 4 2 0 3 1 5 (many + 2) 0 (fL many sd) kvs gs (rL many) (tL many push hold)) (hm : many <= 40) (hp : push + hold <= many) (hs : ∀ k,0 <= sd k ∧ sd k <= 7) (x6 : Option Wv) :
    ∃sl',ZE (ZU 8 (f2 YB (fC (.int 1)) (fA Wo (Zc (Yh ZT [5] (fun sl=>bnd ((Za 2) sl) XU) (T8 c) (So c)) Zi))))
    (ZE (sIf (fOr (fB (f2 kNe (fA (kN 2 (g_force c)) (Zc (Za 7) (Zc (fC (.int 1)) Zi))) (f2 YB (fC (.int 1)) (Za 2)))) (fB (f2 kNe (fA (kN 3 (g_force_against c)) (Zc (Za 7) (Zc (fC (.int 1)) (Zc (fC (.int 1)) Zi)))) (Za 8)))) (Z9 (fC (.bl false))) YJ)
    (ZE (sIf (fOr (fB (f2 kNe (fA (kN 2 (g_firmness c)) (Zc (Za 7) (Zc (fC (.int 0)) Zi))) (f2 YB (fC (.int 1)) (Za 3)))) (Se (X5 (fA (kN 1 (g__law_whole c)) (Zc (fA (kN 2 (g_firmness c)) (Zc (Za 7) (Zc (fC (.int 0)) Zi))) Zi))))) (Z9 (fC (.bl false))) YJ)
    (ZE (sIf (fB (f2 kGt (Za 8) (f2 YB (fC (.int 1)) (Za 3)))) (Z9 (Y3 (f2 kEq (fA (kN 1 (g_settled c)) (Zc (Za 7) Zi)) (fA ZT (Zc (fC (.int 1)) Zi))) (f2 kEq (fA (kN 1 (Yx c)) (Zc (Za 7) Zi)) (fA ZT Zi)))) YJ)
    (Z9 (Y3 (f2 kEq (fA (kN 1 (g_settled c)) (Zc (Za 7) Zi)) (fA ZT Zi)) (f2 kEq (fA (kN 1 (Yx c)) (Zc (Za 7) Zi)) (fA ZT (Zc (fA Wz (Zc (fC (.int 1)) (Zc (fC (.int 1)) (Zc (fC (.int 3)) Zi)))) Zi))))))))
    (YH ns many push hold (some (.o 2)) (some (.lst ((List.range many).map fun k=>Wv.int (sd k)))) x6 (some (.o 4)) none) st=some (.ok (.rt (.bl true),sl'),st):=by
  have hlim:=Z1
  generalize hN:cnt (fun k=>!decide (sd k=1)) push=N
  have hNl:N<=push:=by rw[← hN]; exact cnt_le _ _
  have b1:ZU 8 (f2 YB (fC (.int 1)) (fA Wo (Zc (Yh ZT [5] (fun sl=>bnd ((Za 2) sl) XU) (T8 c) (So c)) Zi))) (YH ns many push hold (some (.o 2)) (some (.lst ((List.range many).map fun k=>Wv.int (sd k)))) x6 (some (.o 4)) none) st=some (.ok (.nx,YH ns many push hold (some (.o 2)) (some (.lst ((List.range many).map fun k=>Wv.int (sd k)))) x6 (some (.o 4)) (some (.int (1+(N:Int))))),st):=by
    have cr:=Pk (cT:=T8 c) (f:=So c) (mk:=fun w=>YR [5] w (YH ns many push hold (some (.o 2)) (some (.lst ((List.range many).map fun k=>Wv.int (sd k)))) x6 (some (.o 4)) none)) (om:=st) (n:=push) (fun k=>!decide (sd k=1)) (fun k=>Wv.int (k:Int)) (fun k hk=>by
      refine Z2 ((Zx ((v2 rfl rfl).trans (Ys (k:=k) (xs:=(List.range many).map fun k=>Wv.int (sd k)) (v:=.int (sd k)) rfl ?_)) Zr).trans (Xd _ _ _))
      rw[List.getElem?_map,List.getElem?_range (by omega)]
      rfl) (fun k hk _=>Zb rfl)
    have e:Yh ZT [5] (fun sl=>bnd ((Za 2) sl) XU) (T8 c) (So c) (YH ns many push hold (some (.o 2)) (some (.lst ((List.range many).map fun k=>Wv.int (sd k)))) x6 (some (.o 4)) none) st=some (.ok (.lst (((List.range push).filter fun k=>!decide (sd k=1)).map fun (k:Nat)=>Wv.int (k:Int))),st):=(WZ (ws:=Vd push) (om1:=st) (Tg rfl (by omega) _) (by rw[Pt]; omega) cr).trans (Xu (by rw[List.length_map]; have:=cnt_le (fun k=>!decide (sd k=1)) push; unfold cnt at this; omega))
    refine ZK (i:=8) ((Zx Zr ((ZI (Ze e Zj)).trans (Sv rfl))).trans ?_)
    rw[List.length_map,← hN]
    rfl
  have mv:=(Q1 many push hold 0 1).mpr ⟨rfl,rfl⟩
  have h0:at' (tL many push hold) 0=some .stand:=by rw[VQ,if_pos (by omega)]; rfl
  have g1:=force_in A.W A.S A.G A.t A.s7 mv
  have g2:=Sw A.W A.S A.G A.t mv 1
  have g3:=UO A.W A.S A.G A.t A.s7 h0
  rw[force1 many push hold sd hp]at g1 g2
  rw[firm0 many push hold sd hp (fun k=>(hs k).1)]at g3
  rw[hN]at g2
  have hall:cnt (fun k=>!decide (sd k=-1)) push=push:=by
    have:cnt (fun k=>!decide (sd k=-1)) push=cnt (fun _=>true) push:=Ui fun k _=>by
      have:=(hs k).1
      rw[decide_eq_false (by omega)]
      rfl
    rw[this]
    unfold cnt
    rw[List.filter_eq_self.mpr (fun _ _=>rfl),List.length_range]
  rw[hall]at g1
  generalize hsl:YH ns many push hold (some (.o 2)) (some (.lst ((List.range many).map fun k=>Wv.int (sd k)))) x6 (some (.o 4)) (some (.int (1+(N:Int))))=sl at b1
  have v7:sl[7]?=some (some (.o 4)):=by rw[← hsl]; rfl
  have v2':sl[2]?=some (some (.int (push:Nat))):=by rw[← hsl]; rfl
  have v3:sl[3]?=some (some (.int (hold:Nat))):=by rw[← hsl]; rfl
  have v8:sl[8]?=some (some (.int (1+(N:Int)))):=by rw[← hsl]; rfl
  have c1:fB (f2 kNe (fA (kN 2 (g_force c)) (Zc (Za 7) (Zc (fC (.int 1)) Zi))) (f2 YB (fC (.int 1)) (Za 2))) sl st=some (.ok false,st):=Z2 ((Zx ((ZI (Ze (Zb v7) (Ze Zr Zj))).trans ((Yz rfl).trans g1)) ((Zx Zr (Zb v2')).trans rfl)).trans ((Xd _ _ _).trans (by simp)))
  have c2:fB (f2 kNe (fA (kN 3 (g_force_against c)) (Zc (Za 7) (Zc (fC (.int 1)) (Zc (fC (.int 1)) Zi)))) (Za 8)) sl st=some (.ok false,st):=Z2 ((Zx ((ZI (Ze (Zb v7) (Ze Zr (Ze Zr Zj)))).trans ((Yz rfl).trans g2)) (Zb v8)).trans ((Xd _ _ _).trans (by simp)))
  have fm:fA (kN 2 (g_firmness c)) (Zc (Za 7) (Zc (fC (.int 0)) Zi)) sl st=some (.ok (.int (1+(hold:Int))),st):=(ZI (Ze (Zb v7) (Ze Zr Zj))).trans ((Yz rfl).trans g3)
  have c3:fB (f2 kNe (fA (kN 2 (g_firmness c)) (Zc (Za 7) (Zc (fC (.int 0)) Zi))) (f2 YB (fC (.int 1)) (Za 3))) sl st=some (.ok false,st):=Z2 ((Zx fm ((Zx Zr (Zb v3)).trans rfl)).trans ((Xd _ _ _).trans (by simp)))
  have c4:Se (X5 (fA (kN 1 (g__law_whole c)) (Zc (fA (kN 2 (g_firmness c)) (Zc (Za 7) (Zc (fC (.int 0)) Zi))) Zi))) sl st=some (.ok false,st):=fNot_ok (b:=true) (W8 ((ZI (Ze fm Zj)).trans ((Yz rfl).trans (whole_ok c _ _))))
  have c5:fB (f2 kGt (Za 8) (f2 YB (fC (.int 1)) (Za 3))) sl st=some (.ok (decide (1+(N:Int) > 1+(hold:Int))),st):=Z2 ((Zx (Zb v8) ((Zx Zr (Zb v3)).trans rfl)).trans rfl)
  have hh:=hind18 many push hold sd hp (fun k=>(hs k).1)
  rw[hN]at hh
  have s1:=settled_in A
  have s2:=SZ A
  have q1:fA (kN 1 (g_settled c)) (Zc (Za 7) Zi) sl st=_:=(ZI (Ze (Zb v7) Zj)).trans ((Yz rfl).trans s1)
  have q2:fA (kN 1 (Yx c)) (Zc (Za 7) Zi) sl st=_:=(ZI (Ze (Zb v7) Zj)).trans ((Yz rfl).trans s2)
  by_cases hw:(hold:Int) < (N:Int)
  · rw[if_pos hw]at hh
    obtain ⟨w1,w2⟩:=won18 many push hold sd hh
    rw[w1]at q2
    rw[w2]at q1
    rw[decide_eq_true (show 1+(N:Int) > 1+(hold:Int) by omega)]at c5
    refine ⟨sl,(Zk b1).trans ((Zk (ZY ((RP c1).trans c2))).trans ((Zk (ZY ((RP c3).trans c4))).trans (Yr ((Y8 c5).trans (Zy ?_)))))⟩
    exact (VY ((Zx q1 ((ZI (Ze Zr Zj)).trans (Wr (by simp)))).trans (QC (py_l st [1]) (py_l st [1]) (SS [1]) false))).trans ((Zx q2 ((ZI Zj).trans (Wr (by simp)))).trans (eq_r3n 0 [] st))
  · rw[if_neg hw]at hh
    obtain ⟨w1,w2⟩:=lost18 many push hold sd hh
    rw[w1]at q2
    rw[w2]at q1
    rw[decide_eq_false (show ¬ 1+(N:Int) > 1+(hold:Int) by omega)]at c5
    have p3:YT st (.lst [.tup [.int 1,.int 1,.int 3]])=some (.list [r3P 0 (1,1,3)]):=rfl
    refine ⟨sl,(Zk b1).trans ((Zk (ZY ((RP c1).trans c2))).trans ((Zk (ZY ((RP c3).trans c4))).trans ((Zk (ZY c5)).trans (Zy ?_))))⟩
    exact (VY ((Zx q1 ((ZI Zj).trans (Wr (by simp)))).trans (QC (py_l st []) (py_l st []) (SS []) false))).trans ((Zx q2 ((ZI (Ze ((ZI (Ze Zr (Ze Zr (Ze Zr Zj)))).trans (by unfold Wz; rw[if_pos (by simp; omega)]; rfl)) Zj)).trans (Wr (by simp)))).trans (QC p3 p3 (RV 0 [(1,1,3)]) false))
end
theorem law_true (c:CA) (ns:List Int):∃om,g_law c [XX ns] []=some (.ok (.bl true),om):=by
  have hlim:=Z1
  obtain ⟨many,hm,hm40⟩:∃many:Nat,ns.getD 0 0 % 41=many∧many<=40:=⟨(ns.getD 0 0 % 41).toNat,by omega,by omega⟩
  obtain ⟨push,hpu,hpm⟩:∃push:Nat,ns.getD 1 0 % ((many:Int)+1)=push∧push<=many:=by
    have h1:=Int.emod_nonneg (ns.getD 1 0) (show (many:Int)+1≠0 by omega)
    have h2:=Int.emod_lt_of_pos (ns.getD 1 0) (show 0 < (many:Int)+1 by omega)
    exact ⟨(ns.getD 1 0 % ((many:Int)+1)).toNat,by omega,by omega⟩
  obtain ⟨hd0,hh0,hhm⟩:∃hold:Nat,ns.getD 2 0 % ((many:Int)+1 - push)=hold∧push+hold<=many:=by
    have h1:=Int.emod_nonneg (ns.getD 2 0) (show (many:Int)+1 - push≠0 by omega)
    have h2:=Int.emod_lt_of_pos (ns.getD 2 0) (show 0 < (many:Int)+1 - push by omega)
    exact ⟨(ns.getD 2 0 % ((many:Int)+1 - push)).toNat,by omega,by omega⟩
  have a1:ZU 1 (f2 Vf (fA (kN 2 (g__law_cell_at c)) (Zc (Za 0) (Zc (fC (.int 0)) Zi))) (fC (.int 41))) [some (XX ns),none,none,none,none,none,none,none,none] []=some (.ok (.nx,[some (XX ns),some (.int many),none,none,none,none,none,none,none]),[]):=by
    have:=mod_e (om:=[]) (q:=41) (Ut c (om:=[]) (ns:=ns) (k:=0) (i:=0) (sl:=[some (XX ns),none,none,none,none,none,none,none,none]) (fe:=fC (.int 0)) rfl Zr) (by decide)
    rw[hm]at this
    exact ZK (i:=1) this
  have a2:ZU 2 (f2 Vf (fA (kN 2 (g__law_cell_at c)) (Zc (Za 0) (Zc (fC (.int 1)) Zi))) (f2 YB (Za 1) (fC (.int 1)))) [some (XX ns),some (.int many),none,none,none,none,none,none,none] []=some (.ok (.nx,[some (XX ns),some (.int many),some (.int push),none,none,none,none,none,none]),[]):=by
    have:=modv_e (om:=[]) (q:=(many:Int)+1) (fb:=f2 YB (Za 1) (fC (.int 1))) (Ut c (om:=[]) (ns:=ns) (k:=1) (i:=0) (sl:=[some (XX ns),some (.int many),none,none,none,none,none,none,none]) (fe:=fC (.int 1)) rfl Zr) ((Zx (Zb rfl) Zr).trans rfl) (by omega)
    rw[hpu]at this
    exact ZK (i:=2) this
  have a3:ZU 3 (f2 Vf (fA (kN 2 (g__law_cell_at c)) (Zc (Za 0) (Zc (fC (.int 2)) Zi))) (f2 T9 (f2 YB (Za 1) (fC (.int 1))) (Za 2))) [some (XX ns),some (.int many),some (.int push),none,none,none,none,none,none] []=some (.ok (.nx,YH ns many push hd0 none none none none none),[]):=by
    have:=modv_e (om:=[]) (q:=(many:Int)+1 - push) (fb:=f2 T9 (f2 YB (Za 1) (fC (.int 1))) (Za 2)) (Ut c (om:=[]) (ns:=ns) (k:=2) (i:=0) (sl:=[some (XX ns),some (.int many),some (.int push),none,none,none,none,none,none]) (fe:=fC (.int 2)) rfl Zr) ((Zx ((Zx (Zb rfl) Zr).trans rfl) (Zb rfl)).trans rfl) (by omega)
    rw[hh0]at this
    exact ZK (i:=3) this
  have a4:∃hold:Nat,push+hold<=many∧sIf (fB (f2 kEq (f2 Vf (fA (kN 2 (g__law_cell_at c)) (Zc (Za 0) (Zc (fC (.int 3)) Zi))) (fC (.int 2))) (fC (.int 1)))) (ZU 3 (fA Q5 (Zc (f2 T9 (Za 1) (Za 2)) (Zc (fA RM (Zc (fC (.int 0)) (Zc (f2 T9 (Za 2) (f2 Vf (f2 kDiv (fA (kN 2 (g__law_cell_at c)) (Zc (Za 0) (Zc (fC (.int 3)) Zi))) (fC (.int 2))) (fC (.int 2)))) Zi))) Zi)))) YJ (YH ns many push hd0 none none none none none) []=some (.ok (.nx,YH ns many push hold none none none none none),[]):=by
    have cl:=Ut c (om:=[]) (ns:=ns) (k:=3) (i:=0) (sl:=YH ns many push hd0 none none none none none) (fe:=fC (.int 3)) rfl Zr
    have cc:=Z2 ((Zx (mod_e (om:=[]) (q:=2) cl (by decide)) Zr).trans (Xp _ 1 _))
    by_cases hz:ns.getD 3 0 % 2=1
    · rw[decide_eq_true hz]at cc
      have dv:=mod_e (om:=[]) (q:=2) (div_e (om:=[]) (q:=2) cl (by decide)) (by decide)
      generalize ns.getD 3 0 / 2 % 2=z at dv
      generalize hx:(if (push:Int) - z > 0 then (push:Int) - z else 0)=x
      have hx0:0<=x:=by rw[← hx]; split <;> omega
      generalize hy:(if x < (many:Int) - push then x else (many:Int) - push)=y
      have hy0:0<=y∧y<=(many:Int) - push:=by rw[← hy]; split <;> omega
      refine ⟨y.toNat,by omega,(Y8 cc).trans ?_⟩
      have ex:fA RM (Zc (fC (.int 0)) (Zc (f2 T9 (Za 2) (f2 Vf (f2 kDiv (fA (kN 2 (g__law_cell_at c)) (Zc (Za 0) (Zc (fC (.int 3)) Zi))) (fC (.int 2))) (fC (.int 2)))) Zi)) (YH ns many push hd0 none none none none none) []=some (.ok (.int x),[]):=by
        rw[← hx]
        exact (ZI (Ze Zr (Ze ((Zx (Zb rfl) dv).trans rfl) Zj))).trans rfl
      have ey:fA Q5 (Zc (f2 T9 (Za 1) (Za 2)) (Zc (fA RM (Zc (fC (.int 0)) (Zc (f2 T9 (Za 2) (f2 Vf (f2 kDiv (fA (kN 2 (g__law_cell_at c)) (Zc (Za 0) (Zc (fC (.int 3)) Zi))) (fC (.int 2))) (fC (.int 2)))) Zi))) Zi)) (YH ns many push hd0 none none none none none) []=some (.ok (.int y),[]):=by
        rw[← hy]
        exact (ZI (Ze ((v2 rfl rfl).trans rfl) (Ze ex Zj))).trans rfl
      have:=ZK (i:=3) ey
      rw[show y=((y.toNat:Nat):Int) by omega]at this
      exact this
    · rw[decide_eq_false hz]at cc
      exact ⟨hd0,hhm,ZY cc⟩
  obtain ⟨hold,hph,a4⟩:=a4
  obtain ⟨kvs,es,S⟩:=star_in (c:=c) hm40 []
  generalize hsd:(fun k:Nat=>(ns.getD 4 0+(k:Int) * ns.getD 5 0) % 3)=sd
  have hs:∀k,0<=sd k∧sd k<=7:=fun k=>by rw[← hsd]; dsimp only; omega
  have fa:∀j,j < many+2->at' (fL many sd) j=some (fsI sd j):=fun j hj=>by rw[U0,if_pos hj]
  have a5:ZU 4 (fA (XC c.Board 2 (Y6 c)) (Zc (fA (kN 1 (g__law_star c)) (Zc (Za 1) Zi)) Zi)) (YH ns many push hold none none none none none) []=some (.ok (.nx,YH ns many push hold (some (.o 2)) none none none none),VU c (many+2) kvs (Yl 0 (fL many sd) 0)):=ZK (i:=4) ((ZI (Ze ((ZI (Ze (Zb rfl) Zj)).trans ((Yz rfl).trans es)) Zj)).trans (QV (c:=c) _ 0))
  have a6:=post18 (c:=c) (n:=many+2) (kvs:=kvs) (f:=fL many sd) (j:=0) (s:=1) (sl:=YH ns many push hold (some (.o 2)) none none none none) (fa:=fC (.int 0)) (fs:=fC (.int 1)) rfl (fa 0 (by omega)) (by omega) (by omega) (by decide) Zr Zr
  have a7:=post18 (c:=c) (n:=many+2) (kvs:=kvs) (f:=fL many sd) (j:=1) (s:=0) (sl:=YH ns many push hold (some (.o 2)) none none none none) (fa:=fC (.int 1)) (fs:=fC (.int 0)) rfl (fa 1 (by omega)) (by omega) (by omega) (by decide) Zr Zr
  have a8:ZU 5 (Yh ZT [0] (fun sl=>bnd ((Za 1) sl) XU) WP (E1_law c)) (YH ns many push hold (some (.o 2)) none none none none) (VU c (many+2) kvs (Yl 0 (fL many sd) (1+1)))=some (.ok (.nx,YH ns many push hold (some (.o 2)) (some (.lst ((List.range many).map fun k=>Wv.int (sd k)))) none none none),VU c (many+2) kvs (Yl 0 (fL many sd) (1+1))):=by
    generalize VU c (many+2) kvs (Yl 0 (fL many sd) (1+1))=st
    have cr:=Pk (cT:=WP) (f:=E1_law c) (mk:=fun w=>YR [0] w (YH ns many push hold (some (.o 2)) none none none none)) (om:=st) (n:=many) (fun _=>true) (fun k=>Wv.int (sd k)) (fun k hk=>rfl) (fun k hk _=>by
      have e4:=Ut c (om:=st) (ns:=ns) (k:=4) (i:=1) (sl:=YR [0] (.int (k:Nat)) (YH ns many push hold (some (.o 2)) none none none none)) (fe:=fC (.int 4)) rfl Zr
      have e5:=Ut c (om:=st) (ns:=ns) (k:=5) (i:=1) (sl:=YR [0] (.int (k:Nat)) (YH ns many push hold (some (.o 2)) none none none none)) (fe:=fC (.int 5)) rfl Zr
      have hd:decide (-(2 ^ 64) < (k:Int)∧(k:Int) < 2 ^ 64∨-(2 ^ 64) < ns.getD 5 0∧ns.getD 5 0 < 2 ^ 64)=true:=decide_eq_true (.inl ⟨by omega,by omega⟩)
      have m5:f2 kMul (Za 0) (fA (kN 2 (g__law_cell_at c)) (Zc (Za 1) (Zc (fC (.int 5)) Zi))) (YR [0] (.int (k:Nat)) (YH ns many push hold (some (.o 2)) none none none none)) st=some (.ok (.int ((k:Int) * ns.getD 5 0)),st):=(Zx (Zb rfl) e5).trans (by simp only[kIc]; rw[if_pos hd]; rfl)
      have m6:f2 YB (fA (kN 2 (g__law_cell_at c)) (Zc (Za 1) (Zc (fC (.int 4)) Zi))) (f2 kMul (Za 0) (fA (kN 2 (g__law_cell_at c)) (Zc (Za 1) (Zc (fC (.int 5)) Zi)))) (YR [0] (.int (k:Nat)) (YH ns many push hold (some (.o 2)) none none none none)) st=some (.ok (.int (ns.getD 4 0+(k:Int) * ns.getD 5 0)),st):=(Zx e4 m5).trans (by simp[kI,L2.ret])
      rw[← hsd]
      exact mod_e (om:=st) (q:=3) m6 (by decide))
    refine ZK (i:=5) ((WZ (ws:=Vd many) (om1:=st) (Tg rfl (by omega) _) (by rw[Pt]; omega) cr).trans ?_)
    rw[List.filter_eq_self.mpr (fun _ _=>rfl)]
    exact Xu (by rw[List.length_map,List.length_range]; omega)
  obtain ⟨sl',om',hfor,y6,rfl,rfl⟩:=TX (T:=tgN 6) (S:=B1_law c) (n:=many) (fun m sl om'=>∃y,sl=YH ns many push hold (some (.o 2)) (some (.lst ((List.range many).map fun k=>Wv.int (sd k)))) y none none∧om'=VU c (many+2) kvs (Yl 0 (fL many sd) (m+2))) (sl:=YH ns many push hold (some (.o 2)) (some (.lst ((List.range many).map fun k=>Wv.int (sd k)))) none none none) (om:=VU c (many+2) kvs (Yl 0 (fL many sd) (1+1))) (fun m hmm sl om' ⟨y,h1,h2⟩=>by
    subst h1 h2
    have hf:at' (fL many sd) (m+2)=some (sd m):=by rw[fa (m+2) (by omega)]; unfold fsI; rw[if_neg (by omega),if_neg (by omega),show m+2 - 2=m by omega]
    have p:=post18 (c:=c) (n:=many + 2) (kvs:=kvs) (f:=fL many sd) (j:=m + 2) (s:=sd m) (sl:=YH ns many push hold (some (.o 2)) (some (.lst ((List.range many).map fun k => Wv.int (sd k)))) (some (.int (m : Nat))) none none) (fa:=f2 YB (fC (.int 2)) (Za 6)) (fs:=f2 kIx (Za 5) (Za 6)) rfl hf (by omega) (by omega) (hs m) ((Zx Zr (Zb rfl)).trans (by
        show some (Except.ok (Wv.int (2+(m:Int))),_)=_
        rw[show (2+(m:Int))=((m+2:Nat):Int) by omega])) ((v2 rfl rfl).trans (Ys (k:=m) (xs:=(List.range many).map fun k=>Wv.int (sd k)) (v:=.int (sd m)) rfl (by
        rw[List.getElem?_map,List.getElem?_range hmm]
        rfl)))
    exact ⟨_,.nx,_,_,rfl,p,.inl rfl,_,rfl,by rw[show m+2+1=m+1+2 by omega]⟩) ⟨none,rfl,rfl⟩
  have a10:ZU 7 (fA (XC c.Orders 2 (YV c)) (Zc (Za 4) Zi)) (YH ns many push hold (some (.o 2)) (some (.lst ((List.range many).map fun k=>Wv.int (sd k)))) y6 none none) (VU c (many+2) kvs (Yl 0 (fL many sd) (many+2)))=some (.ok (.nx,YH ns many push hold (some (.o 2)) (some (.lst ((List.range many).map fun k=>Wv.int (sd k)))) y6 (some (.o 4)) none),Vq c (many+2) kvs (Yl 0 (fL many sd) (many+2)) 0 [] []):=ZK (i:=7) ((ZI (Ze (Zb rfl) Zj)).trans (Qk c _ 2))
  obtain ⟨gs,y7,a11,A⟩:=aids18 (c:=c) (ns:=ns) hm40 hph hs S (some (.lst ((List.range many).map fun k=>Wv.int (sd k)))) y6
  obtain ⟨sl2,er⟩:=asks18 (ns:=ns) A hm40 hph hs y7
  refine ⟨_,ZJ ((Zk a1).trans ((Zk a2).trans ((Zk a3).trans ((Zk a4).trans ((Zk a5).trans ((Zk a6).trans ((Zk a7).trans ((Zk a8).trans ((Zk (Va (sl1:=[]) (Tg rfl (by omega) _) hfor)).trans ((Zk a10).trans ((a11 _).trans er)))))))))))⟩
end MP
namespace MP
open PySem L2 PyProof.Rows
theorem boot_int:bootBuiltins "int"=some (.type "int"):=by decide +kernel
theorem boot_bool:bootBuiltins "bool"=some (.type "bool"):=by decide +kernel
theorem QY:bootBuiltins "any"=some (.builtin "any"):=by decide +kernel
theorem boot_min:bootBuiltins "min"=some (.builtin "min"):=by decide +kernel
theorem boot_max:bootBuiltins "max"=some (.builtin "max"):=by decide +kernel
theorem sc_0:FnScope ["script","k"] ["script","k"] (Zg st_0):=⟨rfl,rfl,rfl,by decide +kernel,rfl,by decide +kernel,by decide +kernel⟩
theorem sc_1:FnScope ["self","size"] ["self","size"] (Zg st_1):=⟨rfl,rfl,rfl,by decide +kernel,rfl,by decide +kernel,by decide +kernel⟩
theorem sc_2:FnScope ["self","at"] ["self","at"] (Zg st_2):=⟨rfl,rfl,rfl,by decide +kernel,rfl,by decide +kernel,by decide +kernel⟩
theorem sc_3:FnScope ["self","a","b"] ["self","a","b"] (Zg st_3):=⟨rfl,rfl,rfl,by decide +kernel,rfl,by decide +kernel,by decide +kernel⟩
theorem sc_4:FnScope ["many","chart","k"] ["many"] (Zg st_4):=⟨rfl,rfl,rfl,by decide +kernel,rfl,by decide +kernel,by decide +kernel⟩
theorem sc_5:FnScope ["self","chart"] ["self","chart"] (Zg st_5):=⟨rfl,rfl,rfl,by decide +kernel,rfl,by decide +kernel,by decide +kernel⟩
theorem sc_6:FnScope ["self","at","side"] ["self","at","side"] (Zg st_6):=⟨rfl,rfl,rfl,by decide +kernel,rfl,by decide +kernel,by decide +kernel⟩
theorem sc_7:FnScope ["self","board"] ["self","board"] (Zg st_7):=⟨rfl,rfl,rfl,by decide +kernel,rfl,by decide +kernel,by decide +kernel⟩
theorem sc_8:FnScope ["self","at"] ["self","at"] (Zg st_8):=⟨rfl,rfl,rfl,by decide +kernel,rfl,by decide +kernel,by decide +kernel⟩
theorem sc_9:FnScope ["self","at"] ["self","at"] (Zg st_9):=⟨rfl,rfl,rfl,by decide +kernel,rfl,by decide +kernel,by decide +kernel⟩
theorem sc_10:FnScope ["self","places","units","at"] ["self","places","units"] (Zg S4):=⟨rfl,rfl,rfl,by decide +kernel,rfl,by decide +kernel,by decide +kernel⟩
theorem sc_11:FnScope ["self","a","b"] ["self","a","b"] (Zg Rx):=⟨rfl,rfl,rfl,by decide +kernel,rfl,by decide +kernel,by decide +kernel⟩
theorem sc_12:FnScope ["self","at","goal"] ["self","at","goal"] (Zg RE):=⟨rfl,rfl,rfl,by decide +kernel,rfl,by decide +kernel,by decide +kernel⟩
theorem sc_13:FnScope ["self","at","goal"] ["self","at","goal"] (Zg Ru):=⟨rfl,rfl,rfl,by decide +kernel,rfl,by decide +kernel,by decide +kernel⟩
theorem sc_14:FnScope ["self","at","helped","goal"] ["self","at","helped","goal"] (Zg SW):=⟨rfl,rfl,rfl,by decide +kernel,rfl,by decide +kernel,by decide +kernel⟩
theorem sc_15:FnScope ["self","at","order"] ["self","at"] (Zg RO):=⟨rfl,rfl,rfl,by decide +kernel,rfl,by decide +kernel,by decide +kernel⟩
theorem sc_16:FnScope ["self"] ["self"] (Zg Rp):=⟨rfl,rfl,rfl,by decide +kernel,rfl,by decide +kernel,by decide +kernel⟩
theorem sc_17:FnScope ["self","at"] ["self","at"] (Zg Rc):=⟨rfl,rfl,rfl,by decide +kernel,rfl,by decide +kernel,by decide +kernel⟩
theorem sc_18:FnScope ["self"] ["self"] (Zg SN):=⟨rfl,rfl,rfl,by decide +kernel,rfl,by decide +kernel,by decide +kernel⟩
theorem sc_19:FnScope ["orders","at","order","own","comers"] ["orders","at"] (Zg SQ):=⟨rfl,rfl,rfl,by decide +kernel,rfl,by decide +kernel,by decide +kernel⟩
theorem sc_20:FnScope ["orders","helped","goal"] ["orders","helped","goal"] (Zg SV):=⟨rfl,rfl,rfl,by decide +kernel,rfl,by decide +kernel,by decide +kernel⟩
theorem sc_21:FnScope ["orders","at","order"] ["orders","at"] (Zg RT):=⟨rfl,rfl,rfl,by decide +kernel,rfl,by decide +kernel,by decide +kernel⟩
theorem sc_22:FnScope ["orders","helper","at","order"] ["orders","helper","at"] (Zg SR):=⟨rfl,rfl,rfl,by decide +kernel,rfl,by decide +kernel,by decide +kernel⟩
theorem sc_23:FnScope ["orders","at"] ["orders","at"] (Zg RF):=⟨rfl,rfl,rfl,by decide +kernel,rfl,by decide +kernel,by decide +kernel⟩
theorem sc_24:FnScope ["orders","at","side"] ["orders","at","side"] (Zg Rz):=⟨rfl,rfl,rfl,by decide +kernel,rfl,by decide +kernel,by decide +kernel⟩
theorem sc_25:FnScope ["orders","at"] ["orders","at"] (Zg Rb):=⟨rfl,rfl,rfl,by decide +kernel,rfl,by decide +kernel,by decide +kernel⟩
theorem sc_26:FnScope ["orders","at"] ["orders","at"] (Zg S6):=⟨rfl,rfl,rfl,by decide +kernel,rfl,by decide +kernel,by decide +kernel⟩
theorem sc_27:FnScope ["found"] ["found"] (Zg SX):=⟨rfl,rfl,rfl,by decide +kernel,rfl,by decide +kernel,by decide +kernel⟩
theorem sc_28:FnScope ["orders","forces","at"] ["orders"] (Zg Rh):=⟨rfl,rfl,rfl,by decide +kernel,rfl,by decide +kernel,by decide +kernel⟩
theorem sc_29:FnScope ["orders","forces","at","goal","rivals"] ["orders","forces","at"] (Zg RA):=⟨rfl,rfl,rfl,by decide +kernel,rfl,by decide +kernel,by decide +kernel⟩
theorem sc_30:FnScope ["orders","at","goal","strength","side"] ["orders","at","goal","strength"] (Zg Ro):=⟨rfl,rfl,rfl,by decide +kernel,rfl,by decide +kernel,by decide +kernel⟩
theorem sc_31:FnScope ["orders","forces","at","goal"] ["orders","forces","at"] (Zg Ra):=⟨rfl,rfl,rfl,by decide +kernel,rfl,by decide +kernel,by decide +kernel⟩
theorem sc_32:FnScope ["orders","forces","found","at"] ["orders"] (Zg SK):=⟨rfl,rfl,rfl,by decide +kernel,rfl,by decide +kernel,by decide +kernel⟩
theorem sc_33:FnScope ["orders","found","at","places"] ["orders","found","at","places"] (Zg RG):=⟨rfl,rfl,rfl,by decide +kernel,rfl,by decide +kernel,by decide +kernel⟩
theorem sc_34:FnScope ["orders","found","left","struck","count","faults","fallen"] ["orders"] (Zg SO):=⟨rfl,rfl,rfl,by decide +kernel,rfl,by decide +kernel,by decide +kernel⟩
theorem sc_35:FnScope ["orders","struck"] ["orders"] (Zg Rw):=⟨rfl,rfl,rfl,by decide +kernel,rfl,by decide +kernel,by decide +kernel⟩
theorem sc_36:FnScope ["script","many","pushing","holding","board","sides","k","orders","against"] ["script"] (Zg Rg):=⟨rfl,rfl,rfl,by decide +kernel,rfl,by decide +kernel,by decide +kernel⟩
structure Ad where
 f_0:Addr
 d_0:FuncData
 f_1:Addr
 d_1:FuncData
 f_2:Addr
 d_2:FuncData
 f_3:Addr
 d_3:FuncData
 f_4:Addr
 d_4:FuncData
 f_5:Addr
 d_5:FuncData
 f_6:Addr
 d_6:FuncData
 f_7:Addr
 d_7:FuncData
 f_8:Addr
 d_8:FuncData
 f_9:Addr
 d_9:FuncData
 f_10:Addr
 d_10:FuncData
 f_11:Addr
 d_11:FuncData
 f_12:Addr
 d_12:FuncData
 f_13:Addr
 d_13:FuncData
 f_14:Addr
 d_14:FuncData
 f_15:Addr
 d_15:FuncData
 f_16:Addr
 d_16:FuncData
 f_17:Addr
 d_17:FuncData
 f_18:Addr
 d_18:FuncData
 f_19:Addr
 d_19:FuncData
 f_20:Addr
 d_20:FuncData
 f_21:Addr
 d_21:FuncData
 f_22:Addr
 d_22:FuncData
 f_23:Addr
 d_23:FuncData
 f_24:Addr
 d_24:FuncData
 f_25:Addr
 d_25:FuncData
 f_26:Addr
 d_26:FuncData
 f_27:Addr
 d_27:FuncData
 f_28:Addr
 d_28:FuncData
 f_29:Addr
 d_29:FuncData
 f_30:Addr
 d_30:FuncData
 f_31:Addr
 d_31:FuncData
 f_32:Addr
 d_32:FuncData
 f_33:Addr
 d_33:FuncData
 f_34:Addr
 d_34:FuncData
 f_35:Addr
 d_35:FuncData
 f_36:Addr
 d_36:FuncData
structure All (K:PySem.W.Frag) (mg:Str->Option Value) (c:CA) (a:Ad):Prop where
 cl_Board:Cls K c.Board
 cl_Map:Cls K c.Map
 cl_Orders:Cls K c.Orders
 na_Board_chart:NoAttr K c.Board "chart"
 na_Board_units:NoAttr K c.Board "units"
 na_Map_links:NoAttr K c.Map "links"
 na_Map_size:NoAttr K c.Map "size"
 na_Orders_board:NoAttr K c.Orders "board"
 na_Orders_given:NoAttr K c.Orders "given"
 mk_Board:Mk K c.Board a.f_5
 mk_Map:Mk K c.Map a.f_1
 mk_Orders:Mk K c.Orders a.f_7
 c_Board:mg "Board"=some (.ref c.Board)
 c_Crowded:mg "Crowded"=some (.ref c.Crowded)
 c_FACED:∃t,mg "FACED"=some (.int 2 t)
 c_FREE:∃t,mg "FREE"=some (.int 0 t)
 c_HELD:∃t,mg "HELD"=some (.int 3 t)
 c_LAST_SIDE:∃t,mg "LAST_SIDE"=some (.int 7 t)
 c_Map:mg "Map"=some (.ref c.Map)
 c_NoPlace:mg "NoPlace"=some (.ref c.NoPlace)
 c_NoSide:mg "NoSide"=some (.ref c.NoSide)
 c_NoUnit:mg "NoUnit"=some (.ref c.NoUnit)
 c_Orders:mg "Orders"=some (.ref c.Orders)
 c_OutOfReach:mg "OutOfReach"=some (.ref c.OutOfReach)
 c_RIVAL:∃t,mg "RIVAL"=some (.int 1 t)
 c_STAND:mg "STAND"=some (.ref c.STAND)
 gt_STAND:GTup K c.STAND
 x_Crowded:PySem.W.excIn K c.Crowded [.type "ValueError",.type "Exception",.type "BaseException",.type "object"] "ValueError.__new__"=true
 x_NoPlace:PySem.W.excIn K c.NoPlace [.type "ValueError",.type "Exception",.type "BaseException",.type "object"] "ValueError.__new__"=true
 x_NoSide:PySem.W.excIn K c.NoSide [.type "ValueError",.type "Exception",.type "BaseException",.type "object"] "ValueError.__new__"=true
 x_NoUnit:PySem.W.excIn K c.NoUnit [.type "ValueError",.type "Exception",.type "BaseException",.type "object"] "ValueError.__new__"=true
 x_OutOfReach:PySem.W.excIn K c.OutOfReach [.type "ValueError",.type "Exception",.type "BaseException",.type "object"] "ValueError.__new__"=true
 z_any:mg "any"=none
 z_bool:mg "bool"=none
 z_int:mg "int"=none
 z_isinstance:mg "isinstance"=none
 z_len:mg "len"=none
 z_max:mg "max"=none
 z_min:mg "min"=none
 z_range:mg "range"=none
 z_sorted:mg "sorted"=none
 i_bool:KIsi K .bl
 i_int:KIsi K .int
 F_0:Fun K "_law_cell_at" "_law_cell_at" st_0 a.f_0 a.d_0
 b_0:Binds K a.d_0 ["script","k"] []
 g__law_cell_at:mg "_law_cell_at"=some (.ref a.f_0)
 k_0:PySem.W.keepIn K (.ref a.f_0)=true
 F_1:Fun K "__init__" "Map.__init__" st_1 a.f_1 a.d_1
 b_1:Binds K a.d_1 ["self","size"] []
 F_2:Fun K "need_place" "Map.need_place" st_2 a.f_2 a.d_2
 b_2:Binds K a.d_2 ["self","at"] []
 m_2:Meth K c.Map "need_place" a.f_2
 F_3:Fun K "link" "Map.link" st_3 a.f_3 a.d_3
 b_3:Binds K a.d_3 ["self","a","b"] []
 m_3:Meth K c.Map "link" a.f_3
 F_4:Fun K "_law_star" "_law_star" st_4 a.f_4 a.d_4
 b_4:Binds K a.d_4 ["many"] []
 g__law_star:mg "_law_star"=some (.ref a.f_4)
 k_4:PySem.W.keepIn K (.ref a.f_4)=true
 F_5:Fun K "__init__" "Board.__init__" st_5 a.f_5 a.d_5
 b_5:Binds K a.d_5 ["self","chart"] []
 F_6:Fun K "post" "Board.post" st_6 a.f_6 a.d_6
 b_6:Binds K a.d_6 ["self","at","side"] []
 m_6:Meth K c.Board "post" a.f_6
 F_7:Fun K "__init__" "Orders.__init__" st_7 a.f_7 a.d_7
 b_7:Binds K a.d_7 ["self","board"] []
 F_8:Fun K "side_at" "Board.side_at" st_8 a.f_8 a.d_8
 b_8:Binds K a.d_8 ["self","at"] []
 m_8:Meth K c.Board "side_at" a.f_8
 F_9:Fun K "need_unit" "Board.need_unit" st_9 a.f_9 a.d_9
 b_9:Binds K a.d_9 ["self","at"] []
 m_9:Meth K c.Board "need_unit" a.f_9
 F_10:Fun K "need_all" "Orders.need_all" S4 a.f_10 a.d_10
 b_10:Binds K a.d_10 ["self","places","units"] []
 m_10:Meth K c.Orders "need_all" a.f_10
 F_11:Fun K "beside" "Map.beside" Rx a.f_11 a.d_11
 b_11:Binds K a.d_11 ["self","a","b"] []
 m_11:Meth K c.Map "beside" a.f_11
 F_12:Fun K "need_beside" "Orders.need_beside" RE a.f_12 a.d_12
 b_12:Binds K a.d_12 ["self","at","goal"] []
 m_12:Meth K c.Orders "need_beside" a.f_12
 F_13:Fun K "move" "Orders.move" Ru a.f_13 a.d_13
 b_13:Binds K a.d_13 ["self","at","goal"] []
 m_13:Meth K c.Orders "move" a.f_13
 F_14:Fun K "aid" "Orders.aid" SW a.f_14 a.d_14
 b_14:Binds K a.d_14 ["self","at","helped","goal"] []
 m_14:Meth K c.Orders "aid" a.f_14
 F_15:Fun K "goal_of" "Orders.goal_of" RO a.f_15 a.d_15
 b_15:Binds K a.d_15 ["self","at"] []
 m_15:Meth K c.Orders "goal_of" a.f_15
 F_16:Fun K "roll" "Board.roll" Rp a.f_16 a.d_16
 b_16:Binds K a.d_16 ["self"] []
 m_16:Meth K c.Board "roll" a.f_16
 F_17:Fun K "told" "Orders.told" Rc a.f_17 a.d_17
 b_17:Binds K a.d_17 ["self","at"] []
 m_17:Meth K c.Orders "told" a.f_17
 F_18:Fun K "movers" "Orders.movers" SN a.f_18 a.d_18
 b_18:Binds K a.d_18 ["self"] []
 m_18:Meth K c.Orders "movers" a.f_18
 F_19:Fun K "is_cut" "is_cut" SQ a.f_19 a.d_19
 b_19:Binds K a.d_19 ["orders","at"] []
 g_is_cut:mg "is_cut"=some (.ref a.f_19)
 k_19:PySem.W.keepIn K (.ref a.f_19)=true
 F_20:Fun K "fits" "fits" SV a.f_20 a.d_20
 b_20:Binds K a.d_20 ["orders","helped","goal"] []
 g_fits:mg "fits"=some (.ref a.f_20)
 k_20:PySem.W.keepIn K (.ref a.f_20)=true
 F_21:Fun K "counts" "counts" RT a.f_21 a.d_21
 b_21:Binds K a.d_21 ["orders","at"] []
 g_counts:mg "counts"=some (.ref a.f_21)
 k_21:PySem.W.keepIn K (.ref a.f_21)=true
 F_22:Fun K "backs" "backs" SR a.f_22 a.d_22
 b_22:Binds K a.d_22 ["orders","helper","at"] []
 g_backs:mg "backs"=some (.ref a.f_22)
 k_22:PySem.W.keepIn K (.ref a.f_22)=true
 F_23:Fun K "backing" "backing" RF a.f_23 a.d_23
 b_23:Binds K a.d_23 ["orders","at"] []
 g_backing:mg "backing"=some (.ref a.f_23)
 k_23:PySem.W.keepIn K (.ref a.f_23)=true
 F_24:Fun K "force_against" "force_against" Rz a.f_24 a.d_24
 b_24:Binds K a.d_24 ["orders","at","side"] []
 g_force_against:mg "force_against"=some (.ref a.f_24)
 k_24:PySem.W.keepIn K (.ref a.f_24)=true
 F_25:Fun K "force" "force" Rb a.f_25 a.d_25
 b_25:Binds K a.d_25 ["orders","at"] []
 g_force:mg "force"=some (.ref a.f_25)
 k_25:PySem.W.keepIn K (.ref a.f_25)=true
 F_26:Fun K "firmness" "firmness" S6 a.f_26 a.d_26
 b_26:Binds K a.d_26 ["orders","at"] []
 g_firmness:mg "firmness"=some (.ref a.f_26)
 k_26:PySem.W.keepIn K (.ref a.f_26)=true
 F_27:Fun K "_law_whole" "_law_whole" SX a.f_27 a.d_27
 b_27:Binds K a.d_27 ["found"] []
 g__law_whole:mg "_law_whole"=some (.ref a.f_27)
 k_27:PySem.W.keepIn K (.ref a.f_27)=true
 F_28:Fun K "weigh_movers" "weigh_movers" Rh a.f_28 a.d_28
 b_28:Binds K a.d_28 ["orders"] []
 g_weigh_movers:mg "weigh_movers"=some (.ref a.f_28)
 k_28:PySem.W.keepIn K (.ref a.f_28)=true
 F_29:Fun K "is_outdone" "is_outdone" RA a.f_29 a.d_29
 b_29:Binds K a.d_29 ["orders","forces","at"] []
 g_is_outdone:mg "is_outdone"=some (.ref a.f_29)
 k_29:PySem.W.keepIn K (.ref a.f_29)=true
 F_30:Fun K "overcomes" "overcomes" Ro a.f_30 a.d_30
 b_30:Binds K a.d_30 ["orders","at","goal","strength"] []
 g_overcomes:mg "overcomes"=some (.ref a.f_30)
 k_30:PySem.W.keepIn K (.ref a.f_30)=true
 F_31:Fun K "hindrance" "hindrance" Ra a.f_31 a.d_31
 b_31:Binds K a.d_31 ["orders","forces","at"] []
 g_hindrance:mg "hindrance"=some (.ref a.f_31)
 k_31:PySem.W.keepIn K (.ref a.f_31)=true
 F_32:Fun K "hindrances" "hindrances" SK a.f_32 a.d_32
 b_32:Binds K a.d_32 ["orders"] []
 g_hindrances:mg "hindrances"=some (.ref a.f_32)
 k_32:PySem.W.keepIn K (.ref a.f_32)=true
 F_33:Fun K "fault" "fault" RG a.f_33 a.d_33
 b_33:Binds K a.d_33 ["orders","found","at","places"] []
 g_fault:mg "fault"=some (.ref a.f_33)
 k_33:PySem.W.keepIn K (.ref a.f_33)=true
 F_34:Fun K "strikes" "strikes" SO a.f_34 a.d_34
 b_34:Binds K a.d_34 ["orders"] []
 g_strikes:mg "strikes"=some (.ref a.f_34)
 k_34:PySem.W.keepIn K (.ref a.f_34)=true
 F_35:Fun K "settled" "settled" Rw a.f_35 a.d_35
 b_35:Binds K a.d_35 ["orders"] []
 g_settled:mg "settled"=some (.ref a.f_35)
 k_35:PySem.W.keepIn K (.ref a.f_35)=true
 F_36:Fun K "law" "law" Rg a.f_36 a.d_36
 b_36:Binds K a.d_36 ["script"] []
 g_law:mg "law"=some (.ref a.f_36)
 k_36:PySem.W.keepIn K (.ref a.f_36)=true
section
variable {P:Program} {w:World} {K:PySem.W.Frag} {mg:Str->Option Value} {base:Heap} {c:CA} {a:Ad}
theorem Tb (T:All K mg c a):FnOk P w K mg base (CXw P w) 1 a.f_0 a.d_0 ["script","k"] (spM 2 (g__law_cell_at c)):=by
  refine Z3 T.F_0 sc_0 fun cdv A outer s H E hr=>?_
  have Sc:=sc_0
  exact (Zh (YA (qt_lt (Zf 1) (Ss rfl T.z_len (Zd (Zf 0) Zl))) (Zn (ZG (TF (Zf 0) (Zf 1)))) ZW)
      (Zn (ZG Zo)))
theorem Q6 (T:All K mg c a):FnOk P w K mg base (CXw P w) 1 a.f_1 a.d_1 ["self","size"] (spM 2 (XG c)):=by
  refine Z3 T.F_1 sc_1 fun cdv A outer s H E hr=>?_
  have Sc:=sc_1
  exact (Zh (Uq T.cl_Map T.na_Map_size (Zf 1) (Zf 0))
      (Zn (Uq T.cl_Map T.na_Map_links qe_dnewT (Zf 0))))
theorem Yq (T:All K mg c a):FnOk P w K mg base (CXw P w) 1 a.f_2 a.d_2 ["self","at"] (spM 2 (ZC c)):=by
 refine Z3 T.F_2 sc_2 fun cdv A outer s H E hr=>?_
 have Sc:=sc_2
 exact (Zn (YA (PW.pt (qw_or (qt_lt (Zf 1) Zo) (Qt (qt_ge (Zf 1) (Z5 T.cl_Map T.na_Map_size (Zf 0)))))) (Zn (XH PySem.F.excBase_ValueError T.x_NoPlace rfl T.c_NoPlace rfl VH (WH (Zf 1) (X2 Vv)))) ZW))
theorem Po (T:All K mg c a):FnOk P w K mg base (CXw P w) 2 a.f_3 a.d_3 ["self","a","b"] (spM 3 (Xg c)):=by
  have G_2:=Yq (P:=P) (w:=w) (base:=base) T
  have b_2:=T.b_2
  refine Z3 T.F_3 sc_3 fun cdv A outer s H E hr=>?_
  have Sc:=sc_3
  exact (Zh (ZX (Zu (Zf 0) T.cl_Map T.m_2 G_2 (hr.mono (by decide)) b_2 Zt (Zd (Zf 1) Zl)))
      (Zh (ZX (Zu (Zf 0) T.cl_Map T.m_2 G_2 (hr.mono (by decide)) b_2 Zt (Zd (Zf 2) Zl)))
      (Zh (YA (WO hr.units (Zf 1) (Zf 2)) (Zn (XH PySem.F.excBase_ValueError T.x_OutOfReach rfl T.c_OutOfReach rfl VH (X2 (WH (Zf 1) (X2 Vv))))) ZW)
      (Zh (Wi hr.units RS (Z5 T.cl_Map T.na_Map_links (Zf 0)) (Vz (Zd (Zf 1) (Zd (Zf 2) Zl))))
      (Zn (Wi hr.units RS (Z5 T.cl_Map T.na_Map_links (Zf 0)) (Vz (Zd (Zf 2) (Zd (Zf 1) Zl)))))))))
theorem QE (T:All K mg c a):FnOk P w K mg base (CXw P w) 3 a.f_4 a.d_4 ["many"] (spM 1 (g__law_star c)):=by
  have G_1:=Q6 (P:=P) (w:=w) (base:=base) T
  have b_1:=T.b_1
  have G_3:=Po (P:=P) (w:=w) (base:=base) T
  have b_3:=T.b_3
  refine Z3 T.F_4 sc_4 fun cdv A outer s H E hr=>?_
  have Sc:=sc_4
  exact (Zh (Z7 (i:=1) Sc.nd rfl (Or.inl rfl) (RY T.mk_Map G_1 (hr.mono (by decide)) rfl T.c_Map b_1 Zt (Zd (YE (Zf 0) Zo) Zl)))
      (Zh (ZX (Zu (Zf 1) T.cl_Map T.m_3 G_3 (hr.mono (by decide)) b_3 Zt (Zd Zo (Zd Zo Zl))))
      (Zh (UD PassesOwn.leaving rfl (Wb rfl T.z_range (Zf 0)) (Xs (i:=2) Sc.nd rfl (Or.inl rfl)) (Xh 2) (Zh (ZX (Zu (Zf 1) T.cl_Map T.m_3 G_3 (hr.mono (by decide)) b_3 Zt (Zd Zo (Zd (YE Zo (Zf 2)) Zl))))
      (Zn (ZX (Zu (Zf 1) T.cl_Map T.m_3 G_3 (hr.mono (by decide)) b_3 Zt (Zd Zo (Zd (YE Zo (Zf 2)) Zl)))))))
      (Zn (ZG (Zf 1))))))
theorem SA (T:All K mg c a):FnOk P w K mg base (CXw P w) 1 a.f_5 a.d_5 ["self","chart"] (spM 2 (Y6 c)):=by
  refine Z3 T.F_5 sc_5 fun cdv A outer s H E hr=>?_
  have Sc:=sc_5
  exact (Zh (Uq T.cl_Board T.na_Board_chart (Zf 1) (Zf 0))
      (Zn (Uq T.cl_Board T.na_Board_units Uc (Zf 0))))
theorem Sx (T:All K mg c a):FnOk P w K mg base (CXw P w) 2 a.f_6 a.d_6 ["self","at","side"] (spM 3 (YM c)):=by
  have G_2:=Yq (P:=P) (w:=w) (base:=base) T
  have b_2:=T.b_2
  refine Z3 T.F_6 sc_6 fun cdv A outer s H E hr=>?_
  have Sc:=sc_6
  exact (Zh (ZX (Zu (Z5 T.cl_Board T.na_Board_chart (Zf 0)) T.cl_Map T.m_2 G_2 (hr.mono (by decide)) b_2 Zt (Zd (Zf 1) Zl)))
      (Zh (YA (PW.pt (qw_or (qt_lt (Zf 2) Zo) (Qt (qt_gt (Zf 2) (WN rfl T.c_LAST_SIDE))))) (Zn (XH PySem.F.excBase_ValueError T.x_NoSide rfl T.c_NoSide rfl VH (WH (Zf 2) (X2 Vv)))) ZW)
      (Zh (YA (qt_din hr.units (Zf 1) (Z5 T.cl_Board T.na_Board_units (Zf 0))) (Zn (XH PySem.F.excBase_ValueError T.x_Crowded rfl T.c_Crowded rfl VH (X2 (WH (Zf 1) Vv)))) ZW)
      (Zn (Wi hr.units (Zf 2) (Z5 T.cl_Board T.na_Board_units (Zf 0)) (Zf 1))))))
theorem TQ (T:All K mg c a):FnOk P w K mg base (CXw P w) 1 a.f_7 a.d_7 ["self","board"] (spM 2 (YV c)):=by
  refine Z3 T.F_7 sc_7 fun cdv A outer s H E hr=>?_
  have Sc:=sc_7
  exact (Zh (Uq T.cl_Orders T.na_Orders_board (Zf 1) (Zf 0))
      (Zn (Uq T.cl_Orders T.na_Orders_given Uc (Zf 0))))
theorem YO (T:All K mg c a):FnOk P w K mg base (CXw P w) 2 a.f_8 a.d_8 ["self","at"] (spM 2 (ZD c)):=by
  have G_2:=Yq (P:=P) (w:=w) (base:=base) T
  have b_2:=T.b_2
  refine Z3 T.F_8 sc_8 fun cdv A outer s H E hr=>?_
  have Sc:=sc_8
  exact (Zh (ZX (Zu (Z5 T.cl_Board T.na_Board_chart (Zf 0)) T.cl_Map T.m_2 G_2 (hr.mono (by decide)) b_2 Zt (Zd (Zf 1) Zl)))
      (Zn (ZG (qe_get1 hr.units (Z5 T.cl_Board T.na_Board_units (Zf 0)) (Zf 1)))))
theorem XA (T:All K mg c a):FnOk P w K mg base (CXw P w) 3 a.f_9 a.d_9 ["self","at"] (spM 2 (Yp c)):=by
 have G_8:=YO (P:=P) (w:=w) (base:=base) T
 have b_8:=T.b_8
 refine Z3 T.F_9 sc_9 fun cdv A outer s H E hr=>?_
 have Sc:=sc_9
 exact (Zn (YA (Qn (Zu (Zf 0) T.cl_Board T.m_8 G_8 (hr.mono (by decide)) b_8 Zt (Zd (Zf 1) Zl))) (Zn (XH PySem.F.excBase_ValueError T.x_NoUnit rfl T.c_NoUnit rfl VH (X2 (WH (Zf 1) Vv)))) ZW))
theorem XN (T:All K mg c a):FnOk P w K mg base (CXw P w) 4 a.f_10 a.d_10 ["self","places","units"] (spM 3 (Yc c)):=by
  have G_9:=XA (P:=P) (w:=w) (base:=base) T
  have b_9:=T.b_9
  have G_2:=Yq (P:=P) (w:=w) (base:=base) T
  have b_2:=T.b_2
  refine Z3 T.F_10 sc_10 fun cdv A outer s H E hr=>?_
  have Sc:=sc_10
  exact (Zh (UD PassesOwn.leaving rfl (YN (Zf 1)) (Xs (i:=3) Sc.nd rfl (Or.inl rfl)) (Xh 3) (Zn (ZX (Zu (Z5 T.cl_Board T.na_Board_chart (Z5 T.cl_Orders T.na_Orders_board (Zf 0))) T.cl_Map T.m_2 G_2 (hr.mono (by decide)) b_2 Zt (Zd (Zf 3) Zl)))))
      (Zn (UD PassesOwn.leaving rfl (YN (Zf 2)) (Xs (i:=3) Sc.nd rfl (Or.inl rfl)) (Xh 3) (Zn (ZX (Zu (Z5 T.cl_Orders T.na_Orders_board (Zf 0)) T.cl_Board T.m_9 G_9 (hr.mono (by decide)) b_9 Zt (Zd (Zf 3) Zl)))))))
theorem SJ (T:All K mg c a):FnOk P w K mg base (CXw P w) 2 a.f_11 a.d_11 ["self","a","b"] (spM 3 (Wg c)):=by
  have G_2:=Yq (P:=P) (w:=w) (base:=base) T
  have b_2:=T.b_2
  refine Z3 T.F_11 sc_11 fun cdv A outer s H E hr=>?_
  have Sc:=sc_11
  exact (Zh (ZX (Zu (Zf 0) T.cl_Map T.m_2 G_2 (hr.mono (by decide)) b_2 Zt (Zd (Zf 1) Zl)))
      (Zh (ZX (Zu (Zf 0) T.cl_Map T.m_2 G_2 (hr.mono (by decide)) b_2 Zt (Zd (Zf 2) Zl)))
      (Zn (ZG (qe_din hr.units (Vz (Zd (Zf 1) (Zd (Zf 2) Zl))) (Z5 T.cl_Map T.na_Map_links (Zf 0)))))))
theorem Xa (T:All K mg c a):FnOk P w K mg base (CXw P w) 3 a.f_12 a.d_12 ["self","at","goal"] (spM 3 (ZH c)):=by
 have G_11:=SJ (P:=P) (w:=w) (base:=base) T
 have b_11:=T.b_11
 refine Z3 T.F_12 sc_12 fun cdv A outer s H E hr=>?_
 have Sc:=sc_12
 exact (Zn (YA (qt_not (VI (Zu (Z5 T.cl_Board T.na_Board_chart (Z5 T.cl_Orders T.na_Orders_board (Zf 0))) T.cl_Map T.m_11 G_11 (hr.mono (by decide)) b_11 Zt (Zd (Zf 1) (Zd (Zf 2) Zl))))) (Zn (XH PySem.F.excBase_ValueError T.x_OutOfReach rfl T.c_OutOfReach rfl VH (X2 (WH (Zf 2) (X2 (WH (Zf 1) Vv)))))) ZW))
theorem Ts (T:All K mg c a):FnOk P w K mg base (CXw P w) 5 a.f_13 a.d_13 ["self","at","goal"] (spM 3 (YS c)):=by
  have G_10:=XN (P:=P) (w:=w) (base:=base) T
  have b_10:=T.b_10
  have G_12:=Xa (P:=P) (w:=w) (base:=base) T
  have b_12:=T.b_12
  refine Z3 T.F_13 sc_13 fun cdv A outer s H E hr=>?_
  have Sc:=sc_13
  exact (Zh (ZX (Zu (Zf 0) T.cl_Orders T.m_10 G_10 (hr.mono (by decide)) b_10 Zt (Zd (Wm (Zd (Zf 1) (Zd (Zf 2) Zl))) (Zd (Wm (Zd (Zf 1) Zl)) Zl))))
      (Zh (ZX (Zu (Zf 0) T.cl_Orders T.m_12 G_12 (hr.mono (by decide)) b_12 Zt (Zd (Zf 1) (Zd (Zf 2) Zl))))
      (Zn (Wi hr.units (Vz (Zd Us (Zd (Zf 2) Zl))) (Z5 T.cl_Orders T.na_Orders_given (Zf 0)) (Zf 1)))))
theorem SB (T:All K mg c a):FnOk P w K mg base (CXw P w) 5 a.f_14 a.d_14 ["self","at","helped","goal"] (spM 4 (Xw c)):=by
  have G_10:=XN (P:=P) (w:=w) (base:=base) T
  have b_10:=T.b_10
  have G_12:=Xa (P:=P) (w:=w) (base:=base) T
  have b_12:=T.b_12
  refine Z3 T.F_14 sc_14 fun cdv A outer s H E hr=>?_
  have Sc:=sc_14
  exact (Zh (ZX (Zu (Zf 0) T.cl_Orders T.m_10 G_10 (hr.mono (by decide)) b_10 Zt (Zd (Wm (Zd (Zf 1) (Zd (Zf 2) (Zd (Zf 3) Zl)))) (Zd (Wm (Zd (Zf 1) (Zd (Zf 2) Zl))) Zl))))
      (Zh (YA (WO hr.units (Zf 2) (Zf 1)) (Zn (XH PySem.F.excBase_ValueError T.x_OutOfReach rfl T.c_OutOfReach rfl VH (X2 (WH (Zf 1) (X2 Vv))))) ZW)
      (Zh (ZX (Zu (Zf 0) T.cl_Orders T.m_12 G_12 (hr.mono (by decide)) b_12 Zt (Zd (Zf 1) (Zd (Zf 3) Zl))))
      (Zh (YA (Vn hr.units (Zf 3) (Zf 2)) (Zn (ZX (Zu (Zf 0) T.cl_Orders T.m_12 G_12 (hr.mono (by decide)) b_12 Zt (Zd (Zf 2) (Zd (Zf 3) Zl))))) ZW)
      (Zn (Wi hr.units (Vz (Zd Us (Zd (Zf 2) (Zd (Zf 3) Zl)))) (Z5 T.cl_Orders T.na_Orders_given (Zf 0)) (Zf 1)))))))
theorem ZO (T:All K mg c a):FnOk P w K mg base (CXw P w) 1 a.f_15 a.d_15 ["self","at"] (spM 2 (Zm c)):=by
  refine Z3 T.F_15 sc_15 fun cdv A outer s H E hr=>?_
  have Sc:=sc_15
  exact (Zh (Z7 (i:=2) Sc.nd rfl (Or.inl rfl) (qe_get2 hr.units (Z5 T.cl_Orders T.na_Orders_given (Zf 0)) (Zf 1) (qe_gtup rfl T.c_STAND)))
      (Zh (YA (WO hr.units (Wh T.gt_STAND (Zf 2) Zo) Us) (Zn (ZG (Wh T.gt_STAND (Zf 2) Zo))) ZW)
      (Zn (ZG qe_non))))
theorem SH (T:All K mg c a):FnOk P w K mg base (CXw P w) 1 a.f_16 a.d_16 ["self"] (spM 1 (Xx c)):=by
 refine Z3 T.F_16 sc_16 fun cdv A outer s H E hr=>?_
 have Sc:=sc_16
 exact (Zn (ZG (qe_sortIt Yd rfl rfl T.z_sorted (Z5 T.cl_Board T.na_Board_units (Zf 0)))))
theorem XF (T:All K mg c a):FnOk P w K mg base (CXw P w) 4 a.f_17 a.d_17 ["self","at"] (spM 2 (Z8 c)):=by
  have G_9:=XA (P:=P) (w:=w) (base:=base) T
  have b_9:=T.b_9
  refine Z3 T.F_17 sc_17 fun cdv A outer s H E hr=>?_
  have Sc:=sc_17
  exact (Zh (ZX (Zu (Z5 T.cl_Orders T.na_Orders_board (Zf 0)) T.cl_Board T.m_9 G_9 (hr.mono (by decide)) b_9 Zt (Zd (Zf 1) Zl)))
      (Zn (ZG (qe_get2 hr.units (Z5 T.cl_Orders T.na_Orders_given (Zf 0)) (Zf 1) (qe_gtup rfl T.c_STAND)))))
theorem YL (T:All K mg c a):FnOk P w K mg base (CXw P w) 2 a.f_18 a.d_18 ["self"] (spM 1 (ZM c)):=by
 have G_15:=ZO (P:=P) (w:=w) (base:=base) T
 have b_15:=T.b_15
 refine Z3 T.F_18 sc_18 fun cdv A outer s H E hr=>?_
 have Sc:=sc_18
 exact (Zn (ZG (qe_sortInts Yd rfl T.z_sorted (Zd (qe_compD Yd (Yi (js:=[0]) (cn:=["self"]) (by with_unfolding_all rfl) (by decide +kernel) rfl (by decide +kernel) rfl (by with_unfolding_all rfl) rfl (by with_unfolding_all rfl) (by decide +kernel)) rfl (Z5 T.cl_Orders T.na_Orders_given (Zf 0)) (fun _ _ _ _=>(Y7 (qt_notN (Zu (Zf 1) T.cl_Orders T.m_15 G_15 (hr.mono (by decide)) b_15 US (Zd (Zf 0) Zl))))) (fun _ _ _ _=>(Zf 0))) Zl))))
theorem ok_is_cut (T:All K mg c a):FnOk P w K mg base (CXw P w) 5 a.f_19 a.d_19 ["orders","at"] (spM 2 (g_is_cut c)):=by
  have G_8:=YO (P:=P) (w:=w) (base:=base) T
  have b_8:=T.b_8
  have G_15:=ZO (P:=P) (w:=w) (base:=base) T
  have b_15:=T.b_15
  have G_18:=YL (P:=P) (w:=w) (base:=base) T
  have b_18:=T.b_18
  have G_17:=XF (P:=P) (w:=w) (base:=base) T
  have b_17:=T.b_17
  refine Z3 T.F_19 sc_19 fun cdv A outer s H E hr=>?_
  have Sc:=sc_19
  exact (Zh (Z7 (i:=2) Sc.nd rfl (Or.inr rfl) (Zu (Zf 0) T.cl_Orders T.m_17 G_17 (hr.mono (by decide)) b_17 Zt (Zd (Zf 1) Zl)))
      (Zh (YA (Vn hr.units (Wh T.gt_STAND (Zf 2) Zo) Us) (Zn (ZG RS)) ZW)
      (Zh (Z7 (i:=3) Sc.nd rfl (Or.inr rfl) (Zu (Z5 T.cl_Orders T.na_Orders_board (Zf 0)) T.cl_Board T.m_8 G_8 (hr.mono (by decide)) b_8 Zt (Zd (Zf 1) Zl)))
      (Zh (Vx (j:=4) Yd (Yi (js:=[0,1,3]) (cn:=["orders","at","own"]) (by with_unfolding_all rfl) (by decide +kernel) rfl (by decide +kernel) rfl (by with_unfolding_all rfl) rfl (by with_unfolding_all rfl) (by decide +kernel)) rfl (YN (WI (Zf 0) T.cl_Orders T.m_18 G_18 (hr.mono (by decide)) b_18 Zt)) (fun _ _ _ _=>(Y7 (PW.pt (qw_and (WO hr.units (Zu (Zf 1) T.cl_Orders T.m_15 G_15 (hr.mono (by decide)) b_15 US (Zd (Zf 0) Zl)) (Zf 2)) (R6 (Vn hr.units (Zu (Z5 T.cl_Orders T.na_Orders_board (Zf 1)) T.cl_Board T.m_8 G_8 (hr.mono (by decide)) b_8 US (Zd (Zf 0) Zl)) (Zf 3))))))) (fun _ _ _ _=>(Zf 0)) Sc.nd rfl (Or.inl rfl) (by with_unfolding_all rfl))
      (Zn (ZG (qe_any rfl rfl T.z_any QY (Zd (XY Yd (Yi (js:=[2]) (cn:=["order"]) (by with_unfolding_all rfl) (by decide +kernel) rfl (by decide +kernel) rfl (by with_unfolding_all rfl) rfl (by with_unfolding_all rfl) (by decide +kernel)) rfl (YN (Zf 4)) (fun _ _ _ _=>WK) (fun _ _ _ _=>(qe_ne hr.units (Zf 0) (Wh T.gt_STAND (Zf 1) Zo)))) Zl))))))))
theorem ok_fits (T:All K mg c a):FnOk P w K mg base (CXw P w) 2 a.f_20 a.d_20 ["orders","helped","goal"] (spM 3 (g_fits c)):=by
  have G_15:=ZO (P:=P) (w:=w) (base:=base) T
  have b_15:=T.b_15
  refine Z3 T.F_20 sc_20 fun cdv A outer s H E hr=>?_
  have Sc:=sc_20
  exact (Zh (YA (WO hr.units (Zf 2) (Zf 1)) (Zn (ZG (qe_isN (Zu (Zf 0) T.cl_Orders T.m_15 G_15 (hr.mono (by decide)) b_15 Zt (Zd (Zf 1) Zl))))) ZW)
      (Zn (ZG (UP hr.units (Zu (Zf 0) T.cl_Orders T.m_15 G_15 (hr.mono (by decide)) b_15 Zt (Zd (Zf 1) Zl)) (Zf 2)))))
theorem ok_counts (T:All K mg c a):FnOk P w K mg base (CXw P w) 6 a.f_21 a.d_21 ["orders","at"] (spM 2 (g_counts c)):=by
  have G_17:=XF (P:=P) (w:=w) (base:=base) T
  have b_17:=T.b_17
  have G_20:=ok_fits (P:=P) (w:=w) (base:=base) T
  have b_20:=T.b_20
  have G_19:=ok_is_cut (P:=P) (w:=w) (base:=base) T
  have b_19:=T.b_19
  refine Z3 T.F_21 sc_21 fun cdv A outer s H E hr=>?_
  have Sc:=sc_21
  exact (Zh (Z7 (i:=2) Sc.nd rfl (Or.inl rfl) (Zu (Zf 0) T.cl_Orders T.m_17 G_17 (hr.mono (by decide)) b_17 Zt (Zd (Zf 1) Zl)))
      (Zn (ZG (WJ (UP hr.units (Wh T.gt_STAND (Zf 2) Zo) Us) (WJ (ZF G_20 (hr.mono (by decide)) rfl T.g_fits T.k_20 b_20 Zt (Zd (Zf 0) (Zd (Wh T.gt_STAND (Zf 2) Zo) (Zd (Wh T.gt_STAND (Zf 2) Zo) Zl)))) (Uu (qe_not (ZF G_19 (hr.mono (by decide)) rfl T.g_is_cut T.k_19 b_19 Zt (Zd (Zf 0) (Zd (Zf 1) Zl))))))))))
theorem ok_backs (T:All K mg c a):FnOk P w K mg base (CXw P w) 7 a.f_22 a.d_22 ["orders","helper","at"] (spM 3 (g_backs c)):=by
  have G_17:=XF (P:=P) (w:=w) (base:=base) T
  have b_17:=T.b_17
  have G_21:=ok_counts (P:=P) (w:=w) (base:=base) T
  have b_21:=T.b_21
  refine Z3 T.F_22 sc_22 fun cdv A outer s H E hr=>?_
  have Sc:=sc_22
  exact (Zh (Z7 (i:=3) Sc.nd rfl (Or.inl rfl) (Zu (Zf 0) T.cl_Orders T.m_17 G_17 (hr.mono (by decide)) b_17 Zt (Zd (Zf 1) Zl)))
      (Zn (ZG (WJ (UP hr.units (Wh T.gt_STAND (Zf 3) Zo) Us) (WJ (UP hr.units (Wh T.gt_STAND (Zf 3) Zo) (Zf 2)) (Uu (ZF G_21 (hr.mono (by decide)) rfl T.g_counts T.k_21 b_21 Zt (Zd (Zf 0) (Zd (Zf 1) Zl)))))))))
theorem Vy (T:All K mg c a):FnOk P w K mg base (CXw P w) 8 a.f_23 a.d_23 ["orders","at"] (spM 2 (g_backing c)):=by
 have G_16:=SH (P:=P) (w:=w) (base:=base) T
 have b_16:=T.b_16
 have G_22:=ok_backs (P:=P) (w:=w) (base:=base) T
 have b_22:=T.b_22
 refine Z3 T.F_23 sc_23 fun cdv A outer s H E hr=>?_
 have Sc:=sc_23
 exact (Zn (ZG (qe_compT Yd (compOkT_of (xs:=["helper","side"]) (js:=[0,1]) (cn:=["orders","at"]) (by with_unfolding_all rfl) (by decide +kernel) rfl (by decide +kernel) (by with_unfolding_all rfl) rfl (by with_unfolding_all rfl) (by decide +kernel)) rfl (fun _ _ _ _=>pg_tup rfl (Q8 (Xs (i:=0) (show (["helper","side","orders","at"]:List Str).Nodup by decide +kernel) rfl (Or.inl rfl)) (Q8 (Xs (i:=1) (show (["helper","side","orders","at"]:List Str).Nodup by decide +kernel) rfl (Or.inl rfl)) pgs_nil))) (YN (WI (Z5 T.cl_Orders T.na_Orders_board (Zf 0)) T.cl_Board T.m_16 G_16 (hr.mono (by decide)) b_16 Zt)) (fun _ _ _ _=>(Y7 (VI (ZF G_22 (hr.mono (by decide)) rfl T.g_backs T.k_22 b_22 US (Zd (Zf 2) (Zd (Zf 0) (Zd (Zf 3) Zl))))))) (fun _ _ _ _=>(Zf 1)))))
theorem X9 (T:All K mg c a):FnOk P w K mg base (CXw P w) 9 a.f_24 a.d_24 ["orders","at","side"] (spM 3 (g_force_against c)):=by
  have G_15:=ZO (P:=P) (w:=w) (base:=base) T
  have b_15:=T.b_15
  have G_23:=Vy (P:=P) (w:=w) (base:=base) T
  have b_23:=T.b_23
  refine Z3 T.F_24 sc_24 fun cdv A outer s H E hr=>?_
  have Sc:=sc_24
  exact (Zh (YA (Qn (Zu (Zf 0) T.cl_Orders T.m_15 G_15 (hr.mono (by decide)) b_15 Zt (Zd (Zf 1) Zl))) (Zn (ZG Zo)) ZW)
      (Zn (ZG (YE Zo (Ss rfl T.z_len (Zd (XY Yd (Yi (js:=[2]) (cn:=["side"]) (by with_unfolding_all rfl) (by decide +kernel) rfl (by decide +kernel) rfl (by with_unfolding_all rfl) rfl (by with_unfolding_all rfl) (by decide +kernel)) rfl (YN (ZF G_23 (hr.mono (by decide)) rfl T.g_backing T.k_23 b_23 Zt (Zd (Zf 0) (Zd (Zf 1) Zl)))) (fun _ _ _ _=>(Y7 (Vn hr.units (Zf 0) (Zf 1)))) (fun _ _ _ _=>(Zf 0))) Zl))))))
theorem ok_force (T:All K mg c a):FnOk P w K mg base (CXw P w) 9 a.f_25 a.d_25 ["orders","at"] (spM 2 (g_force c)):=by
  have G_15:=ZO (P:=P) (w:=w) (base:=base) T
  have b_15:=T.b_15
  have G_23:=Vy (P:=P) (w:=w) (base:=base) T
  have b_23:=T.b_23
  refine Z3 T.F_25 sc_25 fun cdv A outer s H E hr=>?_
  have Sc:=sc_25
  exact (Zh (YA (Qn (Zu (Zf 0) T.cl_Orders T.m_15 G_15 (hr.mono (by decide)) b_15 Zt (Zd (Zf 1) Zl))) (Zn (ZG Zo)) ZW)
      (Zn (ZG (YE Zo (Ss rfl T.z_len (Zd (ZF G_23 (hr.mono (by decide)) rfl T.g_backing T.k_23 b_23 Zt (Zd (Zf 0) (Zd (Zf 1) Zl))) Zl))))))
theorem U2 (T:All K mg c a):FnOk P w K mg base (CXw P w) 9 a.f_26 a.d_26 ["orders","at"] (spM 2 (g_firmness c)):=by
  have G_15:=ZO (P:=P) (w:=w) (base:=base) T
  have b_15:=T.b_15
  have G_23:=Vy (P:=P) (w:=w) (base:=base) T
  have b_23:=T.b_23
  refine Z3 T.F_26 sc_26 fun cdv A outer s H E hr=>?_
  have Sc:=sc_26
  exact (Zh (YA (qt_notN (Zu (Zf 0) T.cl_Orders T.m_15 G_15 (hr.mono (by decide)) b_15 Zt (Zd (Zf 1) Zl))) (Zn (ZG Zo)) ZW)
      (Zn (ZG (YE Zo (Ss rfl T.z_len (Zd (ZF G_23 (hr.mono (by decide)) rfl T.g_backing T.k_23 b_23 Zt (Zd (Zf 0) (Zd (Zf 1) Zl))) Zl))))))
theorem Sy (T:All K mg c a):FnOk P w K mg base (CXw P w) 1 a.f_27 a.d_27 ["found"] (spM 1 (g__law_whole c)):=by
 refine Z3 T.F_27 sc_27 fun cdv A outer s H E hr=>?_
 have Sc:=sc_27
 exact (Zn (ZG (WJ (qe_isi T.i_int rfl T.z_isinstance (Zf 0) (pe_bltn (v:=.ty "int") rfl T.z_int boot_int rfl)) (Uu (qe_not (qe_isi T.i_bool rfl T.z_isinstance (Zf 0) (pe_bltn (v:=.ty "bool") rfl T.z_bool boot_bool rfl)))))))
theorem Tc (T:All K mg c a):FnOk P w K mg base (CXw P w) 10 a.f_28 a.d_28 ["orders"] (spM 1 (g_weigh_movers c)):=by
  have G_18:=YL (P:=P) (w:=w) (base:=base) T
  have b_18:=T.b_18
  have G_25:=ok_force (P:=P) (w:=w) (base:=base) T
  have b_25:=T.b_25
  refine Z3 T.F_28 sc_28 fun cdv A outer s H E hr=>?_
  have Sc:=sc_28
  exact (Zh (Z7 (i:=1) Sc.nd rfl (Or.inl rfl) Uc)
      (Zh (UD PassesOwn.leaving rfl (YN (WI (Zf 0) T.cl_Orders T.m_18 G_18 (hr.mono (by decide)) b_18 Zt)) (Xs (i:=2) Sc.nd rfl (Or.inl rfl)) (Xh 2) (Zn (Wi hr.units (ZF G_25 (hr.mono (by decide)) rfl T.g_force T.k_25 b_25 Zt (Zd (Zf 0) (Zd (Zf 2) Zl))) (Zf 1) (Zf 2))))
      (Zn (ZG (Zf 1)))))
theorem SI (T:All K mg c a):FnOk P w K mg base (CXw P w) 2 a.f_29 a.d_29 ["orders","forces","at"] (spM 3 (g_is_outdone c)):=by
  have G_15:=ZO (P:=P) (w:=w) (base:=base) T
  have b_15:=T.b_15
  refine Z3 T.F_29 sc_29 fun cdv A outer s H E hr=>?_
  have Sc:=sc_29
  exact (Zh (Z7 (i:=3) Sc.nd rfl (Or.inr rfl) (Zu (Zf 0) T.cl_Orders T.m_15 G_15 (hr.mono (by decide)) b_15 Zt (Zd (Zf 2) Zl)))
      (Zh (qs_setCompD (j:=4) Yd (Yi (js:=[0,2,3]) (cn:=["orders","at","goal"]) (by with_unfolding_all rfl) (by decide +kernel) rfl (by decide +kernel) rfl (by with_unfolding_all rfl) rfl (by with_unfolding_all rfl) (by decide +kernel)) rfl (Zf 1) (fun _ _ _ _=>(Y7 (PW.pt (qw_and (Vn hr.units (Zf 0) (Zf 2)) (R6 (WO hr.units (Zu (Zf 1) T.cl_Orders T.m_15 G_15 (hr.mono (by decide)) b_15 US (Zd (Zf 0) Zl)) (Zf 3))))))) (fun _ _ _ _=>(Zf 0)) Sc.nd rfl (Or.inl rfl) (by with_unfolding_all rfl))
      (Zn (ZG (qe_any rfl rfl T.z_any QY (Zd (XY Yd (Yi (js:=[1,2]) (cn:=["forces","at"]) (by with_unfolding_all rfl) (by decide +kernel) rfl (by decide +kernel) rfl (by with_unfolding_all rfl) rfl (by with_unfolding_all rfl) (by decide +kernel)) rfl (YN (Zf 4)) (fun _ _ _ _=>WK) (fun _ _ _ _=>(qe_ge (V6 hr.units (Zf 1) (Zf 0)) (V6 hr.units (Zf 1) (Zf 2))))) Zl))))))
theorem QH (T:All K mg c a):FnOk P w K mg base (CXw P w) 10 a.f_30 a.d_30 ["orders","at","goal","strength"] (spM 4 (g_overcomes c)):=by
  have G_8:=YO (P:=P) (w:=w) (base:=base) T
  have b_8:=T.b_8
  have G_24:=X9 (P:=P) (w:=w) (base:=base) T
  have b_24:=T.b_24
  refine Z3 T.F_30 sc_30 fun cdv A outer s H E hr=>?_
  have Sc:=sc_30
  exact (Zh (Z7 (i:=4) Sc.nd rfl (Or.inl rfl) (Zu (Z5 T.cl_Orders T.na_Orders_board (Zf 0)) T.cl_Board T.m_8 G_8 (hr.mono (by decide)) b_8 Zt (Zd (Zf 2) Zl)))
      (Zn (ZG (WJ (qe_ne hr.units (Zf 4) (Zu (Z5 T.cl_Orders T.na_Orders_board (Zf 0)) T.cl_Board T.m_8 G_8 (hr.mono (by decide)) b_8 Zt (Zd (Zf 1) Zl))) (Uu (qe_gt (ZF G_24 (hr.mono (by decide)) rfl T.g_force_against T.k_24 b_24 Zt (Zd (Zf 0) (Zd (Zf 1) (Zd (Zf 4) Zl)))) (Zf 3)))))))
theorem Qp (T:All K mg c a):FnOk P w K mg base (CXw P w) 11 a.f_31 a.d_31 ["orders","forces","at"] (spM 3 (g_hindrance c)):=by
  have G_8:=YO (P:=P) (w:=w) (base:=base) T
  have b_8:=T.b_8
  have G_15:=ZO (P:=P) (w:=w) (base:=base) T
  have b_15:=T.b_15
  have G_26:=U2 (P:=P) (w:=w) (base:=base) T
  have b_26:=T.b_26
  have G_29:=SI (P:=P) (w:=w) (base:=base) T
  have b_29:=T.b_29
  have G_30:=QH (P:=P) (w:=w) (base:=base) T
  have b_30:=T.b_30
  refine Z3 T.F_31 sc_31 fun cdv A outer s H E hr=>?_
  have Sc:=sc_31
  exact (Zh (Z7 (i:=3) Sc.nd rfl (Or.inl rfl) (Zu (Zf 0) T.cl_Orders T.m_15 G_15 (hr.mono (by decide)) b_15 Zt (Zd (Zf 2) Zl)))
      (Zh (YA (VI (ZF G_29 (hr.mono (by decide)) rfl T.g_is_outdone T.k_29 b_29 Zt (Zd (Zf 0) (Zd (Zf 1) (Zd (Zf 2) Zl))))) (Zn (ZG (WN rfl T.c_RIVAL))) ZW)
      (Zh (YA (Qn (Zu (Z5 T.cl_Orders T.na_Orders_board (Zf 0)) T.cl_Board T.m_8 G_8 (hr.mono (by decide)) b_8 Zt (Zd (Zf 3) Zl))) (Zn (ZG (WN rfl T.c_FREE))) ZW)
      (Zh (YA (WO hr.units (Zu (Zf 0) T.cl_Orders T.m_15 G_15 (hr.mono (by decide)) b_15 Zt (Zd (Zf 3) Zl)) (Zf 2)) (Zn (ZG (qe_ifE (VI (ZF G_30 (hr.mono (by decide)) rfl T.g_overcomes T.k_30 b_30 Zt (Zd (Zf 0) (Zd (Zf 2) (Zd (Zf 3) (Zd (V6 hr.units (Zf 1) (Zf 3)) Zl)))))) (WN rfl T.c_FREE) (WN rfl T.c_FACED)))) ZW)
      (Zn (ZG (qe_ifE (VI (ZF G_30 (hr.mono (by decide)) rfl T.g_overcomes T.k_30 b_30 Zt (Zd (Zf 0) (Zd (Zf 2) (Zd (Zf 3) (Zd (ZF G_26 (hr.mono (by decide)) rfl T.g_firmness T.k_26 b_26 Zt (Zd (Zf 0) (Zd (Zf 3) Zl))) Zl)))))) (WN rfl T.c_FREE) (WN rfl T.c_HELD))))))))
theorem SC (T:All K mg c a):FnOk P w K mg base (CXw P w) 12 a.f_32 a.d_32 ["orders"] (spM 1 (g_hindrances c)):=by
  have G_31:=Qp (P:=P) (w:=w) (base:=base) T
  have b_31:=T.b_31
  have G_28:=Tc (P:=P) (w:=w) (base:=base) T
  have b_28:=T.b_28
  refine Z3 T.F_32 sc_32 fun cdv A outer s H E hr=>?_
  have Sc:=sc_32
  exact (Zh (Z7 (i:=1) Sc.nd rfl (Or.inl rfl) (ZF G_28 (hr.mono (by decide)) rfl T.g_weigh_movers T.k_28 b_28 Zt (Zd (Zf 0) Zl)))
      (Zh (Z7 (i:=2) Sc.nd rfl (Or.inl rfl) Uc)
      (Zh (qs_forD PassesOwn.leaving rfl (Zf 1) (Xs (i:=3) Sc.nd rfl (Or.inl rfl)) (Xh 3) (Zn (Wi hr.units (ZF G_31 (hr.mono (by decide)) rfl T.g_hindrance T.k_31 b_31 Zt (Zd (Zf 0) (Zd (Zf 1) (Zd (Zf 3) Zl)))) (Zf 2) (Zf 3))))
      (Zn (ZG (Zf 2))))))
theorem ok_fault (T:All K mg c a):FnOk P w K mg base (CXw P w) 2 a.f_33 a.d_33 ["orders","found","at","places"] (spM 4 (g_fault c)):=by
  have G_15:=ZO (P:=P) (w:=w) (base:=base) T
  have b_15:=T.b_15
  refine Z3 T.F_33 sc_33 fun cdv A outer s H E hr=>?_
  have Sc:=sc_33
  exact (Zh (YA (PW.pt (qw_and (WO hr.units (V6 hr.units (Zf 1) (Zf 2)) (WN rfl T.c_HELD)) (R6 (qt_in (Zu (Zf 0) T.cl_Orders T.m_15 G_15 (hr.mono (by decide)) b_15 Zt (Zd (Zf 2) Zl)) (Zf 3))))) (Zn (ZG (WN rfl T.c_FREE))) ZW)
      (Zn (ZG (V6 hr.units (Zf 1) (Zf 2)))))
theorem ok_strikes (T:All K mg c a):FnOk P w K mg base (CXw P w) 13 a.f_34 a.d_34 ["orders"] (spM 1 (g_strikes c)):=by
  have G_18:=YL (P:=P) (w:=w) (base:=base) T
  have b_18:=T.b_18
  have G_33:=ok_fault (P:=P) (w:=w) (base:=base) T
  have b_33:=T.b_33
  have G_32:=SC (P:=P) (w:=w) (base:=base) T
  have b_32:=T.b_32
  refine Z3 T.F_34 sc_34 fun cdv A outer s H E hr=>?_
  have Sc:=sc_34
  exact (Zh (Z7 (i:=1) Sc.nd rfl (Or.inr rfl) (ZF G_32 (hr.mono (by decide)) rfl T.g_hindrances T.k_32 b_32 Zt (Zd (Zf 0) Zl)))
      (Zh (Z7 (i:=2) Sc.nd rfl (Or.inr rfl) (WI (Zf 0) T.cl_Orders T.m_18 G_18 (hr.mono (by decide)) b_18 Zt))
      (Zh (Z7 (i:=3) Sc.nd rfl (Or.inl rfl) (qe_lstM Zl))
      (Zh (Z7 (i:=4) Sc.nd rfl (Or.inr rfl) Zo)
      (Zn (qs_while 100 PassesOwn.leaving (VI RS) (Zh (Vx (j:=5) Yd (Yi (js:=[0,1,2,4]) (cn:=["orders","found","left","count"]) (by with_unfolding_all rfl) (by decide +kernel) rfl (by decide +kernel) rfl (by with_unfolding_all rfl) rfl (by with_unfolding_all rfl) (by decide +kernel)) rfl (YN (Zf 2)) (fun _ _ _ _=>WK) (fun _ _ _ _=>(Vz (Zd (Zf 4) (Zd (Zf 0) (Zd (ZF G_33 (hr.mono (by decide)) rfl T.g_fault T.k_33 b_33 US (Zd (Zf 1) (Zd (Zf 2) (Zd (Zf 0) (Zd (Zf 3) Zl))))) Zl))))) Sc.nd rfl (Or.inl rfl) (by with_unfolding_all rfl))
      (Zh (Vx (j:=6) Yd (Yi (js:=[]) (cn:=[]) (by with_unfolding_all rfl) (by decide +kernel) rfl (by decide +kernel) rfl (by with_unfolding_all rfl) rfl (by with_unfolding_all rfl) (by decide +kernel)) rfl (YN (Zf 5)) (fun _ _ _ _=>(Y7 (Vn hr.units (TF (Zf 0) Zo) (WN rfl T.c_FREE)))) (fun _ _ _ _=>(Zf 0)) Sc.nd rfl (Or.inl rfl) (by with_unfolding_all rfl))
      (Zh (YA (WO hr.units (Zf 6) (Wm Zl)) (Zn (ZG (Zf 3))) ZW)
      (Zh (ZX (qe_extend (Zf 3) (Zf 6)))
      (Zh (Z7 (i:=2) Sc.nd rfl (Or.inr rfl) (XY Yd (Yi (js:=[]) (cn:=[]) (by with_unfolding_all rfl) (by decide +kernel) rfl (by decide +kernel) rfl (by with_unfolding_all rfl) rfl (by with_unfolding_all rfl) (by decide +kernel)) rfl (YN (Zf 5)) (fun _ _ _ _=>(Y7 (WO hr.units (TF (Zf 0) Zo) (WN rfl T.c_FREE)))) (fun _ _ _ _=>(TF (Zf 0) Zo))))
      (Zn (Z7 (i:=4) Sc.nd rfl (Or.inr rfl) (YE (Zf 4) Zo))))))))))))))
theorem UV (T:All K mg c a):FnOk P w K mg base (CXw P w) 13 a.f_34 a.d_34 ["orders"] (spM 1 (Yx c)):=FnOk.tidyG (ok_strikes T)
theorem ok_settled (T:All K mg c a):FnOk P w K mg base (CXw P w) 14 a.f_35 a.d_35 ["orders"] (spM 1 (g_settled c)):=by
  have G_18:=YL (P:=P) (w:=w) (base:=base) T
  have b_18:=T.b_18
  have G_34:=UV (P:=P) (w:=w) (base:=base) T
  have b_34:=T.b_34
  refine Z3 T.F_35 sc_35 fun cdv A outer s H E hr=>?_
  have Sc:=sc_35
  exact (Zh (Z7 (i:=1) Sc.nd rfl (Or.inr rfl) (XY Yd (Yi (js:=[]) (cn:=[]) (by with_unfolding_all rfl) (by decide +kernel) rfl (by decide +kernel) rfl (by with_unfolding_all rfl) rfl (by with_unfolding_all rfl) (by decide +kernel)) rfl (YN (ZF G_34 (hr.mono (by decide)) rfl T.g_strikes T.k_34 b_34 Zt (Zd (Zf 0) Zl))) (fun _ _ _ _ => WK) (fun _ _ _ _ => (TF (Zf 0) Zo))))
      (Zn (ZG (XY Yd (Yi (js:=[1]) (cn:=["struck"]) (by with_unfolding_all rfl) (by decide +kernel) rfl (by decide +kernel) rfl (by with_unfolding_all rfl) rfl (by with_unfolding_all rfl) (by decide +kernel)) rfl (YN (WI (Zf 0) T.cl_Orders T.m_18 G_18 (hr.mono (by decide)) b_18 Zt)) (fun _ _ _ _=>(Y7 (qt_nin (Zf 0) (Zf 1)))) (fun _ _ _ _=>(Zf 0))))))
theorem ok_law (T:All K mg c a):FnOk P w K mg base (CXw P w) 15 a.f_36 a.d_36 ["script"] (spM 1 (g_law c)):=by
  have G_5:=SA (P:=P) (w:=w) (base:=base) T
  have b_5:=T.b_5
  have G_6:=Sx (P:=P) (w:=w) (base:=base) T
  have b_6:=T.b_6
  have G_7:=TQ (P:=P) (w:=w) (base:=base) T
  have b_7:=T.b_7
  have G_14:=SB (P:=P) (w:=w) (base:=base) T
  have b_14:=T.b_14
  have G_13:=Ts (P:=P) (w:=w) (base:=base) T
  have b_13:=T.b_13
  have G_0:=Tb (P:=P) (w:=w) (base:=base) T
  have b_0:=T.b_0
  have G_4:=QE (P:=P) (w:=w) (base:=base) T
  have b_4:=T.b_4
  have G_27:=Sy (P:=P) (w:=w) (base:=base) T
  have b_27:=T.b_27
  have G_26:=U2 (P:=P) (w:=w) (base:=base) T
  have b_26:=T.b_26
  have G_25:=ok_force (P:=P) (w:=w) (base:=base) T
  have b_25:=T.b_25
  have G_24:=X9 (P:=P) (w:=w) (base:=base) T
  have b_24:=T.b_24
  have G_35:=ok_settled (P:=P) (w:=w) (base:=base) T
  have b_35:=T.b_35
  have G_34:=UV (P:=P) (w:=w) (base:=base) T
  have b_34:=T.b_34
  refine Z3 T.F_36 sc_36 fun cdv A outer s H E hr=>?_
  have Sc:=sc_36
  exact (Zh (Z7 (i:=1) Sc.nd rfl (Or.inl rfl) (Uh (ZF G_0 (hr.mono (by decide)) rfl T.g__law_cell_at T.k_0 b_0 Zt (Zd (Zf 0) (Zd Zo Zl))) Zo))
      (Zh (Z7 (i:=2) Sc.nd rfl (Or.inl rfl) (Uh (ZF G_0 (hr.mono (by decide)) rfl T.g__law_cell_at T.k_0 b_0 Zt (Zd (Zf 0) (Zd Zo Zl))) (YE (Zf 1) Zo)))
      (Zh (Z7 (i:=3) Sc.nd rfl (Or.inl rfl) (Uh (ZF G_0 (hr.mono (by decide)) rfl T.g__law_cell_at T.k_0 b_0 Zt (Zd (Zf 0) (Zd Zo Zl))) (qe_sub (YE (Zf 1) Zo) (Zf 2))))
      (Zh (YA (WO hr.units (Uh (ZF G_0 (hr.mono (by decide)) rfl T.g__law_cell_at T.k_0 b_0 Zt (Zd (Zf 0) (Zd Zo Zl))) Zo) Zo) (Zn (Z7 (i:=3) Sc.nd rfl (Or.inl rfl) (qe_min2 rfl rfl T.z_min boot_min (Zd (qe_sub (Zf 1) (Zf 2)) (Zd (qe_max2 rfl rfl T.z_max boot_max (Zd Zo (Zd (qe_sub (Zf 2) (Uh (qe_div (ZF G_0 (hr.mono (by decide)) rfl T.g__law_cell_at T.k_0 b_0 Zt (Zd (Zf 0) (Zd Zo Zl))) Zo) Zo)) Zl))) Zl))))) ZW)
      (Zh (Z7 (i:=4) Sc.nd rfl (Or.inl rfl) (RY T.mk_Board G_5 (hr.mono (by decide)) rfl T.c_Board b_5 Zt (Zd (ZF G_4 (hr.mono (by decide)) rfl T.g__law_star T.k_4 b_4 Zt (Zd (Zf 1) Zl)) Zl)))
      (Zh (ZX (Zu (Zf 4) T.cl_Board T.m_6 G_6 (hr.mono (by decide)) b_6 Zt (Zd Zo (Zd Zo Zl))))
      (Zh (ZX (Zu (Zf 4) T.cl_Board T.m_6 G_6 (hr.mono (by decide)) b_6 Zt (Zd Zo (Zd Zo Zl))))
      (Zh (Z7 (i:=5) Sc.nd rfl (Or.inr rfl) (XY Yd (Yi (js:=[0]) (cn:=["script"]) (by with_unfolding_all rfl) (by decide +kernel) rfl (by decide +kernel) rfl (by with_unfolding_all rfl) rfl (by with_unfolding_all rfl) (by decide +kernel)) rfl (Wb rfl T.z_range (Zf 1)) (fun _ _ _ _=>WK) (fun _ _ _ _=>(Uh (YE (ZF G_0 (hr.mono (by decide)) rfl T.g__law_cell_at T.k_0 b_0 US (Zd (Zf 1) (Zd Zo Zl))) (qe_mul (Zf 0) (ZF G_0 (hr.mono (by decide)) rfl T.g__law_cell_at T.k_0 b_0 US (Zd (Zf 1) (Zd Zo Zl))))) Zo))))
      (Zh (UD PassesOwn.leaving rfl (Wb rfl T.z_range (Zf 1)) (Xs (i:=6) Sc.nd rfl (Or.inl rfl)) (Xh 6) (Zn (ZX (Zu (Zf 4) T.cl_Board T.m_6 G_6 (hr.mono (by decide)) b_6 Zt (Zd (YE Zo (Zf 6)) (Zd (TF (Zf 5) (Zf 6)) Zl))))))
      (Zh (Z7 (i:=7) Sc.nd rfl (Or.inl rfl) (RY T.mk_Orders G_7 (hr.mono (by decide)) rfl T.c_Orders b_7 Zt (Zd (Zf 4) Zl)))
      (Zh (ZX (Zu (Zf 7) T.cl_Orders T.m_13 G_13 (hr.mono (by decide)) b_13 Zt (Zd Zo (Zd Zo Zl))))
      (Zh (UD PassesOwn.leaving rfl (Wb rfl T.z_range (YE (Zf 2) (Zf 3))) (Xs (i:=6) Sc.nd rfl (Or.inl rfl)) (Xh 6) (Zn (YA (qt_lt (Zf 6) (Zf 2)) (Zn (ZX (Zu (Zf 7) T.cl_Orders T.m_14 G_14 (hr.mono (by decide)) b_14 Zt (Zd (YE Zo (Zf 6)) (Zd Zo (Zd Zo Zl)))))) (Zn (ZX (Zu (Zf 7) T.cl_Orders T.m_14 G_14 (hr.mono (by decide)) b_14 Zt (Zd (YE Zo (Zf 6)) (Zd Zo (Zd Zo Zl)))))))))
      (Zh (Z7 (i:=8) Sc.nd rfl (Or.inl rfl) (YE Zo (Ss rfl T.z_len (Zd (XY Yd (Yi (js:=[5]) (cn:=["sides"]) (by with_unfolding_all rfl) (by decide +kernel) rfl (by decide +kernel) rfl (by with_unfolding_all rfl) rfl (by with_unfolding_all rfl) (by decide +kernel)) rfl (Wb rfl T.z_range (Zf 2)) (fun _ _ _ _=>(Y7 (Vn hr.units (TF (Zf 1) (Zf 0)) Zo))) (fun _ _ _ _=>(Zf 0))) Zl))))
      (Zh (YA (PW.pt (qw_or (Vn hr.units (ZF G_25 (hr.mono (by decide)) rfl T.g_force T.k_25 b_25 Zt (Zd (Zf 7) (Zd Zo Zl))) (YE Zo (Zf 2))) (Qt (Vn hr.units (ZF G_24 (hr.mono (by decide)) rfl T.g_force_against T.k_24 b_24 Zt (Zd (Zf 7) (Zd Zo (Zd Zo Zl)))) (Zf 8))))) (Zn (ZG RS)) ZW)
      (Zh (YA (PW.pt (qw_or (Vn hr.units (ZF G_26 (hr.mono (by decide)) rfl T.g_firmness T.k_26 b_26 Zt (Zd (Zf 7) (Zd Zo Zl))) (YE Zo (Zf 3))) (Qt (qt_not (VI (ZF G_27 (hr.mono (by decide)) rfl T.g__law_whole T.k_27 b_27 Zt (Zd (ZF G_26 (hr.mono (by decide)) rfl T.g_firmness T.k_26 b_26 Zt (Zd (Zf 7) (Zd Zo Zl))) Zl))))))) (Zn (ZG RS)) ZW)
      (Zh (YA (qt_gt (Zf 8) (YE Zo (Zf 3))) (Zn (ZG (WJ (UP hr.units (ZF G_35 (hr.mono (by decide)) rfl T.g_settled T.k_35 b_35 Zt (Zd (Zf 7) Zl)) (Wm (Zd Zo Zl))) (Uu (UP hr.units (ZF G_34 (hr.mono (by decide)) rfl T.g_strikes T.k_34 b_34 Zt (Zd (Zf 7) Zl)) (Wm Zl)))))) ZW)
      (Zn (ZG (WJ (UP hr.units (ZF G_35 (hr.mono (by decide)) rfl T.g_settled T.k_35 b_35 Zt (Zd (Zf 7) Zl)) (Wm Zl)) (Uu (UP hr.units (ZF G_34 (hr.mono (by decide)) rfl T.g_strikes T.k_34 b_34 Zt (Zd (Zf 7) Zl)) (Wm (Zd (Vz (Zd Zo (Zd Zo (Zd Zo Zl)))) Zl)))))))))))))))))))))))
end
end MP
namespace MP
open PySem L2
theorem p1 {K:PySem.W.Frag} {x y:Option (Option Value)} (g:GK K) (i:Nat) (h1:nth (obsR K) i=some x) (h2:nth expR i=some y):x=y:=WR g.1 i h1 h2
theorem p2 {K:PySem.W.Frag} {x y:Bool} (g:GK K) (i:Nat) (h1:nth (obsB K) i=some x) (h2:nth expB i=some y):x=y:=WR g.2.1 i h1 h2
theorem p3 {K:PySem.W.Frag} {x y:Option (FuncData × Bool)} (g:GK K) (i:Nat) (h1:nth (obsF K) i=some x) (h2:nth expF i=some y):x=y:=WR g.2.2.1 i h1 h2
theorem gk_F {l : PySem.W.OpenLaw} {w : World} {K : PySem.W.Frag} {h : Heap} {mg : Str -> Option Value} {fa : Addr} (g : GK K) (X : K.In h) (G : h.Ns mainGlobals mg) (hfa : mg "law" = some (.ref fa)) :
    ∃fd:FuncData,(∀(s:Shared) (v:Value),BindsTo s fd ⟨[v],[]⟩ [("script",v)])∧∀base:Heap,K.In base->base.Ns mainGlobals mg->FnOk l.prog w K mg base (CXw l.prog w) 15 fa fd ["script"] (spLaw K):=by
  obtain ⟨_,v_FACED⟩:=int_l (WR g.2.2.2.1 0 rfl rfl)
  obtain ⟨_,v_FREE⟩:=int_l (WR g.2.2.2.1 1 rfl rfl)
  obtain ⟨_,v_HELD⟩:=int_l (WR g.2.2.2.1 2 rfl rfl)
  obtain ⟨_,v_LAST_SIDE⟩:=int_l (WR g.2.2.2.1 3 rfl rfl)
  obtain ⟨_,v_RIVAL⟩:=int_l (WR g.2.2.2.1 4 rfl rfl)
  obtain ⟨_,_,_,_,l_STAND⟩:=tup_l (WR g.2.2.2.2.1 0 rfl rfl)
  have a_Map:=(p1 g 0 rfl rfl)
  have a_Board:=(p1 g 1 rfl rfl)
  have a_Orders:=(p1 g 2 rfl rfl)
  have a_OrderError:=(p1 g 3 rfl rfl)
  have a_NoPlace:=(p1 g 4 rfl rfl)
  have a_NoSide:=(p1 g 5 rfl rfl)
  have a_Crowded:=(p1 g 6 rfl rfl)
  have a_NoUnit:=(p1 g 7 rfl rfl)
  have a_OutOfReach:=(p1 g 8 rfl rfl)
  have a_STAND:=(p1 g 9 rfl rfl)
  have a_0:=(p1 g 10 rfl rfl)
  have l_0:=(YD (p3 g 0 rfl rfl))
  have c_0:=(YC (p3 g 0 rfl rfl))
  have k_0:=(p2 g 0 rfl rfl)
  have a_1:=(p1 g 11 rfl rfl)
  have i_1:=(p2 g 1 rfl rfl)
  have l_1:=(YD (p3 g 1 rfl rfl))
  have c_1:=(YC (p3 g 1 rfl rfl))
  have k_1:=(p2 g 2 rfl rfl)
  have a_2:=(p1 g 12 rfl rfl)
  have i_2:=(p2 g 3 rfl rfl)
  have l_2:=(YD (p3 g 2 rfl rfl))
  have c_2:=(YC (p3 g 2 rfl rfl))
  have k_2:=(p2 g 4 rfl rfl)
  have a_3:=(p1 g 13 rfl rfl)
  have i_3:=(p2 g 5 rfl rfl)
  have l_3:=(YD (p3 g 3 rfl rfl))
  have c_3:=(YC (p3 g 3 rfl rfl))
  have k_3:=(p2 g 6 rfl rfl)
  have a_4:=(p1 g 14 rfl rfl)
  have l_4:=(YD (p3 g 4 rfl rfl))
  have c_4:=(YC (p3 g 4 rfl rfl))
  have k_4:=(p2 g 7 rfl rfl)
  have a_5:=(p1 g 15 rfl rfl)
  have i_5:=(p2 g 8 rfl rfl)
  have l_5:=(YD (p3 g 5 rfl rfl))
  have c_5:=(YC (p3 g 5 rfl rfl))
  have k_5:=(p2 g 9 rfl rfl)
  have a_6:=(p1 g 16 rfl rfl)
  have i_6:=(p2 g 10 rfl rfl)
  have l_6:=(YD (p3 g 6 rfl rfl))
  have c_6:=(YC (p3 g 6 rfl rfl))
  have k_6:=(p2 g 11 rfl rfl)
  have a_7:=(p1 g 17 rfl rfl)
  have i_7:=(p2 g 12 rfl rfl)
  have l_7:=(YD (p3 g 7 rfl rfl))
  have c_7:=(YC (p3 g 7 rfl rfl))
  have k_7:=(p2 g 13 rfl rfl)
  have a_8:=(p1 g 18 rfl rfl)
  have i_8:=(p2 g 14 rfl rfl)
  have l_8:=(YD (p3 g 8 rfl rfl))
  have c_8:=(YC (p3 g 8 rfl rfl))
  have k_8:=(p2 g 15 rfl rfl)
  have a_9:=(p1 g 19 rfl rfl)
  have i_9:=(p2 g 16 rfl rfl)
  have l_9:=(YD (p3 g 9 rfl rfl))
  have c_9:=(YC (p3 g 9 rfl rfl))
  have k_9:=(p2 g 17 rfl rfl)
  have a_10:=(p1 g 20 rfl rfl)
  have i_10:=(p2 g 18 rfl rfl)
  have l_10:=(YD (p3 g 10 rfl rfl))
  have c_10:=(YC (p3 g 10 rfl rfl))
  have k_10:=(p2 g 19 rfl rfl)
  have a_11:=(p1 g 21 rfl rfl)
  have i_11:=(p2 g 20 rfl rfl)
  have l_11:=(YD (p3 g 11 rfl rfl))
  have c_11:=(YC (p3 g 11 rfl rfl))
  have k_11:=(p2 g 21 rfl rfl)
  have a_12:=(p1 g 22 rfl rfl)
  have i_12:=(p2 g 22 rfl rfl)
  have l_12:=(YD (p3 g 12 rfl rfl))
  have c_12:=(YC (p3 g 12 rfl rfl))
  have k_12:=(p2 g 23 rfl rfl)
  have a_13:=(p1 g 23 rfl rfl)
  have i_13:=(p2 g 24 rfl rfl)
  have l_13:=(YD (p3 g 13 rfl rfl))
  have c_13:=(YC (p3 g 13 rfl rfl))
  have k_13:=(p2 g 25 rfl rfl)
  have a_14:=(p1 g 24 rfl rfl)
  have i_14:=(p2 g 26 rfl rfl)
  have l_14:=(YD (p3 g 14 rfl rfl))
  have c_14:=(YC (p3 g 14 rfl rfl))
  have k_14:=(p2 g 27 rfl rfl)
  have a_15:=(p1 g 25 rfl rfl)
  have i_15:=(p2 g 28 rfl rfl)
  have l_15:=(YD (p3 g 15 rfl rfl))
  have c_15:=(YC (p3 g 15 rfl rfl))
  have k_15:=(p2 g 29 rfl rfl)
  have a_16:=(p1 g 26 rfl rfl)
  have i_16:=(p2 g 30 rfl rfl)
  have l_16:=(YD (p3 g 16 rfl rfl))
  have c_16:=(YC (p3 g 16 rfl rfl))
  have k_16:=(p2 g 31 rfl rfl)
  have a_17:=(p1 g 27 rfl rfl)
  have i_17:=(p2 g 32 rfl rfl)
  have l_17:=(YD (p3 g 17 rfl rfl))
  have c_17:=(YC (p3 g 17 rfl rfl))
  have k_17:=(p2 g 33 rfl rfl)
  have a_18:=(p1 g 28 rfl rfl)
  have i_18:=(p2 g 34 rfl rfl)
  have l_18:=(YD (p3 g 18 rfl rfl))
  have c_18:=(YC (p3 g 18 rfl rfl))
  have k_18:=(p2 g 35 rfl rfl)
  have a_19:=(p1 g 29 rfl rfl)
  have l_19:=(YD (p3 g 19 rfl rfl))
  have c_19:=(YC (p3 g 19 rfl rfl))
  have k_19:=(p2 g 36 rfl rfl)
  have a_20:=(p1 g 30 rfl rfl)
  have l_20:=(YD (p3 g 20 rfl rfl))
  have c_20:=(YC (p3 g 20 rfl rfl))
  have k_20:=(p2 g 37 rfl rfl)
  have a_21:=(p1 g 31 rfl rfl)
  have l_21:=(YD (p3 g 21 rfl rfl))
  have c_21:=(YC (p3 g 21 rfl rfl))
  have k_21:=(p2 g 38 rfl rfl)
  have a_22:=(p1 g 32 rfl rfl)
  have l_22:=(YD (p3 g 22 rfl rfl))
  have c_22:=(YC (p3 g 22 rfl rfl))
  have k_22:=(p2 g 39 rfl rfl)
  have a_23:=(p1 g 33 rfl rfl)
  have l_23:=(YD (p3 g 23 rfl rfl))
  have c_23:=(YC (p3 g 23 rfl rfl))
  have k_23:=(p2 g 40 rfl rfl)
  have a_24:=(p1 g 34 rfl rfl)
  have l_24:=(YD (p3 g 24 rfl rfl))
  have c_24:=(YC (p3 g 24 rfl rfl))
  have k_24:=(p2 g 41 rfl rfl)
  have a_25:=(p1 g 35 rfl rfl)
  have l_25:=(YD (p3 g 25 rfl rfl))
  have c_25:=(YC (p3 g 25 rfl rfl))
  have k_25:=(p2 g 42 rfl rfl)
  have a_26:=(p1 g 36 rfl rfl)
  have l_26:=(YD (p3 g 26 rfl rfl))
  have c_26:=(YC (p3 g 26 rfl rfl))
  have k_26:=(p2 g 43 rfl rfl)
  have a_27:=(p1 g 37 rfl rfl)
  have l_27:=(YD (p3 g 27 rfl rfl))
  have c_27:=(YC (p3 g 27 rfl rfl))
  have k_27:=(p2 g 44 rfl rfl)
  have a_28:=(p1 g 38 rfl rfl)
  have l_28:=(YD (p3 g 28 rfl rfl))
  have c_28:=(YC (p3 g 28 rfl rfl))
  have k_28:=(p2 g 45 rfl rfl)
  have a_29:=(p1 g 39 rfl rfl)
  have l_29:=(YD (p3 g 29 rfl rfl))
  have c_29:=(YC (p3 g 29 rfl rfl))
  have k_29:=(p2 g 46 rfl rfl)
  have a_30:=(p1 g 40 rfl rfl)
  have l_30:=(YD (p3 g 30 rfl rfl))
  have c_30:=(YC (p3 g 30 rfl rfl))
  have k_30:=(p2 g 47 rfl rfl)
  have a_31:=(p1 g 41 rfl rfl)
  have l_31:=(YD (p3 g 31 rfl rfl))
  have c_31:=(YC (p3 g 31 rfl rfl))
  have k_31:=(p2 g 48 rfl rfl)
  have a_32:=(p1 g 42 rfl rfl)
  have l_32:=(YD (p3 g 32 rfl rfl))
  have c_32:=(YC (p3 g 32 rfl rfl))
  have k_32:=(p2 g 49 rfl rfl)
  have a_33:=(p1 g 43 rfl rfl)
  have l_33:=(YD (p3 g 33 rfl rfl))
  have c_33:=(YC (p3 g 33 rfl rfl))
  have k_33:=(p2 g 50 rfl rfl)
  have a_34:=(p1 g 44 rfl rfl)
  have l_34:=(YD (p3 g 34 rfl rfl))
  have c_34:=(YC (p3 g 34 rfl rfl))
  have k_34:=(p2 g 51 rfl rfl)
  have a_35:=(p1 g 45 rfl rfl)
  have l_35:=(YD (p3 g 35 rfl rfl))
  have c_35:=(YC (p3 g 35 rfl rfl))
  have k_35:=(p2 g 52 rfl rfl)
  have a_36:=(p1 g 46 rfl rfl)
  have l_36:=(YD (p3 g 36 rfl rfl))
  have c_36:=(YC (p3 g 36 rfl rfl))
  have k_36:=(p2 g 53 rfl rfl)
  have pg_Board:=(p2 g 54 rfl rfl)
  have hd_Board:=(p2 g 55 rfl rfl)
  have po_Board:=(p2 g 56 rfl rfl)
  have sa_Board:=(p1 g 47 rfl rfl)
  have pg_Map:=(p2 g 57 rfl rfl)
  have hd_Map:=(p2 g 58 rfl rfl)
  have po_Map:=(p2 g 59 rfl rfl)
  have sa_Map:=(p1 g 48 rfl rfl)
  have pg_Orders:=(p2 g 60 rfl rfl)
  have hd_Orders:=(p2 g 61 rfl rfl)
  have po_Orders:=(p2 g 62 rfl rfl)
  have sa_Orders:=(p1 g 49 rfl rfl)
  have n_Board_chart:=(p1 g 50 rfl rfl)
  have n_Board_units:=(p1 g 51 rfl rfl)
  have n_Map_links:=(p1 g 52 rfl rfl)
  have n_Map_size:=(p1 g 53 rfl rfl)
  have n_Orders_board:=(p1 g 54 rfl rfl)
  have n_Orders_given:=(p1 g 55 rfl rfl)
  have mm_Board:=(p2 g 63 rfl rfl)
  have kp_Board:=(p2 g 64 rfl rfl)
  have mm_Map:=(p2 g 65 rfl rfl)
  have kp_Map:=(p2 g 66 rfl rfl)
  have mm_Orders:=(p2 g 67 rfl rfl)
  have kp_Orders:=(p2 g 68 rfl rfl)
  have x_Crowded:=(p2 g 69 rfl rfl)
  have x_NoPlace:=(p2 g 70 rfl rfl)
  have x_NoSide:=(p2 g 71 rfl rfl)
  have x_NoUnit:=(p2 g 72 rfl rfl)
  have x_OutOfReach:=(p2 g 73 rfl rfl)
  have z_any:=(p1 g 56 rfl rfl)
  have z_bool:=(p1 g 57 rfl rfl)
  have z_int:=(p1 g 58 rfl rfl)
  have z_isinstance:=(p1 g 59 rfl rfl)
  have z_len:=(p1 g 60 rfl rfl)
  have z_max:=(p1 g 61 rfl rfl)
  have z_min:=(p1 g 62 rfl rfl)
  have z_range:=(p1 g 63 rfl rfl)
  have z_sorted:=(p1 g 64 rfl rfl)
  have t_bool:=(WR g.2.2.2.2.2.1 0 rfl rfl)
  have t_int:=(WR g.2.2.2.2.2.1 1 rfl rfl)
  have noL:=(p2 g 74 rfl rfl)
  have e:=hfa.symm.trans (PySem.W.mg_of X G a_36)
  cases e
  have F_0:=ZN (st:=st_0) l_0 c_0 k_0
  have b_0:=F_0.binds (ps:=["script","k"]) fun _ _ _ _ _ _ us hl=>match us,hl with|[_,_],_=>rfl
  have F_1:=ZN (st:=st_1) l_1 c_1 k_1
  have b_1:=F_1.binds (ps:=["self","size"]) fun _ _ _ _ _ _ us hl=>match us,hl with|[_,_],_=>rfl
  have F_2:=ZN (st:=st_2) l_2 c_2 k_2
  have b_2:=F_2.binds (ps:=["self","at"]) fun _ _ _ _ _ _ us hl=>match us,hl with|[_,_],_=>rfl
  have F_3:=ZN (st:=st_3) l_3 c_3 k_3
  have b_3:=F_3.binds (ps:=["self","a","b"]) fun _ _ _ _ _ _ us hl=>match us,hl with|[_,_,_],_=>rfl
  have F_4:=ZN (st:=st_4) l_4 c_4 k_4
  have b_4:=F_4.binds (ps:=["many"]) fun _ _ _ _ _ _ us hl=>match us,hl with|[_],_=>rfl
  have F_5:=ZN (st:=st_5) l_5 c_5 k_5
  have b_5:=F_5.binds (ps:=["self","chart"]) fun _ _ _ _ _ _ us hl=>match us,hl with|[_,_],_=>rfl
  have F_6:=ZN (st:=st_6) l_6 c_6 k_6
  have b_6:=F_6.binds (ps:=["self","at","side"]) fun _ _ _ _ _ _ us hl=>match us,hl with|[_,_,_],_=>rfl
  have F_7:=ZN (st:=st_7) l_7 c_7 k_7
  have b_7:=F_7.binds (ps:=["self","board"]) fun _ _ _ _ _ _ us hl=>match us,hl with|[_,_],_=>rfl
  have F_8:=ZN (st:=st_8) l_8 c_8 k_8
  have b_8:=F_8.binds (ps:=["self","at"]) fun _ _ _ _ _ _ us hl=>match us,hl with|[_,_],_=>rfl
  have F_9:=ZN (st:=st_9) l_9 c_9 k_9
  have b_9:=F_9.binds (ps:=["self","at"]) fun _ _ _ _ _ _ us hl=>match us,hl with|[_,_],_=>rfl
  have F_10:=ZN (st:=S4) l_10 c_10 k_10
  have b_10:=F_10.binds (ps:=["self","places","units"]) fun _ _ _ _ _ _ us hl=>match us,hl with|[_,_,_],_=>rfl
  have F_11:=ZN (st:=Rx) l_11 c_11 k_11
  have b_11:=F_11.binds (ps:=["self","a","b"]) fun _ _ _ _ _ _ us hl=>match us,hl with|[_,_,_],_=>rfl
  have F_12:=ZN (st:=RE) l_12 c_12 k_12
  have b_12:=F_12.binds (ps:=["self","at","goal"]) fun _ _ _ _ _ _ us hl=>match us,hl with|[_,_,_],_=>rfl
  have F_13:=ZN (st:=Ru) l_13 c_13 k_13
  have b_13:=F_13.binds (ps:=["self","at","goal"]) fun _ _ _ _ _ _ us hl=>match us,hl with|[_,_,_],_=>rfl
  have F_14:=ZN (st:=SW) l_14 c_14 k_14
  have b_14:=F_14.binds (ps:=["self","at","helped","goal"]) fun _ _ _ _ _ _ us hl=>match us,hl with|[_,_,_,_],_=>rfl
  have F_15:=ZN (st:=RO) l_15 c_15 k_15
  have b_15:=F_15.binds (ps:=["self","at"]) fun _ _ _ _ _ _ us hl=>match us,hl with|[_,_],_=>rfl
  have F_16:=ZN (st:=Rp) l_16 c_16 k_16
  have b_16:=F_16.binds (ps:=["self"]) fun _ _ _ _ _ _ us hl=>match us,hl with|[_],_=>rfl
  have F_17:=ZN (st:=Rc) l_17 c_17 k_17
  have b_17:=F_17.binds (ps:=["self","at"]) fun _ _ _ _ _ _ us hl=>match us,hl with|[_,_],_=>rfl
  have F_18:=ZN (st:=SN) l_18 c_18 k_18
  have b_18:=F_18.binds (ps:=["self"]) fun _ _ _ _ _ _ us hl=>match us,hl with|[_],_=>rfl
  have F_19:=ZN (st:=SQ) l_19 c_19 k_19
  have b_19:=F_19.binds (ps:=["orders","at"]) fun _ _ _ _ _ _ us hl=>match us,hl with|[_,_],_=>rfl
  have F_20:=ZN (st:=SV) l_20 c_20 k_20
  have b_20:=F_20.binds (ps:=["orders","helped","goal"]) fun _ _ _ _ _ _ us hl=>match us,hl with|[_,_,_],_=>rfl
  have F_21:=ZN (st:=RT) l_21 c_21 k_21
  have b_21:=F_21.binds (ps:=["orders","at"]) fun _ _ _ _ _ _ us hl=>match us,hl with|[_,_],_=>rfl
  have F_22:=ZN (st:=SR) l_22 c_22 k_22
  have b_22:=F_22.binds (ps:=["orders","helper","at"]) fun _ _ _ _ _ _ us hl=>match us,hl with|[_,_,_],_=>rfl
  have F_23:=ZN (st:=RF) l_23 c_23 k_23
  have b_23:=F_23.binds (ps:=["orders","at"]) fun _ _ _ _ _ _ us hl=>match us,hl with|[_,_],_=>rfl
  have F_24:=ZN (st:=Rz) l_24 c_24 k_24
  have b_24:=F_24.binds (ps:=["orders","at","side"]) fun _ _ _ _ _ _ us hl=>match us,hl with|[_,_,_],_=>rfl
  have F_25:=ZN (st:=Rb) l_25 c_25 k_25
  have b_25:=F_25.binds (ps:=["orders","at"]) fun _ _ _ _ _ _ us hl=>match us,hl with|[_,_],_=>rfl
  have F_26:=ZN (st:=S6) l_26 c_26 k_26
  have b_26:=F_26.binds (ps:=["orders","at"]) fun _ _ _ _ _ _ us hl=>match us,hl with|[_,_],_=>rfl
  have F_27:=ZN (st:=SX) l_27 c_27 k_27
  have b_27:=F_27.binds (ps:=["found"]) fun _ _ _ _ _ _ us hl=>match us,hl with|[_],_=>rfl
  have F_28:=ZN (st:=Rh) l_28 c_28 k_28
  have b_28:=F_28.binds (ps:=["orders"]) fun _ _ _ _ _ _ us hl=>match us,hl with|[_],_=>rfl
  have F_29:=ZN (st:=RA) l_29 c_29 k_29
  have b_29:=F_29.binds (ps:=["orders","forces","at"]) fun _ _ _ _ _ _ us hl=>match us,hl with|[_,_,_],_=>rfl
  have F_30:=ZN (st:=Ro) l_30 c_30 k_30
  have b_30:=F_30.binds (ps:=["orders","at","goal","strength"]) fun _ _ _ _ _ _ us hl=>match us,hl with|[_,_,_,_],_=>rfl
  have F_31:=ZN (st:=Ra) l_31 c_31 k_31
  have b_31:=F_31.binds (ps:=["orders","forces","at"]) fun _ _ _ _ _ _ us hl=>match us,hl with|[_,_,_],_=>rfl
  have F_32:=ZN (st:=SK) l_32 c_32 k_32
  have b_32:=F_32.binds (ps:=["orders"]) fun _ _ _ _ _ _ us hl=>match us,hl with|[_],_=>rfl
  have F_33:=ZN (st:=RG) l_33 c_33 k_33
  have b_33:=F_33.binds (ps:=["orders","found","at","places"]) fun _ _ _ _ _ _ us hl=>match us,hl with|[_,_,_,_],_=>rfl
  have F_34:=ZN (st:=SO) l_34 c_34 k_34
  have b_34:=F_34.binds (ps:=["orders"]) fun _ _ _ _ _ _ us hl=>match us,hl with|[_],_=>rfl
  have F_35:=ZN (st:=Rw) l_35 c_35 k_35
  have b_35:=F_35.binds (ps:=["orders"]) fun _ _ _ _ _ _ us hl=>match us,hl with|[_],_=>rfl
  have F_36:=ZN (st:=Rg) l_36 c_36 k_36
  have b_36:=F_36.binds (ps:=["script"]) fun _ _ _ _ _ _ us hl=>match us,hl with|[_],_=>rfl
  have T:All K mg ⟨245,196,321,245,81,94,106,118,130,142,250,fun C D=>(PySem.W.kitOne K (.ref C) D).getD false,fun O C=>decide (PySem.W.exmOne K (.ref C) (.ref O)=some true)⟩ ⟨382,_,214,_,221,_,228,_,396,_,158,_,165,_,264,_,172,_,179,_,311,_,235,_,318,_,278,_,285,_,304,_,193,_,292,_,297,_,26,_,33,_,40,_,47,_,52,_,64,_,59,_,71,_,389,_,332,_,337,_,344,_,351,_,358,_,365,_,370,_,375,_,401,_⟩:=⟨⟨pg_Board,hd_Board,po_Board,sa_Board⟩,
    ⟨pg_Map,hd_Map,po_Map,sa_Map⟩,
    ⟨pg_Orders,hd_Orders,po_Orders,sa_Orders⟩,
    n_Board_chart,
    n_Board_units,
    n_Map_links,
    n_Map_size,
    n_Orders_board,
    n_Orders_given,
    ⟨mm_Board,a_5,i_5,kp_Board⟩,
    ⟨mm_Map,a_1,i_1,kp_Map⟩,
    ⟨mm_Orders,a_7,i_7,kp_Orders⟩,
    PySem.W.mg_of X G a_Board,
    PySem.W.mg_of X G a_Crowded,
    ⟨_,PySem.W.mg_of X G v_FACED⟩,
    ⟨_,PySem.W.mg_of X G v_FREE⟩,
    ⟨_,PySem.W.mg_of X G v_HELD⟩,
    ⟨_,PySem.W.mg_of X G v_LAST_SIDE⟩,
    PySem.W.mg_of X G a_Map,
    PySem.W.mg_of X G a_NoPlace,
    PySem.W.mg_of X G a_NoSide,
    PySem.W.mg_of X G a_NoUnit,
    PySem.W.mg_of X G a_Orders,
    PySem.W.mg_of X G a_OutOfReach,
    ⟨_,PySem.W.mg_of X G v_RIVAL⟩,
    PySem.W.mg_of X G a_STAND,
    GTup.of l_STAND,
    x_Crowded,
    x_NoPlace,
    x_NoSide,
    x_NoUnit,
    x_OutOfReach,
    PySem.W.mg_none_of X G z_any,
    PySem.W.mg_none_of X G z_bool,
    PySem.W.mg_none_of X G z_int,
    PySem.W.mg_none_of X G z_isinstance,
    PySem.W.mg_none_of X G z_len,
    PySem.W.mg_none_of X G z_max,
    PySem.W.mg_none_of X G z_min,
    PySem.W.mg_none_of X G z_range,
    PySem.W.mg_none_of X G z_sorted,
    KIsi.of t_bool,
    KIsi.of t_int,
    F_0,
    b_0,
    PySem.W.mg_of X G a_0,
    k_0,
    F_1,
    b_1,
    F_2,
    b_2,
    ⟨a_2,i_2,k_2⟩,
    F_3,
    b_3,
    ⟨a_3,i_3,k_3⟩,
    F_4,
    b_4,
    PySem.W.mg_of X G a_4,
    k_4,
    F_5,
    b_5,
    F_6,
    b_6,
    ⟨a_6,i_6,k_6⟩,
    F_7,
    b_7,
    F_8,
    b_8,
    ⟨a_8,i_8,k_8⟩,
    F_9,
    b_9,
    ⟨a_9,i_9,k_9⟩,
    F_10,
    b_10,
    ⟨a_10,i_10,k_10⟩,
    F_11,
    b_11,
    ⟨a_11,i_11,k_11⟩,
    F_12,
    b_12,
    ⟨a_12,i_12,k_12⟩,
    F_13,
    b_13,
    ⟨a_13,i_13,k_13⟩,
    F_14,
    b_14,
    ⟨a_14,i_14,k_14⟩,
    F_15,
    b_15,
    ⟨a_15,i_15,k_15⟩,
    F_16,
    b_16,
    ⟨a_16,i_16,k_16⟩,
    F_17,
    b_17,
    ⟨a_17,i_17,k_17⟩,
    F_18,
    b_18,
    ⟨a_18,i_18,k_18⟩,
    F_19,
    b_19,
    PySem.W.mg_of X G a_19,
    k_19,
    F_20,
    b_20,
    PySem.W.mg_of X G a_20,
    k_20,
    F_21,
    b_21,
    PySem.W.mg_of X G a_21,
    k_21,
    F_22,
    b_22,
    PySem.W.mg_of X G a_22,
    k_22,
    F_23,
    b_23,
    PySem.W.mg_of X G a_23,
    k_23,
    F_24,
    b_24,
    PySem.W.mg_of X G a_24,
    k_24,
    F_25,
    b_25,
    PySem.W.mg_of X G a_25,
    k_25,
    F_26,
    b_26,
    PySem.W.mg_of X G a_26,
    k_26,
    F_27,
    b_27,
    PySem.W.mg_of X G a_27,
    k_27,
    F_28,
    b_28,
    PySem.W.mg_of X G a_28,
    k_28,
    F_29,
    b_29,
    PySem.W.mg_of X G a_29,
    k_29,
    F_30,
    b_30,
    PySem.W.mg_of X G a_30,
    k_30,
    F_31,
    b_31,
    PySem.W.mg_of X G a_31,
    k_31,
    F_32,
    b_32,
    PySem.W.mg_of X G a_32,
    k_32,
    F_33,
    b_33,
    PySem.W.mg_of X G a_33,
    k_33,
    F_34,
    b_34,
    PySem.W.mg_of X G a_34,
    k_34,
    F_35,
    b_35,
    PySem.W.mg_of X G a_35,
    k_35,
    F_36,
    b_36,
    PySem.W.mg_of X G a_36,
    k_36⟩
  refine ⟨_,?_,fun base _ _=>law_fin noL (ok_law T) (law_true _)⟩
  exact fun s v=>.of_eq rfl
theorem walk {l : PySem.W.OpenLaw} {q : Program} {loose : List Str} {XP : (Str -> Option Value) -> Heap -> Prop} {d : DefRec} (hn : l.most = some 63) (hdf : d.params.defaults = []) (hd : d.name = "law") :
    PySem.W.WalkO q loose XP (PySem.W.Hook.says hook) l.row.toRowW d [] (fun f vs=>PySem.call f vs):=by
  refine Att.attach_call hn hdf fun w s₀ s₁ mg mb fa o pm cd doc a vs ns G Y ho hd' hcd hmg hobj hints hlen hg=>?_
  obtain ⟨K,KX,g⟩:=Y
  rw[hd]at hmg
  obtain ⟨fd,hb,hF⟩:=gk_F (l:=l) (w:=w) g KX G.T.g hmg
  exact law_call KX G.T.g G.T.b G.T.builtins G.T.nolimit hg hobj hints (Nat.le_trans hlen (by decide)) ⟨rfl,by decide,by decide⟩ hF hb (fun H hO hS=>⟨a,ns,rfl,hS,hlen,fun _=>rfl⟩) fun H e s' ⟨_,_,_,_,_,z⟩=>z
end MP
open PySem PySem.W PyProof.Rows
set_option maxRecDepth 100000 in
set_option maxHeartbeats 0 in
theorem PySem.Challenge.cw_atonce_k18_many_helpers_holds : PySem.Challenge.rw_atonce_k18_many_helpers.Holds := by
 w_on; o_law
 refine PySem.W.holds_open (q:=MP.view) (loose:=[]) (XP:=PySem.W.XL MP.view []) MP.run (PySem.W.Hook.of MP.hook) (PySem.W.Hook.keeps MP.hook) (fun s e=>PySem.W.xl_of s (Bool.and_eq_true_iff.mp e).1) PySem.W.XL.keeps (by rfl) (by rfl) (by rfl) (fun s e=>PySem.W.recFacts_of (Bool.and_eq_true_iff.mp e).2) (by rfl) (by first|assumption|decide +kernel) (by decide +kernel) ⟨rfl,rfl,rfl,rfl,rfl,by decide +kernel⟩ ?hw ?hc
 case hw=>w_witness2
 case hc=>exact MP.walk (l:=PySem.Challenge.rw_atonce_k18_many_helpers) rfl rfl rfl
